/- A codeword of which few places are wrong is mended to itself: Forney's rule. No program. -/
import Derived.Test.YtkcnmiaedcenoaaSolMath4
namespace SolMath
open GfMath PolyMath RsMath
set_option linter.unusedVariables false

theorem iv_ne' {a : Nat} (ha : a < 256) (h0 : a ≠ 0) : iv a ≠ 0 := fun e => by
  have := gm_iv ha h0
  rw [e, gm_zero_right] at this
  cases this
theorem mk_inv {n l j : Nat} (hn : n ≤ 255) (hl : l < n) (hj : j < n) (h : gm (mrk n l) (iv (mrk n j)) = 1) : l = j := by
  have h1 : gm (mrk n j) (iv (mrk n j)) = 1 := gm_iv (mrk_lt n j) (mrk_pos n j)
  have h2 : mrk n l = mrk n j := by
    refine gm_cancel (iv_lt (mrk n j)) (mrk_lt n l) (mrk_lt n j) (iv_ne' (mrk_lt n j) (mrk_pos n j)) ?_
    rw [gm_comm (iv_lt _) (mrk_lt n l), gm_comm (iv_lt _) (mrk_lt n j), h, h1]
  have := ex_inj (by omega) (by omega) h2
  omega
theorem ev_two {X x : Nat} (hX : X < 256) : ev [X, 1] x = gm X x ^^^ 1 := by
  show gm (gm 0 x ^^^ X) x ^^^ 1 = _
  rw [gm_zero_left, Nat.zero_xor]
theorem ev_pms_two {a b : List Nat} {x : Nat} (ha : By a) (hb : By b) (hx : x < 256) : ev (pms [a, b]) x = gm (ev a x) (ev b x) := by
  rw [pms_two, ev_pm (pm_by (by_one (by omega)) ha.beh) hb.beh hx, ev_pm (by_one (by omega)) ha.beh hx, ev_beh hx ha, ev_beh hx hb]
  rw [show ev [1] x = 1 by show gm 0 x ^^^ 1 = 1; rw [gm_zero_left]; rfl, gm_one_left (ev_lt ha hx)]
theorem xor_eq_zero' {a b : Nat} : a ^^^ b = 0 ↔ a = b := by
  constructor
  · intro h
    have : a ^^^ b ^^^ b = 0 ^^^ b := by rw [h]
    rwa [Nat.xor_assoc, Nat.xor_self, Nat.xor_zero, Nat.zero_xor] at this
  · rintro rfl; exact Nat.xor_self _
def gcnt (G : List Bool) (i : Nat) : Nat := ((List.range i).filter fun j => gAt G j).length
theorem gcnt_succ (G : List Bool) (i : Nat) : gcnt G (i + 1) = gcnt G i + if gAt G i then 1 else 0 := by
  unfold gcnt
  rw [List.range_succ, List.filter_append, List.length_append, List.filter_cons, List.filter_nil]
  cases gAt G i <;> rfl
theorem gcnt_cnt : ∀ (G : List Bool), gcnt G G.length = cnt G := by
  intro G
  have h : ∀ k, k ≤ G.length → gcnt G k = (G.take k).count true := by
    intro k
    induction k with
    | zero => intro _; rfl
    | succ k ih =>
      intro hk
      have e : G.take (k + 1) = G.take k ++ [G[k]] := by
        rw [List.take_succ_eq_append_getElem (by omega)]
      rw [gcnt_succ, ih (by omega), e, List.count_append]
      have : gAt G k = G[k] := by unfold gAt; rw [List.getD_eq_getElem?_getD, List.getElem?_eq_getElem (by omega)]; rfl
      rw [this]
      cases G[k] <;> simp
  rw [h _ (Nat.le_refl _), List.take_length]
  rfl
theorem erF_spec {n : Nat} {G : List Bool} (hn : n ≤ 255) : ∀ i, i ≤ n → (erF n G i).length ≤ gcnt G i + 1 ∧ cf (erF n G i) 0 = 1 ∧ ∀ j, j < n → (ev (erF n G i) (iv (mrk n j)) = 0 ↔ j < i ∧ gAt G j = true)
  | 0, _ => ⟨by simp [erF], rfl, fun j _ => by
      have : ev (erF n G 0) (iv (mrk n j)) = 1 := by show gm 0 _ ^^^ 1 = 1; rw [gm_zero_left]; rfl
      rw [this]
      exact ⟨(fun h => by cases h), fun h => absurd h.1 (by omega)⟩⟩
  | i + 1, hi => by
    obtain ⟨h1, h2, h3⟩ := erF_spec (G := G) hn i (by omega)
    have h8 := (erF_all n G i).1
    have hm8 : By [mrk n i, 1] := by_two (mrk_lt n i) (by omega)
    rw [gcnt_succ]
    cases hg : gAt G i with
    | false =>
      have e : erF n G (i + 1) = erF n G i := by show (if gAt G i then _ else _) = _; rw [hg]; rfl
      rw [e]
      refine ⟨by simpa using h1, h2, fun j hj => (h3 j hj).trans ⟨fun h => ⟨by omega, h.2⟩, fun h => ⟨?_, h.2⟩⟩⟩
      have : j ≠ i := fun e => by rw [e, hg] at h; cases h.2
      omega
    | true =>
      have e : erF n G (i + 1) = pms [erF n G i, [mrk n i, 1]] := by show (if gAt G i then _ else _) = _; rw [hg]; rfl
      rw [e]
      refine ⟨?_, ?_, fun j hj => ?_⟩
      · have := pms_two_le (erF n G i) [mrk n i, 1]
        simp only [List.length_cons, List.length_nil] at this
        simp only [if_true]
        omega
      · rw [cf_pms_two h8 hm8]
        show 0 ^^^ gm (cf (erF n G i) 0) (cf [mrk n i, 1] (0 - 0)) = 1
        rw [h2, show cf [mrk n i, 1] (0 - 0) = 1 from rfl, Nat.zero_xor]
        exact gm_one (by omega)
      · have hx := iv_lt (mrk n j)
        rw [ev_pms_two h8 hm8 hx, ev_two (mrk_lt n i)]
        constructor
        · intro h0
          rcases gm_eq_zero (ev_lt h8 hx) (xor_lt (gm_lt (mrk_lt n i) hx) (by omega)) h0 with h4 | h4
          · have := (h3 j hj).1 h4
            exact ⟨by omega, this.2⟩
          · have := mk_inv hn (by omega) hj (xor_eq_zero'.1 h4)
            subst this
            exact ⟨by omega, hg⟩
        · rintro ⟨h4, h5⟩
          by_cases e2 : j = i
          · subst e2
            rw [gm_iv (mrk_lt n j) (mrk_pos n j), Nat.xor_self, gm_zero_right]
          · rw [(h3 j hj).2 ⟨by omega, h5⟩, gm_zero_left]

/-- The quotient by 1 - X x, from the lowest factor on. -/
def qf (A : List Nat) (X : Nat) : Nat → Nat
  | 0 => cf A 0
  | k + 1 => gm X (qf A X k) ^^^ cf A (k + 1)
theorem qf_lt {A : List Nat} (hA : By A) {X : Nat} (hX : X < 256) : ∀ k, qf A X k < 256
  | 0 => hA.cf 0
  | k + 1 => xor_lt (gm_lt hX (qf_lt hA hX k)) (hA.cf _)
theorem qf_sum {A : List Nat} (hA : By A) {X : Nat} (hX : X < 256) : ∀ k, xs (fun l => gm (cf A l) (pw X (k - l))) (k + 1) = qf A X k
  | 0 => by
    show 0 ^^^ gm (cf A 0) (pw X (0 - 0)) = cf A 0
    rw [Nat.zero_xor]
    exact gm_one (hA.cf 0)
  | k + 1 => by
    have e : xs (fun l => gm (cf A l) (pw X (k + 1 - l))) (k + 1 + 1) = xs (fun l => gm (cf A l) (pw X (k + 1 - l))) (k + 1) ^^^ gm (cf A (k + 1)) (pw X (k + 1 - (k + 1))) := rfl
    rw [e, Nat.sub_self, pw_zero', gm_one (hA.cf _), qf, ← qf_sum hA hX k, xs_gm]
    congr 1
    refine xs_congr _ fun l hl => ?_
    rw [show k + 1 - l = (k - l) + 1 by omega, ← pw_comm hX, ← gm_assoc (hA.cf l) hX (pw_lt hX _), gm_comm (hA.cf l) hX, gm_assoc hX (hA.cf l) (pw_lt hX _)]
theorem qf_far {A : List Nat} (hA : By A) {X : Nat} (hX : X < 256) (h0 : X ≠ 0) (hr : ev A (iv X) = 0) (k : Nat) (hk : A.length ≤ k + 1) : qf A X k = 0 := by
  rw [← qf_sum hA hX k, xs_ext (fun l => gm (cf A l) (pw X (k - l))) hk fun l h _ => by rw [cf_out _ _ h, gm_zero_left], ev_fall hX h0 hA k hk, hr, gm_zero_right]
/-- Its value. -/
def Qe (A : List Nat) (X x N : Nat) : Nat := xs (fun k => gm (qf A X k) (pw x k)) N
theorem Qe_lt {A : List Nat} (hA : By A) {X x : Nat} (hX : X < 256) (hx : x < 256) (N : Nat) : Qe A X x N < 256 := xs_lt _ fun k _ => gm_lt (qf_lt hA hX k) (pw_lt hx k)
theorem xor_four (a c d e : Nat) : a ^^^ (c ^^^ d) ^^^ (c ^^^ e) = a ^^^ d ^^^ e := by
  apply Nat.eq_of_testBit_eq
  intro i
  simp only [Nat.testBit_xor]
  cases a.testBit i <;> cases c.testBit i <;> cases d.testBit i <;> cases e.testBit i <;> rfl
theorem Qe_tele {A : List Nat} (hA : By A) {X x : Nat} (hX : X < 256) (hx : x < 256) : ∀ N, gm (1 ^^^ gm X x) (Qe A X x N) = E (cf A) N x ^^^ gm (qf A X N ^^^ cf A N) (pw x N)
  | 0 => by
    show gm _ 0 = 0 ^^^ gm (cf A 0 ^^^ cf A 0) _
    rw [gm_zero_right, Nat.xor_self, gm_zero_left]
    rfl
  | N + 1 => by
    have hq := qf_lt hA hX N
    have hp := pw_lt hx N
    have e1 : Qe A X x (N + 1) = Qe A X x N ^^^ gm (qf A X N) (pw x N) := rfl
    have e2 : E (cf A) (N + 1) x = E (cf A) N x ^^^ gm (cf A N) (pw x N) := rfl
    have e3 : gm (gm X x) (gm (qf A X N) (pw x N)) = gm (qf A X (N + 1) ^^^ cf A (N + 1)) (pw x (N + 1)) := by
      rw [qf, Nat.xor_assoc, Nat.xor_self, Nat.xor_zero, ← pw_comm hx, gm_assoc hX hx (gm_lt hq hp), ← gm_assoc hx hq hp, gm_comm hx hq, gm_assoc hq hx hp, ← gm_assoc hX hq (gm_lt hx hp)]
    rw [e1, gm_add_right, Qe_tele hA hX hx N, gm_add_left (c := gm (qf A X N) (pw x N)), gm_one_left (gm_lt hq hp), e3, e2, gm_add_left (a := qf A X N)]
    exact xor_four _ _ _ _
theorem Qe_ev {A : List Nat} (hA : By A) {X x : Nat} (hX : X < 256) (h0 : X ≠ 0) (hx : x < 256) (hr : ev A (iv X) = 0) {N : Nat} (hN : A.length ≤ N + 1) : gm (1 ^^^ gm X x) (Qe A X x N) = ev A x := by
  rw [Qe_tele hA hX hx N, qf_far hA hX h0 hr N hN, Nat.zero_xor, ev_E_le hx hA hN]
  rfl
/-- The derivative at the root. -/
theorem dev_root {A : List Nat} (hA : By A) {X : Nat} (hX : X < 256) (h0 : X ≠ 0) : ∀ M, xs (fun k => gm (if k % 2 = 0 then cf A (k + 1) else 0) (pw (iv X) k)) (2 * M) = gm X (Qe A X (iv X) (2 * M))
  | 0 => by show 0 = gm X 0; rw [gm_zero_right]
  | M + 1 => by
    have hx := iv_lt X
    have q0 := qf_lt hA hX (2 * M)
    have p0 := pw_lt hx (2 * M)
    have e1 : ∀ f : Nat → Nat, xs f (2 * (M + 1)) = xs f (2 * M) ^^^ f (2 * M) ^^^ f (2 * M + 1) := fun f => rfl
    have hp : pw (iv X) (2 * M) = gm X (pw (iv X) (2 * M + 1)) := by
      rw [← pw_comm hx, ← gm_assoc hX hx p0, gm_iv hX h0, gm_one_left p0]
    have hc : cf A (2 * M + 1) = gm X (qf A X (2 * M)) ^^^ qf A X (2 * M + 1) := by
      rw [qf, ← Nat.xor_assoc, Nat.xor_self, Nat.zero_xor]
    unfold Qe
    rw [e1, e1, dev_root hA hX h0 M, if_pos (by omega), if_neg (by omega), gm_zero_left, Nat.xor_zero, gm_add_right, gm_add_right]
    unfold Qe
    rw [Nat.xor_assoc]
    congr 1
    rw [hc, gm_add_left, gm_assoc hX q0 p0]
    congr 1
    rw [hp, ← gm_assoc (qf_lt hA hX _) hX (pw_lt hx _), gm_comm (qf_lt hA hX _) hX, gm_assoc hX (qf_lt hA hX _) (pw_lt hx _)]
theorem xs_single {f : Nat → Nat} {i : Nat} : ∀ n, i < n → (∀ j, j < n → j ≠ i → f j = 0) → xs f n = f i
  | 0, h, _ => absurd h (by omega)
  | n + 1, h, hz => by
    have e : xs f (n + 1) = xs f n ^^^ f n := rfl
    rw [e]
    by_cases hi : i = n
    · subst hi
      rw [xs_zero _ fun j hj => hz j (by omega) (by omega), Nat.zero_xor]
    · rw [xs_single n (by omega) fun j hj hne => hz j (by omega) hne, hz n (by omega) (fun e => hi e.symm), Nat.xor_zero]

end SolMath
