/- Division. No program. -/
import Derived.Test.YtpkjannlndnfdaaPolyMath4
namespace PolyMath
open GfMath
set_option linter.unusedVariables false

/-- The first i factors of the quotient, the highest first. -/
def qs (A B : List Nat) : Nat → List Nat
  | 0 => []
  | i + 1 => qs A B i ++ [gm (sq A i ^^^ cvk (sq (qs A B i)) (sq B) i i) (iv (sq B 0))]
theorem qs_length (A B : List Nat) : ∀ i, (qs A B i).length = i
  | 0 => rfl
  | i + 1 => by rw [qs, List.length_append, qs_length A B i]; rfl
theorem sq_append (l m : List Nat) (n : Nat) (h : n < l.length) : sq (l ++ m) n = sq l n := by
  rw [sq_get _ _ (by rw [List.length_append]; omega), sq_get _ _ h, List.getElem_append_left h]
theorem qs_keep (A B : List Nat) (i n : Nat) (h : n < i) : ∀ d, sq (qs A B (i + d)) n = sq (qs A B i) n
  | 0 => rfl
  | d + 1 => by rw [← Nat.add_assoc, qs, sq_append _ _ _ (by rw [qs_length]; omega), qs_keep A B i n h d]
theorem cvk_congr {f f' g : Nat → Nat} {i n : Nat} (h : ∀ j, j < i → f j = f' j) : cvk f g i n = cvk f' g i n := xs_congr _ fun j hj => by rw [h j hj]
theorem qs_step (A B : List Nat) {N i : Nat} (h : i < N) : sq (qs A B N) i = gm (sq A i ^^^ cvk (sq (qs A B N)) (sq B) i i) (iv (sq B 0)) := by
  obtain ⟨d, rfl⟩ : ∃ d, N = i + 1 + d := ⟨N - (i + 1), by omega⟩
  have e1 : cvk (sq (qs A B (i + 1 + d))) (sq B) i i = cvk (sq (qs A B i)) (sq B) i i := cvk_congr fun j hj => by
    rw [show i + 1 + d = i + (1 + d) by omega, qs_keep A B i j hj]
  rw [e1, qs_keep A B (i + 1) i (by omega) d, qs, sq_get _ _ (by rw [List.length_append, qs_length]; simp), List.getElem_append_right (by rw [qs_length]; exact Nat.le_refl _)]
  simp [qs_length]
theorem qs_by {A B : List Nat} (hA : By A) (hB : By B) : ∀ i, By (qs A B i)
  | 0 => by_nil
  | i + 1 => by
    have h := qs_by hA hB i
    rw [qs]
    intro x hx
    rcases List.mem_append.1 hx with h1 | h1
    · exact h x h1
    · simp only [List.mem_singleton] at h1
      rw [h1]
      exact gm_lt (xor_lt (hA.sq i) (cvk_lt (fun j => h.sq j) (fun j => hB.sq j) _ _)) (iv_lt _)
/-- What is left when i factors are known. -/
def rst (A B Q : List Nat) (i n : Nat) : Nat := sq A n ^^^ cvk (sq Q) (sq B) i n
theorem rst_lt {A B Q : List Nat} (hA : By A) (hB : By B) (hQ : By Q) (i n : Nat) : rst A B Q i n < 256 := xor_lt (hA.sq n) (cvk_lt (fun j => hQ.sq j) (fun j => hB.sq j) _ _)
theorem rst_zero (A B Q : List Nat) : tab A.length (rst A B Q 0) = A := by
  rw [tab_congr A.length (g := sq A) fun n _ => by rw [rst]; exact Nat.xor_zero _]
  exact tab_self A
theorem rst_gone {A B : List Nat} {N n : Nat} (hA : By A) (hB : By B) (h0 : sq B 0 ≠ 0) (h : n < N) : rst A B (qs A B N) N n = 0 := by
  have e1 : cvk (sq (qs A B N)) (sq B) N n = cvk (sq (qs A B N)) (sq B) (n + 1) n := xs_ext _ (by omega) fun i hi _ => if_neg (by omega)
  have hx : sq A n ^^^ cvk (sq (qs A B N)) (sq B) n n < 256 := xor_lt (hA.sq n) (cvk_lt (fun j => (qs_by hA hB N).sq j) (fun j => hB.sq j) _ _)
  have e2 : gm (sq (qs A B N) n) (sq B 0) = sq A n ^^^ cvk (sq (qs A B N)) (sq B) n n := by
    rw [qs_step A B h, gm_assoc hx (iv_lt _) (hB.sq 0), iv_gm (hB.sq 0) h0, gm_one hx]
  rw [rst, e1, cvk_succ, if_pos (Nat.le_refl _), Nat.sub_self, e2, ← Nat.xor_assoc, Nat.xor_self]
/-- Quotient and rest. -/
def dq (a b : List Nat) : List Nat := if (beh a).length < (beh b).length then [] else qs (beh a) (beh b) ((beh a).length - (beh b).length + 1)
def dr (a b : List Nat) : List Nat := if (beh a).length < (beh b).length then beh a else beh (tab (beh a).length (rst (beh a) (beh b) (dq a b) ((beh a).length - (beh b).length + 1)))
theorem div_spec {a b : List Nat} (ha : By a) (hb : By b) (h0 : 0 < (beh b).length) :
    By (dq a b) ∧ Can (dq a b) ∧ By (dr a b) ∧ Can (dr a b) ∧ (dr a b).length < (beh b).length ∧ (dq a b).length ≤ (beh a).length ∧ ∀ k, cf a k = cv (cf (dq a b)) (cf b) k ^^^ cf (dr a b) k := by
  have hb0 : sq (beh b) 0 ≠ 0 := beh_can b h0
  have hbeq : cf (beh b) = cf b := funext (cf_beh b)
  by_cases hlt : (beh a).length < (beh b).length
  · have e1 : dq a b = [] := by unfold dq; exact if_pos hlt
    have e2 : dr a b = beh a := by unfold dr; exact if_pos hlt
    rw [e1, e2]
    refine ⟨by_nil, fun h => absurd h (by simp), ha.beh, beh_can a, hlt, Nat.zero_le _, fun k => ?_⟩
    rw [cf_beh, show cv (cf []) (cf b) k = 0 from xs_zero _ fun i _ => by rw [cf_out [] i (Nat.zero_le _), gm_zero_left], Nat.zero_xor]
  · have e1 : dq a b = qs (beh a) (beh b) ((beh a).length - (beh b).length + 1) := by unfold dq; exact if_neg hlt
    have e2 : dr a b = beh (tab (beh a).length (rst (beh a) (beh b) (dq a b) ((beh a).length - (beh b).length + 1))) := by unfold dr; exact if_neg hlt
    have hA := ha.beh
    have hB := hb.beh
    have hcA := beh_can a
    have hcf : ∀ k, cf (beh a) k = cf a k := cf_beh a
    rw [e2, e1]
    rw [← hbeq]
    generalize beh a = A at *
    generalize beh b = B at *
    obtain ⟨N, hN⟩ : ∃ N, A.length - B.length + 1 = N := ⟨_, rfl⟩
    rw [hN]
    have hQ := qs_by hA hB N
    have hQl := qs_length A B N
    have hz : ∀ n, n < N → sq (tab A.length (rst A B (qs A B N) N)) n = 0 := fun n hn => by rw [sq_tab, if_pos (by omega), rst_gone hA hB hb0 hn]
    refine ⟨hQ, fun h => ?_, (tab_by _ fun n _ => rst_lt hA hB hQ _ _).beh, beh_can _, ?_, by rw [hQl]; omega, fun k => ?_⟩
    · rw [qs_step A B (by omega), show cvk (sq (qs A B N)) (sq B) 0 0 = 0 from rfl, Nat.xor_zero]
      refine gm_ne (hA.sq 0) (iv_lt _) (hcA (by omega)) fun e => ?_
      have := gm_iv (hB.sq 0) hb0
      rw [e, gm_zero_right] at this
      exact absurd this (by omega)
    · rw [beh_length, tab_length]
      by_cases hzs : zs (tab A.length (rst A B (qs A B N) N)) < N
      · exact absurd (hz _ hzs) (zs_ne _ (by rw [tab_length]; omega))
      · omega
    · rw [cf_beh, ← hcf k]
      by_cases hk : k < A.length
      · have h1 := cvk_rev (qs A B N) B (by omega) h0 k (by omega)
        rw [hQl, show N + B.length - 1 - 1 - k = A.length - 1 - k by omega] at h1
        rw [cf_in A k hk, cf_in _ k (by rw [tab_length]; exact hk), tab_length, sq_tab, if_pos (by omega), rst, h1, Nat.xor_comm (sq A _), ← Nat.xor_assoc, Nat.xor_self, Nat.zero_xor]
      · rw [cf_out A k (by omega), cf_out _ k (by rw [tab_length]; omega), cv_out (N := N) (M := B.length) (fun i hi => cf_out _ i (by omega)) (fun i hi => cf_out B i hi) (by omega)]
        rfl

end PolyMath
