/- Divisors. No program. -/
import Derived.Test.YtpkjannlndnfdaaPolyMath5
namespace PolyMath
open GfMath
set_option linter.unusedVariables false

theorem cv_add_left (f f' g : Nat → Nat) (n : Nat) : cv (fun i => f i ^^^ f' i) g n = cv f g n ^^^ cv f' g n := by
  rw [cv, cv, cv, ← xs_xor]
  exact xs_congr _ fun i _ => gm_add_left _ _ _
theorem cv_shift {c : Nat} {g h : Nat → Nat} (hc : c < 256) (hg : ∀ i, g i < 256) (hh : ∀ i, h i < 256) (N n : Nat) :
    cv (fun m => if N ≤ m then gm c (g (m - N)) else 0) h n = if N ≤ n then gm c (cv g h (n - N)) else 0 := by
  by_cases hN : N ≤ n
  · rw [if_pos hN, cv, show n + 1 = N + (n - N + 1) by omega, xs_split, xs_zero _ fun i hi => by rw [if_neg (by omega), gm_zero_left], Nat.zero_xor, cv, xs_gm]
    refine xs_congr _ fun i hi => ?_
    rw [if_pos (by omega), show N + i - N = i by omega, show n - (N + i) = n - N - i by omega, gm_assoc hc (hg _) (hh _)]
  · rw [if_neg hN]
    exact xs_zero _ fun i hi => by dsimp only; rw [if_neg (by omega), gm_zero_left]
theorem cvk_assoc {f g h : Nat → Nat} (hf : ∀ i, f i < 256) (hg : ∀ i, g i < 256) (hh : ∀ i, h i < 256) : ∀ N n, cv (cvk f g N) h n = cvk f (cv g h) N n
  | 0, n => xs_zero _ fun i _ => by rw [show cvk f g 0 i = 0 from rfl, gm_zero_left]
  | N + 1, n => by
    have e : cvk f g (N + 1) = fun m => cvk f g N m ^^^ (if N ≤ m then gm (f N) (g (m - N)) else 0) := funext fun m => cvk_succ f g N m
    rw [e, cv_add_left, cvk_assoc hf hg hh N n, cv_shift (hf N) hg hh, cvk_succ]
theorem cv_assoc {f g h : Nat → Nat} (hf : ∀ i, f i < 256) (hg : ∀ i, g i < 256) (hh : ∀ i, h i < 256) (N : Nat) (hN : ∀ i, N ≤ i → f i = 0) : cv (cv f g) h = cv f (cv g h) := by
  funext n
  have e : cv f g = cvk f g N := funext fun m => (cvk_full f g N m hN).symm
  rw [e, cvk_assoc hf hg hh, cvk_full _ _ _ _ hN]
theorem cf_pm (a b : List Nat) : cf (pm a b) = cv (cf a) (cf b) := funext fun k => pm_cf a b k
theorem cf_assoc {a b c : List Nat} (ha : By a) (hb : By b) (hc : By c) : cv (cv (cf a) (cf b)) (cf c) = cv (cf a) (cv (cf b) (cf c)) :=
  cv_assoc (fun i => ha.cf i) (fun i => hb.cf i) (fun i => hc.cf i) a.length fun i hi => cf_out a i hi
/-- The sum of two. -/
def ad (a b : List Nat) : List Nat := addl [a, b]
theorem ad_cf (a b : List Nat) (k : Nat) : cf (ad a b) k = cf a k ^^^ cf b k := by rw [ad, addl_cf]; simp [sumf]
theorem ad_by {a b : List Nat} (ha : By a) (hb : By b) : By (ad a b) := addl_by _ (by intro l hl; simp at hl; rcases hl with rfl | rfl <;> assumption)
theorem cf_one (k : Nat) : cf [1] k = if k = 0 then 1 else 0 := by
  match k with
  | 0 => rfl
  | k + 1 => rw [cf_out _ _ (by simp), if_neg (by omega)]
theorem cv_const {c : Nat} {g : Nat → Nat} (n : Nat) : cv (cf [c]) g n = gm c (g n) := by
  rw [cv, xs_front, xs_zero _ fun i _ => by rw [cf_out _ _ (by simp), gm_zero_left], Nat.xor_zero]
  rfl
theorem by_c {c : Nat} (h : c < 256) : By [c] := by_one h
/-- d divides p. -/
def Dv (d p : List Nat) : Prop := ∃ h : List Nat, By h ∧ cf p = cv (cf h) (cf d)
theorem Dv.refl {p : List Nat} (hp : By p) : Dv p p := ⟨[1], by_one (by omega), funext fun k => by rw [cv_const, gm_one_left (hp.cf k)]⟩
theorem Dv.zero (d : List Nat) : Dv d [] := ⟨[], by_nil, funext fun k => by rw [cf_out [] k (Nat.zero_le _)]; exact (xs_zero _ fun i _ => by rw [cf_out [] i (Nat.zero_le _), gm_zero_left]).symm⟩
theorem Dv.trans {a b c : List Nat} (ha : By a) (hb : By b) (h1 : Dv a b) (h2 : Dv b c) : Dv a c := by
  obtain ⟨h, hh, e1⟩ := h1
  obtain ⟨k, hk, e2⟩ := h2
  refine ⟨pm k h, pm_by hk hh, ?_⟩
  rw [e2, e1, cf_pm, cf_assoc hk hh ha]
theorem Dv.mul {d p q : List Nat} (hd : By d) (hp : By p) (hq : By q) (h : Dv d p) : Dv d (pm q p) := by
  obtain ⟨k, hk, e⟩ := h
  refine ⟨pm q k, pm_by hq hk, ?_⟩
  rw [cf_pm, e, cf_pm, cf_assoc hq hk hd]
theorem Dv.add {d a b c : List Nat} (h1 : Dv d a) (h2 : Dv d b) (hc : ∀ k, cf c k = cf a k ^^^ cf b k) : Dv d c := by
  obtain ⟨k, hk, e1⟩ := h1
  obtain ⟨m, hm, e2⟩ := h2
  refine ⟨ad k m, ad_by hk hm, funext fun n => ?_⟩
  have e : cf (ad k m) = fun i => cf k i ^^^ cf m i := funext fun i => ad_cf k m i
  rw [hc, e1, e2, e, cv_add_left]
theorem Dv.congr {d a b : List Nat} (h : Dv d a) (e : ∀ k, cf a k = cf b k) : Dv d b := by
  obtain ⟨k, hk, e1⟩ := h
  exact ⟨k, hk, by rw [← e1]; exact (funext e).symm⟩
theorem Dv.beh {d a : List Nat} : Dv d (PolyMath.beh a) ↔ Dv d a := ⟨fun h => h.congr (cf_beh a), fun h => h.congr fun k => (cf_beh a k).symm⟩
/-- Euclid's step. -/
theorem Dv.step {d a b : List Nat} (hd : By d) (ha : By a) (hb : By b) (h0 : 0 < (PolyMath.beh b).length) : (Dv d a ∧ Dv d b) ↔ (Dv d b ∧ Dv d (dr a b)) := by
  obtain ⟨hQ, _, hR, _, _, _, hcf⟩ := div_spec ha hb h0
  have e : ∀ k, cf a k = cf (pm (dq a b) b) k ^^^ cf (dr a b) k := fun k => by rw [hcf k, pm_cf]
  constructor
  · rintro ⟨h1, h2⟩
    exact ⟨h2, Dv.add h1 (Dv.mul hd hb hQ h2) fun k => by rw [e k, Nat.xor_comm (cf (pm _ _) k), Nat.xor_assoc, Nat.xor_self, Nat.xor_zero]⟩
  · rintro ⟨h1, h2⟩
    exact ⟨Dv.add (Dv.mul hd hb hQ h1) h2 e, h1⟩
/-- What is divided leaves nothing. -/
theorem Dv.rest {g p : List Nat} (hg : By g) (hp : By p) (h0 : 0 < (PolyMath.beh g).length) (h : Dv g p) : dr p g = [] := by
  obtain ⟨hQ, _, hR, hRc, hRl, _, hcf⟩ := div_spec hp hg h0
  obtain ⟨k, hk, e⟩ := h
  -- (k + q) g = r
  have hS := ad_by hk hQ
  have e2 : ∀ n, cf (dr p g) n = cv (cf (ad k (dq p g))) (cf g) n := fun n => by
    have e3 : cf (ad k (dq p g)) = fun i => cf k i ^^^ cf (dq p g) i := funext fun i => ad_cf _ _ i
    rw [e3, cv_add_left, ← congrFun e n, hcf n, Nat.xor_comm (cv _ _ n), Nat.xor_assoc, Nat.xor_self, Nat.xor_zero]
  have e4 : ∀ n, cf (dr p g) n = cf (pm (PolyMath.beh (ad k (dq p g))) (PolyMath.beh g)) n := fun n => by
    have a1 : cf (PolyMath.beh (ad k (dq p g))) = cf (ad k (dq p g)) := funext (cf_beh _)
    have a2 : cf (PolyMath.beh g) = cf g := funext (cf_beh _)
    rw [e2, pm_cf, a1, a2]
  have e5 := can_eq hRc (pm_can hS.beh hg.beh (beh_can _) (beh_can _)) e4
  by_cases hz : (PolyMath.beh (ad k (dq p g))).length = 0
  · rw [e5, List.eq_nil_of_length_eq_zero hz, pm_nil_left]
  · have := congrArg List.length e5
    rw [pm_length _ _ (by omega) h0] at this
    omega
theorem Dv.nil_zero {p : List Nat} (h : Dv [] p) : PolyMath.beh p = [] := by
  obtain ⟨k, hk, e⟩ := h
  have : PolyMath.beh p = PolyMath.beh [] := beh_eq fun n => by
    rw [e, cf_out [] n (Nat.zero_le _)]
    exact xs_zero _ fun i _ => by rw [cf_out [] _ (Nat.zero_le _), gm_zero_right]
  exact this
theorem Dv.of_zero {d p : List Nat} (h : PolyMath.beh p = []) : Dv d p := (Dv.zero d).congr fun k => by
  rw [← cf_beh p k, h]
/-- Scaled to have 1 for its highest factor. -/
theorem Dv.scale {d g : List Nat} (hd : By d) (hg : By g) (hc : Can g) (h0 : 0 < g.length) : By (pm [iv (sq g 0)] g) ∧ Can (pm [iv (sq g 0)] g) ∧ (pm [iv (sq g 0)] g).length = g.length ∧ sq (pm [iv (sq g 0)] g) 0 = 1 ∧ (Dv d (pm [iv (sq g 0)] g) ↔ Dv d g) := by
  have hg0 := hc h0
  have hi := iv_lt (sq g 0)
  have hi0 : iv (sq g 0) ≠ 0 := fun e => by
    have := gm_iv (hg.sq 0) hg0
    rw [e, gm_zero_right] at this
    exact absurd this (by omega)
  have hbi := by_c hi
  refine ⟨pm_by hbi hg, pm_can hbi hg (fun _ => by simpa [sq] using hi0) hc, by rw [pm_length _ _ (by simp) h0]; simp, ?_, fun h => ?_, fun h => Dv.mul hd hg hbi h⟩
  · unfold pm
    rw [if_neg (by simp only [List.length_singleton]; omega), sq_tab, if_pos (by simp only [List.length_singleton]; omega), cvk_full _ _ _ _ fun i hi => sq_out _ i hi, cv, xs, xs, Nat.zero_xor]
    exact iv_gm (hg.sq 0) hg0
  · have h1 := Dv.mul hd (pm_by hbi hg) (by_c (hg.sq 0)) h
    refine h1.congr fun k => ?_
    rw [pm_cf, cv_const, pm_cf, cv_const, ← gm_assoc (hg.sq 0) hi (hg.cf k), gm_iv (hg.sq 0) hg0, gm_one_left (hg.cf k)]

end PolyMath
