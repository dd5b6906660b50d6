/- What is mended again: the same places erased in any order, however often; a word that is right. No program. -/
import Derived.Test.YtkcnmiaedcenoaaB3
namespace SolMath
open GfMath PolyMath RsMath
set_option linter.unusedVariables false

theorem gAt_set (G : List Bool) (i j : Nat) (hi : i < G.length) : gAt (G.set i true) j = (gAt G j || decide (i = j)) := by
  unfold gAt
  rw [List.getD_eq_getElem?_getD, List.getD_eq_getElem?_getD, List.getElem?_set]
  by_cases e : i = j
  · subst e; simp [hi]
  · simp [e]
theorem gAt_setG (n : Nat) : ∀ (er : List Int) (G : List Bool) (j : Nat), G.length = n → inB n er = true → gAt (setG G er) j = (gAt G j || er.any fun i => decide (i.toNat = j))
  | [], G, j, _, _ => by simp [setG]
  | a :: l, G, j, hG, hb => by
    have hb2 : inB n l = true := by
      unfold inB at hb ⊢
      rw [List.all_cons, Bool.and_eq_true] at hb
      exact hb.2
    have ha : 0 ≤ a ∧ a < (n : Int) := by
      unfold inB at hb
      rw [List.all_cons, Bool.and_eq_true, Bool.and_eq_true, decide_eq_true_iff, decide_eq_true_iff] at hb
      exact hb.1
    show gAt (setG (G.set a.toNat true) l) j = _
    rw [gAt_setG n l _ j (by rw [List.length_set]; exact hG) hb2, gAt_set G _ j (by omega), List.any_cons, Bool.or_assoc]
theorem bools_ext {G H : List Bool} (hl : G.length = H.length) (h : ∀ j, j < G.length → gAt G j = gAt H j) : G = H := by
  apply List.ext_getElem hl
  intro i h1 h2
  have := h i h1
  unfold gAt at this
  rw [List.getD_eq_getElem?_getD, List.getD_eq_getElem?_getD, List.getElem?_eq_getElem h1, List.getElem?_eq_getElem h2] at this
  simpa using this
theorem inB_mem {n : Nat} {er er2 : List Int} (h : ∀ x, x ∈ er ↔ x ∈ er2) : inB n er = inB n er2 := by
  rw [Bool.eq_iff_iff]
  unfold inB
  rw [List.all_eq_true, List.all_eq_true]
  exact ⟨fun H x hx => H x ((h x).2 hx), fun H x hx => H x ((h x).1 hx)⟩
theorem markE_mem {n : Nat} {er er2 : List Int} (h : ∀ x, x ∈ er ↔ x ∈ er2) (hb : inB n er = true) : markE n er = markE n er2 := by
  have hn : (noneG n).length = n := List.length_replicate
  refine bools_ext (by unfold markE; rw [setG_length, setG_length]) fun j _ => ?_
  unfold markE
  rw [gAt_setG n er _ j hn hb, gAt_setG n er2 _ j hn (by rw [← inB_mem h]; exact hb)]
  congr 1
  rw [Bool.eq_iff_iff, List.any_eq_true, List.any_eq_true]
  exact ⟨fun ⟨x, hx, e⟩ => ⟨x, (h x).1 hx, e⟩, fun ⟨x, hx, e⟩ => ⟨x, (h x).2 hx, e⟩⟩
/-- The same of the places noted. -/
def mendG (seek : Nat → List Nat → Nat → List Nat) (n p : Nat) (W : List Nat) (G : List Bool) : Md :=
  let V := valsR W p
  let E := erF n G n
  let R := seek p (toldF p V E) (cnt G)
  let m := layW n p W V R E
  let l := layP n p V R E
  if allz (vals m p) = true ∧ cnt G ≤ p ∧ othF G l ≤ (p - cnt G) / 2 then .ok m l else .bad
theorem mendF_eq (seek : Nat → List Nat → Nat → List Nat) (n p : Nat) (W : List Nat) (er : List Int) : mendF seek n p W er = if inB n er = false then .arg else mendG seek n p W (markE n er) := rfl
theorem mendF_mem (seek : Nat → List Nat → Nat → List Nat) {n : Nat} (p : Nat) (W : List Nat) {er er2 : List Int} (h : ∀ x, x ∈ er ↔ x ∈ er2) : mendF seek n p W er = mendF seek n p W er2 := by
  rw [mendF_eq, mendF_eq, ← inB_mem h]
  by_cases hb : inB n er = true
  · rw [if_neg (by rw [hb]; simp), if_neg (by rw [hb]; simp), markE_mem h hb]
  · rw [if_pos (by simpa using hb), if_pos (by simpa using hb)]

/-- The list that is erased again: each place twice, the last one first. -/
def bk (er : List Int) : Nat → List Int
  | 0 => []
  | j + 1 => bk er j ++ [er.getD (er.length - 1 - j) 0, er.getD (er.length - 1 - j) 0]
theorem bk_length (er : List Int) : ∀ j, (bk er j).length = 2 * j
  | 0 => rfl
  | j + 1 => by rw [bk, List.length_append, bk_length er j]; simp; omega
theorem bk_mem (er : List Int) (x : Int) : ∀ j, j ≤ er.length → (x ∈ bk er j ↔ ∃ i, i < j ∧ x = er.getD (er.length - 1 - i) 0)
  | 0, _ => by simp [bk]
  | j + 1, hj => by
    rw [bk, List.mem_append, bk_mem er x j (by omega)]
    simp only [List.mem_cons, List.not_mem_nil, or_false, or_self]
    constructor
    · rintro (⟨i, h1, h2⟩ | h)
      · exact ⟨i, by omega, h2⟩
      · exact ⟨j, by omega, h⟩
    · rintro ⟨i, h1, h2⟩
      by_cases e : i = j
      · exact .inr (e ▸ h2)
      · exact .inl ⟨i, by omega, h2⟩
theorem bk_full (er : List Int) (x : Int) : x ∈ er ↔ x ∈ bk er er.length := by
  rw [bk_mem er x er.length (Nat.le_refl _)]
  constructor
  · intro h
    obtain ⟨i, hi, rfl⟩ := List.mem_iff_getElem.1 h
    refine ⟨er.length - 1 - i, by omega, ?_⟩
    rw [show er.length - 1 - (er.length - 1 - i) = i by omega, List.getD_eq_getElem?_getD, List.getElem?_eq_getElem hi]; rfl
  · rintro ⟨i, hi, rfl⟩
    rw [List.getD_eq_getElem?_getD, List.getElem?_eq_getElem (by omega)]
    exact List.getElem_mem _

theorem pms_zero_left {a : List Nat} (b : List Nat) (h : ∀ j, j < a.length → sq a j = 0) : pms [a, b] = [] := by
  have e : beh a = [] := List.eq_nil_of_length_eq_zero (by rw [beh_length, zs_all a h]; omega)
  rw [pms_two, e, pm_nil_right, pm_nil_left]
theorem fcI_nil (z : Int) : fcI [] z = 0 := by unfold fcI; split; rfl; exact cf_out _ _ (by simp)
theorem missF_nil (rule : List Nat) (lost i : Nat) : missF [] rule lost i = 0 := xs_zero _ fun j _ => by rw [fcI_nil, gm_zero_right]
theorem bm_nil (lost : Nat) : ∀ i, (bm [] lost i).rule = [1]
  | 0 => rfl
  | i + 1 => by
    show (bmStep [] lost i (bm [] lost i)).rule = [1]
    unfold bmStep
    rw [if_pos (missF_nil _ _ _)]
    exact bm_nil lost i
theorem masseyF_nil (p lost : Nat) : masseyF p [] lost = [1] := bm_nil lost _
theorem lowl_nil (p : Nat) : lowl p [] = [] := by simp [lowl]
theorem dAt_nil (n : Nat) (A S : List Nat) (i : Nat) : dAt n A S [] i = 0 := by
  unfold dAt
  split
  · rfl
  · rw [show ev [] (iv (mrk n i)) = 0 from rfl, gm_zero_left, gm_zero_right]
theorem valsR_zero {m : List Nat} {p : Nat} (h : allz (vals m p) = true) : ∀ j, j < (valsR m p).length → sq (valsR m p) j = 0 := by
  intro j hj
  have hl : (vals m p).length = p := vals_length _ _
  rw [valsR, List.length_reverse, hl] at hj
  rw [sq_get _ _ (by rw [valsR, List.length_reverse, hl]; exact hj)]
  simp only [valsR]
  rw [List.getElem_reverse, ← sq_get]
  exact (allz_iff _).1 h _ (by omega)
/-- A word that is right is mended to itself, as long as not too much is erased. -/
theorem mendF_right {n p : Nat} {m : List Nat} {er : List Int} (hm : m.length = n) (hr : allz (vals m p) = true) (hb : inB n er = true) (hc : cnt (markE n er) ≤ p) : mendF masseyF n p m er = .ok m [] := by
  have h0 := valsR_zero hr
  have hT : toldF p (valsR m p) (erF n (markE n er) n) = [] := by rw [toldF, pms_zero_left _ h0, lowl_nil]
  have hd : ∀ R E i, dF n p (valsR m p) R E i = 0 := fun R E i => by
    show dAt n _ _ (lowl p (pms [valsR m p, allF R E])) i = 0
    rw [pms_zero_left _ h0, lowl_nil]
    exact dAt_nil _ _ _ _
  have hW : ∀ R E, layW n p m (valsR m p) R E = m := fun R E => by
    unfold layW wordF
    conv => rhs; rw [← tab_self m]
    refine tab_congr _ fun i hi => ?_
    rw [hd R E i]
    simp
  have hP : ∀ R E, layP n p (valsR m p) R E = [] := fun R E => by
    unfold layP atF
    rw [List.filter_eq_nil_iff]
    intro i _
    simp [hd R E i]
  unfold mendF
  rw [hb]
  simp only [Bool.true_eq_false, if_false]
  rw [hW, hP, hr, if_pos ⟨rfl, hc, by simp [othF]⟩]
theorem mendF_ok {seek : Nat → List Nat → Nat → List Nat} {n p : Nat} {W m l : List Nat} {er : List Int} (h : mendF seek n p W er = .ok m l) : inB n er = true ∧ allz (vals m p) = true ∧ cnt (markE n er) ≤ p ∧ m.length = W.length := by
  unfold mendF at h
  cases hb : inB n er with
  | false => rw [hb] at h; simp at h
  | true =>
    rw [hb] at h
    simp only [Bool.true_eq_false, if_false] at h
    split at h
    · rename_i hc
      injection h with h1 h2
      subst h1
      exact ⟨rfl, hc.1, hc.2.1, by unfold layW wordF; exact tab_length _ _⟩
    · cases h
theorem mendF_by {n p : Nat} {W m l : List Nat} {er : List Int} (hW : By W) (h : mendF masseyF n p W er = .ok m l) : By m := by
  unfold mendF at h
  cases hb : inB n er with
  | false => rw [hb] at h; simp at h
  | true =>
    rw [hb] at h
    simp only [Bool.true_eq_false, if_false] at h
    split at h
    · injection h with h1 h2
      subst h1
      refine tab_by _ fun i _ => xor_lt (hW.sq _) ?_
      split
      · refine dAt_lt n (lowl_by (pms_two_by ?_ (pms_two_by ?_ (erF_all _ _ _).1)) p) i
        · exact fun x hx => tab_by _ (fun i _ => ev_lt hW (ex_lt i)) x (List.mem_reverse.1 hx)
        · exact (bm_ok (lowl_by (pms_two_by (fun x hx => tab_by _ (fun i _ => ev_lt hW (ex_lt i)) x (List.mem_reverse.1 hx)) (erF_all _ _ _).1) p) _ _).r8
      · omega
    · cases h

end SolMath
