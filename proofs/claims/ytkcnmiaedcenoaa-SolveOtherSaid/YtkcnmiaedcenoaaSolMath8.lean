/- The document's Mend as a function: all places are tried. No program. -/
import Derived.Test.YtkcnmiaedcenoaaSolMath7
import Derived.Test.YtkcnmiaedcenoaaSolMath6
import Derived.Test.YtkcnmiaedcenoaaB3
namespace SolMath
open GfMath PolyMath RsMath
set_option linter.unusedVariables false

def tryL (g : Nat → Option (List Nat)) (Pl : List Nat) : Nat → Nat → Option (List Nat)
  | 0, _ => none
  | t + 1, i => if i ∈ Pl then tryL g Pl t (i + 1) else match g i with
    | some D => some D
    | none => tryL g Pl t (i + 1)
def tryF (W : List Nat) (p n : Nat) : Nat → List Nat → Nat → Option (List Nat)
  | 0, Pl, _ => solveF W Pl p
  | m + 1, Pl, f => match solveF W Pl p with
    | some D => some D
    | none => tryL (fun i => tryF W p n m (Pl ++ [i]) (i + 1)) Pl (n - f) f
theorem tryL_some {g : Nat → Option (List Nat)} {Pl D : List Nat} : ∀ {t i : Nat}, tryL g Pl t i = some D → ∃ j, i ≤ j ∧ j < i + t ∧ j ∉ Pl ∧ g j = some D
  | 0, i, h => by cases h
  | t + 1, i, h => by
    rw [tryL] at h
    by_cases hi : i ∈ Pl
    · rw [if_pos hi] at h
      obtain ⟨j, h1, h2, h3⟩ := tryL_some h
      exact ⟨j, by omega, by omega, h3⟩
    · rw [if_neg hi] at h
      cases hg : g i with
      | some E => rw [hg] at h; exact ⟨i, Nat.le_refl _, by omega, hi, by rw [hg]; exact h⟩
      | none =>
        rw [hg] at h
        obtain ⟨j, h1, h2, h3⟩ := tryL_some h
        exact ⟨j, by omega, by omega, h3⟩
theorem tryL_none {g : Nat → Option (List Nat)} {Pl : List Nat} : ∀ {t i : Nat}, tryL g Pl t i = none → ∀ j, i ≤ j → j < i + t → j ∉ Pl → g j = none
  | 0, i, h, j, h1, h2, _ => by omega
  | t + 1, i, h, j, h1, h2, h3 => by
    rw [tryL] at h
    by_cases hi : i ∈ Pl
    · rw [if_pos hi] at h
      have : j ≠ i := fun e => h3 (e ▸ hi)
      exact tryL_none h j (by omega) (by omega) h3
    · rw [if_neg hi] at h
      cases hg : g i with
      | some E => rw [hg] at h; cases h
      | none =>
        rw [hg] at h
        by_cases e : j = i
        · rw [e, hg]
        · exact tryL_none h j (by omega) (by omega) h3
theorem not_mem_sq {Pl : List Nat} {q : Nat} : (∀ c, c < Pl.length → sq Pl c ≠ q) ↔ q ∉ Pl := by
  constructor
  · intro h hm
    obtain ⟨c, hc, e⟩ := List.getElem_of_mem hm
    exact h c hc (by rw [sq_get _ _ hc]; exact e)
  · intro h c hc e
    rw [sq_get _ _ hc] at e
    exact h (e ▸ List.getElem_mem hc)
theorem plc_snoc {Pl : List Nat} {n i : Nat} (h : Plc Pl n) (hi : i < n) (hm : i ∉ Pl) : Plc (Pl ++ [i]) n where
  lt := fun c hc => by
    rw [List.length_append, List.length_singleton] at hc
    by_cases e : c < Pl.length
    · rw [sq_get _ _ (by simp; omega), List.getElem_append_left e, ← sq_get _ _ e]; exact h.lt c e
    · rw [sq_get _ _ (by simp; omega), List.getElem_append_right (by omega)]; simpa using hi
  ne := fun a b hab hb => by
    rw [List.length_append, List.length_singleton] at hb
    rw [sq_get _ _ (by simp; omega), sq_get _ _ (by simp; omega), List.getElem_append_left (by omega)]
    by_cases e : b < Pl.length
    · rw [List.getElem_append_left e, ← sq_get _ _ (by omega), ← sq_get _ _ e]; exact h.ne a b hab e
    · rw [List.getElem_append_right (by omega)]
      simp only [List.getElem_singleton]
      intro e2
      exact hm (e2 ▸ List.getElem_mem _)
theorem least {P : Nat → Prop} : ∀ n : Nat, (∃ q, q < n ∧ P q) → ∃ q, q < n ∧ P q ∧ ∀ r, r < q → ¬ P r
  | 0, ⟨q, h, _⟩ => by omega
  | n + 1, ⟨q, h, hP⟩ => by
    by_cases hx : ∃ q, q < n ∧ P q
    · obtain ⟨q, h1, h2, h3⟩ := least n hx
      exact ⟨q, by omega, h2, h3⟩
    · have e : q = n := by
        by_cases e : q = n
        · exact e
        · exact absurd ⟨q, by omega, hP⟩ hx
      subst e
      exact ⟨q, h, hP, fun r hr hr2 => hx ⟨r, hr, hr2⟩⟩
theorem tryF_some {W : List Nat} {p n : Nat} (hW : By W) (hn : W.length = n) : ∀ (m : Nat) (Pl : List Nat) (f : Nat) (D : List Nat), Plc Pl n → Pl.length + m ≤ p → tryF W p n m Pl f = some D → ∃ X, X.length ≤ m ∧ Agree W (Pl ++ X) D ∧ allz (vals D p) = true
  | 0, Pl, f, D, hP, hm, h => by
    obtain ⟨h1, h2⟩ := solveF_some hW (by rw [hn]; exact hP) (by omega) h
    exact ⟨[], Nat.le_refl _, by rw [List.append_nil]; exact h1, h2⟩
  | m + 1, Pl, f, D, hP, hm, h => by
    rw [tryF] at h
    cases hs : solveF W Pl p with
    | some E =>
      rw [hs] at h
      obtain ⟨h1, h2⟩ := solveF_some hW (by rw [hn]; exact hP) (by omega) (hs.trans h)
      exact ⟨[], by simp, by rw [List.append_nil]; exact h1, h2⟩
    | none =>
      rw [hs] at h
      obtain ⟨j, h1, h2, h3, h4⟩ := tryL_some h
      obtain ⟨X, x1, x2, x3⟩ := tryF_some hW hn m (Pl ++ [j]) (j + 1) D (plc_snoc hP (by omega) h3) (by simp; omega) h4
      exact ⟨j :: X, by simp; omega, by rw [List.append_cons]; exact x2, x3⟩
def difO (W D Pl : List Nat) (n : Nat) : List Nat := (List.range n).filter fun q => !decide (q ∈ Pl) && decide (sq D q ≠ sq W q)
theorem difO_mem {W D Pl : List Nat} {n q : Nat} : q ∈ difO W D Pl n ↔ q < n ∧ q ∉ Pl ∧ sq D q ≠ sq W q := by
  unfold difO
  simp
theorem difO_nodup (W D Pl : List Nat) (n : Nat) : (difO W D Pl n).Nodup := List.Pairwise.filter _ List.nodup_range
theorem tryF_none {W : List Nat} {p n : Nat} (hW : By W) (hn : W.length = n) (h255 : n ≤ 255) {D : List Nat} (hD : By D) (hDl : D.length = n) : ∀ (m : Nat) (Pl : List Nat) (f : Nat), Plc Pl n → Pl.length + m ≤ p → tryF W p n m Pl f = none → (∀ q, q < f → q ∉ Pl → sq D q = sq W q) → (difO W D Pl n).length ≤ m → allz (vals D p) = false
  | 0, Pl, f, hP, hm, h, hf, hd => by
    refine solveF_none hW (by omega) (by rw [hn]; exact hP) (by omega) h ⟨by omega, hD, fun q hq => ?_⟩
    refine Classical.byContradiction fun hne => ?_
    have hqn : q < n := by
      refine Classical.byContradiction fun hx => hne ?_
      rw [sq_out _ _ (by omega), sq_out _ _ (by omega)]
    have : q ∈ difO W D Pl n := difO_mem.2 ⟨hqn, not_mem_sq.1 hq, hne⟩
    have h0 : difO W D Pl n = [] := List.length_eq_zero_iff.1 (by omega)
    rw [h0] at this
    cases this
  | m + 1, Pl, f, hP, hm, h, hf, hd => by
    rw [tryF] at h
    cases hs : solveF W Pl p with
    | some E => rw [hs] at h; cases h
    | none =>
      rw [hs] at h
      by_cases hx : ∃ q, q < n ∧ (q ∉ Pl ∧ sq D q ≠ sq W q)
      · obtain ⟨q, h1, ⟨h2, h3⟩, h4⟩ := least n hx
        have hfq : f ≤ q := Classical.byContradiction fun hlt => h3 (hf q (by omega) h2)
        have hg := tryL_none h q hfq (by omega) h2
        refine tryF_none hW hn h255 hD hDl m (Pl ++ [q]) (q + 1) (plc_snoc hP h1 h2) (by simp; omega) hg (fun r hr hrm => ?_) ?_
        · simp only [List.mem_append, List.mem_singleton, not_or] at hrm
          exact Classical.byContradiction fun hne => h4 r (by omega) ⟨hrm.1, hne⟩
        · have hsub := sub_length (q :: difO W D (Pl ++ [q]) n) (difO W D Pl n) (List.nodup_cons.2 ⟨fun hm => by
            have := (difO_mem.1 hm).2.1
            simp at this, difO_nodup _ _ _ _⟩) (fun x hx => by
            rcases List.mem_cons.1 hx with rfl | hx
            · exact difO_mem.2 ⟨h1, h2, h3⟩
            · obtain ⟨x1, x2, x3⟩ := difO_mem.1 hx
              simp only [List.mem_append, List.mem_singleton, not_or] at x2
              exact difO_mem.2 ⟨x1, x2.1, x3⟩)
          rw [List.length_cons] at hsub
          omega
      · refine solveF_none hW (by omega) (by rw [hn]; exact hP) (by omega) hs ⟨by omega, hD, fun q hq => ?_⟩
        refine Classical.byContradiction fun hne => hx ⟨q, ?_, not_mem_sq.1 hq, hne⟩
        refine Classical.byContradiction fun hx => hne ?_
        rw [sq_out _ _ (by omega), sq_out _ _ (by omega)]
/-! The erased places, each once, in their order. -/
def plStep (P : List Nat) (x : Int) : List Nat := if x.toNat ∈ P then P else P ++ [x.toNat]
def plF (er : List Int) : List Nat := er.foldl plStep []
theorem plF_snoc (er : List Int) (x : Int) : plF (er ++ [x]) = plStep (plF er) x := by rw [plF, List.foldl_append]; rfl
theorem plF_next (er : List Int) (k : Nat) (h : k < er.length) : plF (er.take (k + 1)) = plStep (plF (er.take k)) er[k] := by rw [List.take_succ_eq_append_getElem h, plF_snoc]
theorem markE_length (n : Nat) (el : List Int) : (markE n el).length = n := by unfold markE; rw [setG_length]; exact List.length_replicate
theorem plF_spec {n : Nat} (er : List Int) : inB n er = true → Plc (plF er) n ∧ (∀ q, q ∈ plF er ↔ gAt (markE n er) q = true) ∧ (plF er).length = cnt (markE n er) := by
  induction er using snocInd with
  | h0 =>
    intro _
    refine ⟨⟨fun c hc => absurd hc (Nat.not_lt_zero _), fun a b _ hb => absurd hb (Nat.not_lt_zero _)⟩, fun q => ?_, ?_⟩
    · show q ∈ [] ↔ gAt (noneG n) q = true
      have : gAt (noneG n) q = false := by
        unfold gAt noneG
        rw [List.getD_eq_getElem?_getD, List.getElem?_replicate]
        split <;> rfl
      rw [this]
      simp
    · show 0 = cnt (noneG n)
      unfold cnt noneG
      rw [List.count_replicate]
      simp
  | h1 l a ih =>
    intro hb
    unfold inB at hb
    rw [List.all_append, Bool.and_eq_true] at hb
    obtain ⟨hb1, hb2⟩ := hb
    have ha : 0 ≤ a ∧ a < (n : Int) := by simpa using hb2
    obtain ⟨i1, i2, i3⟩ := ih hb1
    have hat : a.toNat < n := by omega
    have hm : markE n (l ++ [a]) = (markE n l).set a.toNat true := by unfold markE; exact setG_snoc _ _ _
    rw [plF_snoc, hm]
    unfold plStep
    by_cases hx : a.toNat ∈ plF l
    · rw [if_pos hx, set_self ((i2 _).1 hx)]
      exact ⟨i1, i2, i3⟩
    · rw [if_neg hx]
      refine ⟨plc_snoc i1 hat hx, fun q => ?_, ?_⟩
      · rw [gAt_set _ _ _ (by rw [markE_length]; exact hat), List.mem_append, List.mem_singleton, i2 q, Bool.or_eq_true, decide_eq_true_eq]
        exact ⟨fun h => h.imp id Eq.symm, fun h => h.imp id Eq.symm⟩
      · have hf : gAt (markE n l) a.toNat = false := by
          cases hg : gAt (markE n l) a.toNat with
          | false => rfl
          | true => exact absurd ((i2 _).2 hg) hx
        rw [cnt_set (by rw [markE_length]; exact hat) hf, List.length_append, i3]
        rfl
/-! What is mended is near. -/
theorem mendF_near {seek : Nat → List Nat → Nat → List Nat} {n p : Nat} {W m l : List Nat} {el : List Int} (hn : W.length = n) (h : mendF seek n p W el = .ok m l) : ocnt (oth W m (markE n el)) n ≤ (p - cnt (markE n el)) / 2 := by
  rw [mendF_eq] at h
  split at h
  · cases h
  · unfold mendG at h
    simp only at h
    split at h
    · rename_i hc
      injection h with h1 h2
      refine Nat.le_trans (Nat.le_of_eq ?_) hc.2.2
      rw [← h1]
      unfold othF ocnt layP layW atF
      rw [List.filter_filter]
      congr 1
      refine List.filter_congr fun j hj => ?_
      have hj := List.mem_range.1 hj
      unfold oth er wordF
      rw [sq_tab, if_pos (show j < W.length by rw [hn]; exact hj), if_pos hj, ← Nat.xor_assoc, Nat.xor_self, Nat.zero_xor]
      cases gAt (markE n el) j <;> simp
    · cases h
theorem difO_oth {W D Pl : List Nat} {n : Nat} {G : List Bool} (h : ∀ q, q ∈ Pl ↔ gAt G q = true) : (difO W D Pl n).length = ocnt (oth W D G) n := by
  unfold difO ocnt
  congr 1
  refine List.filter_congr fun j _ => ?_
  unfold oth er
  cases hg : gAt G j with
  | true => rw [decide_eq_true ((h j).2 hg)]; simp
  | false =>
    rw [decide_eq_false (fun hx => by rw [(h j).1 hx] at hg; cases hg)]
    by_cases e : sq D j = sq W j
    · simp [e]
    · have : ¬ (sq W j ^^^ sq D j = 0) := fun hx => e (xor_zero_iff.1 hx)
      simp [e, this]
theorem ref_some {n p : Nat} {W D : List Nat} {el : List Int} (hW : By W) (hn : W.length = n) (h255 : n ≤ 255) (hp : 1 ≤ p) (hb : inB n el = true) (hc : (plF el).length ≤ p) (h : tryF W p n ((p - (plF el).length) / 2) (plF el) 0 = some D) : mendF masseyF n p W el = .ok D (atF (er W D) n) := by
  obtain ⟨h1, h2, h3⟩ := plF_spec el hb
  obtain ⟨X, x1, ⟨x2, x3, x4⟩, x5⟩ := tryF_some hW hn _ _ _ _ h1 (by omega) h
  refine decode ⟨h255, hW, hn, x3, by omega, allz_zero.1 x5⟩ hp hb ?_
  rw [← h3, ← difO_oth h2]
  have : (difO W D (plF el) n).length ≤ X.length := sub_length _ _ (difO_nodup _ _ _ _) fun q hq => by
    obtain ⟨q1, q2, q3⟩ := difO_mem.1 hq
    refine Classical.byContradiction fun hx => q3 (x4 q (not_mem_sq.2 fun hm => ?_))
    rcases List.mem_append.1 hm with hm | hm
    · exact q2 hm
    · exact hx hm
  omega
theorem ref_none {n p : Nat} {W : List Nat} {el : List Int} (hW : By W) (hn : W.length = n) (h255 : n ≤ 255) (hb : inB n el = true) (hc : (plF el).length ≤ p) (h : tryF W p n ((p - (plF el).length) / 2) (plF el) 0 = none) : mendF masseyF n p W el = .bad := by
  obtain ⟨h1, h2, h3⟩ := plF_spec el hb
  cases hm : mendF masseyF n p W el with
  | bad => rfl
  | arg =>
    rw [mendF_eq, if_neg (by rw [hb]; simp)] at hm
    unfold mendG at hm
    simp only at hm
    split at hm <;> cases hm
  | ok m l =>
    exfalso
    obtain ⟨o1, o2, o3, o4⟩ := mendF_ok hm
    have hnear := mendF_near hn hm
    rw [← h3, ← difO_oth h2] at hnear
    have := tryF_none hW hn h255 (mendF_by hW hm) (by omega) _ _ 0 h1 (by omega) h (fun q hq => absurd hq (Nat.not_lt_zero _)) hnear
    rw [this] at o2
    cases o2
theorem ref_much {n p : Nat} {W : List Nat} {el : List Int} (hb : inB n el = true) (hc : p < (plF el).length) : mendF masseyF n p W el = .bad := by
  obtain ⟨h1, h2, h3⟩ := plF_spec el hb
  rw [mendF_eq, if_neg (by rw [hb]; simp)]
  unfold mendG
  simp only
  rw [if_neg (by omega)]
theorem ref_arg {n p : Nat} {W : List Nat} {el : List Int} (hb : inB n el = false) : mendF masseyF n p W el = .arg := by rw [mendF_eq, if_pos hb]
end SolMath
