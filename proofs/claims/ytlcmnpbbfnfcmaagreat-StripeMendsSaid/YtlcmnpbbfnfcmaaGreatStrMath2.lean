/- What sectors of a stripe are read as, some of them turned. No program. -/
import Derived.Test.YtlcmnpbbfnfcmaaGreatStrMath
namespace Go.Proofs.YtlcmnpbbfnfcmaaGreat
open Go.RowKit CrcMath GfMath PolyMath RsMath SolMath
set_option linter.unusedVariables false

theorem str_cnt_put {G : List Bool} {i : Nat} (hi : i < G.length) : cnt (G.set i true) ≤ cnt G + 1 := by
  cases h : gAt G i with
  | true => rw [set_self h]; omega
  | false => rw [cnt_set hi h]; omega
theorem str_cnt_set {n : Nat} : ∀ (er : List Int) (G : List Bool), G.length = n → inB n er = true → cnt (setG G er) ≤ cnt G + er.length
  | [], G, _, _ => by simp [setG]
  | a :: l, G, hG, hb => by
    have hb2 : inB n l = true := by
      unfold inB at hb ⊢
      rw [List.all_cons, Bool.and_eq_true] at hb
      exact hb.2
    have ha : a.toNat < n := by
      unfold inB at hb
      rw [List.all_cons, Bool.and_eq_true, Bool.and_eq_true, decide_eq_true_iff, decide_eq_true_iff] at hb
      omega
    have h1 := str_cnt_set l (G.set a.toNat true) (by rw [List.length_set]; exact hG) hb2
    have h2 := str_cnt_put (G := G) (i := a.toNat) (by omega)
    show cnt (setG (G.set a.toNat true) l) ≤ _
    rw [List.length_cons]
    omega
theorem cnt_noneG (n : Nat) : cnt (noneG n) = 0 := by unfold cnt noneG; simp [List.count_replicate]

/-- A sector whose tag is right is its block's. -/
theorem right_is_seal {l : List UInt8} (h : rightT l = true) : l = sealB (blk l) := by
  unfold rightT at h
  rw [Bool.and_eq_true, decide_eq_true_iff, decide_eq_true_iff] at h
  obtain ⟨h1, h2⟩ := h
  have h3 : ¬ l.length < 4 := by omega
  have h4 : l.drop (l.length - 4) = tailB (sumI (l.take (l.length - 4))) := by
    by_cases h5 : l.drop (l.length - 4) = tailB (sumI (l.take (l.length - 4)))
    · exact h5
    · rw [openR_sum h3 h5] at h1
      cases h1
  have e : blk l = l.take 60 := by unfold blk; rw [h2]; simp
  rw [e, sealB]
  rw [h2] at h4
  rw [← h4, List.take_append_drop]
theorem sealB_inj {a b : List UInt8} (ha : a.length = 60) (hb : b.length = 60) (h : sealB a = sealB b) : a = b := by
  have h1 := congrArg blk h
  rwa [blk_seal a ha, blk_seal b hb] at h1

/-- Which sectors aren't the blocks'. -/
def badL (S : List (List UInt8)) (F : Fb) (n : Nat) : List Nat := (List.range n).filter fun i => decide (S.getD i [] ≠ sealB (bkF F i))
theorem str_filter_or {α : Type} (P Q : α → Bool) : ∀ l : List α, (l.filter fun x => P x || Q x).length = (l.filter P).length + (l.filter fun x => !P x && Q x).length
  | [] => rfl
  | a :: l => by
    have ih := str_filter_or P Q l
    rw [List.filter_cons, List.filter_cons, List.filter_cons]
    cases P a <;> cases Q a <;> simp [ih] <;> omega
theorem bad_count (S : List (List UInt8)) (F : Fb) (n : Nat) : (badL S F n).length = (erasedF S n).length + ((List.range n).filter fun i => rightT (S.getD i []) && decide (S.getD i [] ≠ sealB (bkF F i))).length := by
  have h := str_filter_or (fun i => !rightT (S.getD i [])) (fun i => decide (S.getD i [] ≠ sealB (bkF F i))) (List.range n)
  have e : ((List.range n).filter fun i => !rightT (S.getD i []) || decide (S.getD i [] ≠ sealB (bkF F i))) = badL S F n := by
    unfold badL
    refine List.filter_congr fun i _ => ?_
    cases hr : rightT (S.getD i []) with
    | true => rfl
    | false =>
      have : S.getD i [] ≠ sealB (bkF F i) := fun e => by
        rw [e, right_seal _ (bkF_length _ _)] at hr
        cases hr
      rw [decide_eq_true this]; rfl
  rw [e] at h
  rw [h, erasedF]
  congr 2
  refine List.filter_congr fun i _ => ?_
  rw [Bool.not_not]
theorem gAt_mark {n : Nat} {er : List Nat} (h : ∀ x ∈ er, x < n) (j : Nat) : gAt (markE n (er.map fun x : Nat => (x : Int))) j = decide (j ∈ er) := by
  have hb : inB n (er.map fun x : Nat => (x : Int)) = true := by
    unfold inB
    rw [List.all_eq_true]
    intro x hx
    obtain ⟨y, hy, rfl⟩ := List.mem_map.1 hx
    have := h y hy
    simp
    omega
  have hn : gAt (noneG n) j = false := by
    unfold gAt noneG
    rw [List.getD_eq_getElem?_getD, List.getElem?_replicate]
    split <;> rfl
  unfold markE
  rw [gAt_setG n _ _ j (by simp [noneG]) hb, hn, Bool.false_or, Bool.eq_iff_iff, decide_eq_true_iff, List.any_eq_true]
  constructor
  · rintro ⟨x, hx, h2⟩
    obtain ⟨y, hy, rfl⟩ := List.mem_map.1 hx
    have : y = j := by simpa using h2
    rw [← this]; exact hy
  · intro hj
    exact ⟨(j : Int), List.mem_map.2 ⟨j, hj, rfl⟩, by simp⟩

theorem read_word {k p : Nat} {f : Fb} {S : List (List UInt8)} (hk : 1 ≤ k) (hp : 1 ≤ p) (hn : k + p ≤ 255)
    (hq : (erasedF S (k + p)).length + 2 * ((List.range (k + p)).filter fun i => rightT (S.getD i []) && decide (S.getD i [] ≠ sealB (bkF (wholeF f k p) i))).length ≤ p) (b : Nat) (hb : b < 60) :
    ∃ l, mendF masseyF (k + p) p (colF (seenF S) (k + p) b) ((erasedF S (k + p)).map fun x : Nat => (x : Int)) = .ok (colF (wholeF f k p) (k + p) b) l := by
  have hlt := erasedF_lt S (k + p)
  have hb2 : inB (k + p) ((erasedF S (k + p)).map fun x : Nat => (x : Int)) = true := by
    unfold inB
    rw [List.all_eq_true]
    intro x hx
    obtain ⟨y, hy, rfl⟩ := List.mem_map.1 hx
    have := hlt y hy
    simp
    omega
  refine ⟨_, SolMath.decode ⟨hn, colF_by _ _ _, colF_length _ _ _, colF_by _ _ _, colF_length _ _ _, allz_zero.1 (whole_right f k p b hb)⟩ hp hb2 ?_⟩
  have h1 := str_cnt_set ((erasedF S (k + p)).map fun x : Nat => (x : Int)) (noneG (k + p)) (by simp [noneG]) hb2
  rw [cnt_noneG, Nat.zero_add, List.length_map] at h1
  have h2 : ocnt (SolMath.oth (colF (seenF S) (k + p) b) (colF (wholeF f k p) (k + p) b) (markE (k + p) ((erasedF S (k + p)).map fun x : Nat => (x : Int)))) (k + p) ≤ ((List.range (k + p)).filter fun i => rightT (S.getD i []) && decide (S.getD i [] ≠ sealB (bkF (wholeF f k p) i))).length := by
    unfold ocnt
    refine filter_len_le _ _ _ fun i hi h => ?_
    have hin := List.mem_range.1 hi
    rw [decide_eq_true_iff] at h
    unfold SolMath.oth at h
    rw [gAt_mark hlt] at h
    by_cases hm : i ∈ erasedF S (k + p)
    · rw [decide_eq_true hm, if_pos rfl] at h
      exact absurd rfl h
    · rw [decide_eq_false hm, if_neg (by simp)] at h
      have hr : rightT (S.getD i []) = true := by
        cases hr : rightT (S.getD i []) with
        | true => rfl
        | false => exact absurd (List.mem_filter.2 ⟨hi, by rw [hr]; rfl⟩) hm
      rw [hr, Bool.true_and, decide_eq_true_iff]
      intro e
      unfold SolMath.er at h
      rw [colF_sq _ _ _ _ hin, colF_sq _ _ _ _ hin] at h
      have : seenF S i b = wholeF f k p i b := by
        have h5 : bkF (seenF S) i = bkF (wholeF f k p) i := by rw [bkF_seen, e, blk_seal _ (bkF_length _ _)]
        exact bkF_eq.1 h5 b hb
      rw [this, Nat.xor_self] at h
      exact h rfl
  unfold markE at h2 ⊢
  omega
/-- A stripe of which few sectors were turned is read as it was written. -/
theorem read_good {k p : Nat} {f : Fb} {S : List (List UInt8)} (hk : 1 ≤ k) (hp : 1 ≤ p) (hn : k + p ≤ 255)
    (hq : (∀ i, i < k + p → S.getD i [] ≠ sealB (bkF (wholeF f k p) i) → rightT (S.getD i []) = false) ∧ (badL S (wholeF f k p) (k + p)).length ≤ p ∨ (badL S (wholeF f k p) (k + p)).length ≤ p / 2) :
    okTo (k + p) p (seenF S) ((erasedF S (k + p)).map fun x : Nat => (x : Int)) 60 = true ∧
    grid (k + p) (mdF (k + p) p (seenF S) ((erasedF S (k + p)).map fun x : Nat => (x : Int))) = grid (k + p) (wholeF f k p) ∧
    unlF (k + p) (seenF S) (mdF (k + p) p (seenF S) ((erasedF S (k + p)).map fun x : Nat => (x : Int))) (erasedF S (k + p)) = badL S (wholeF f k p) (k + p) := by
  have hc := bad_count S (wholeF f k p) (k + p)
  have hw := read_word (S := S) (f := f) hk hp hn (by
    rcases hq with ⟨h1, h2⟩ | h
    · have h0 : ((List.range (k + p)).filter fun i => rightT (S.getD i []) && decide (S.getD i [] ≠ sealB (bkF (wholeF f k p) i))) = [] := by
        rw [List.filter_eq_nil_iff]
        intro i hi h
        rw [Bool.and_eq_true, decide_eq_true_iff] at h
        rw [h1 i (List.mem_range.1 hi) h.2] at h
        cases h.1
      rw [h0] at hc ⊢
      simp at hc ⊢
      omega
    · omega)
  have hmd : ∀ i, i < k + p → ∀ b, b < 60 → mdF (k + p) p (seenF S) ((erasedF S (k + p)).map fun x : Nat => (x : Int)) i b = wholeF f k p i b := fun i hi b hb => by
    obtain ⟨l, hl⟩ := hw b hb
    rw [mdF, hl]
    show UInt8.ofNat (sq (colF (wholeF f k p) (k + p) b) i) = _
    rw [colF_sq _ _ _ _ hi, toNat_ofNat']
  refine ⟨?_, grid_congr hmd, ?_⟩
  · unfold okTo
    rw [List.all_eq_true]
    intro b hb
    obtain ⟨l, hl⟩ := hw b (List.mem_range.1 hb)
    rw [okAt, hl]
  · unfold unlF badL
    refine List.filter_congr fun i hi => ?_
    have hin := List.mem_range.1 hi
    have e : bkF (mdF (k + p) p (seenF S) ((erasedF S (k + p)).map fun x : Nat => (x : Int))) i = bkF (wholeF f k p) i := bkF_eq.2 fun b hb => hmd i hin b hb
    rw [e, bkF_seen]
    have hm : (i ∈ erasedF S (k + p)) ↔ rightT (S.getD i []) = false := by
      unfold erasedF
      rw [List.mem_filter]
      constructor
      · rintro ⟨_, h⟩; simpa using h
      · intro h; exact ⟨hi, by rw [h]; rfl⟩
    rw [Bool.eq_iff_iff, Bool.or_eq_true, decide_eq_true_iff, decide_eq_true_iff, decide_eq_true_iff, hm]
    constructor
    · rintro (h | h) e2
      · rw [e2, blk_seal _ (bkF_length _ _)] at h
        exact h rfl
      · rw [e2, right_seal _ (bkF_length _ _)] at h
        cases h
    · intro h
      by_cases hr : rightT (S.getD i []) = true
      · left
        intro e2
        have := right_is_seal hr
        rw [e2] at this
        exact h this
      · right; simpa using hr
/-- Sectors of a stripe that weren't turned. -/
theorem bad_none {S : List (List UInt8)} {F : Fb} {n : Nat} (h : ∀ i, i < n → S.getD i [] = sealB (bkF F i)) : badL S F n = [] := by
  unfold badL
  rw [List.filter_eq_nil_iff]
  intro i hi
  rw [decide_eq_true_iff, h i (List.mem_range.1 hi)]
  exact fun hh => hh rfl
end Go.Proofs.YtlcmnpbbfnfcmaaGreat
