/- A stripe's blocks, byte by byte: block i's byte at place b is f i b. No program. -/
import Derived.Test.YtlcmnpbbfnfcmaaGreatB5
namespace Go.Proofs.YtlcmnpbbfnfcmaaGreat
open Go.RowKit CrcMath GfMath PolyMath RsMath SolMath
set_option linter.unusedVariables false

abbrev Fb := Nat → Nat → UInt8
/-- Block i. -/
def bkF (f : Fb) (i : Nat) : List UInt8 := (List.range 60).map (f i)
theorem bkF_length (f : Fb) (i : Nat) : (bkF f i).length = 60 := by simp [bkF]
theorem bkF_get (f : Fb) (i b : Nat) (h : b < 60) : (bkF f i)[b]? = some (f i b) := by simp [bkF, h]
theorem bkF_eq {f g : Fb} {i j : Nat} : bkF f i = bkF g j ↔ ∀ b, b < 60 → f i b = g j b := by
  constructor
  · intro h b hb
    have := congrArg (fun l => l[b]?) h
    simp only [bkF_get _ _ _ hb, Option.some.injEq] at this
    exact this
  · intro h
    exact List.map_congr_left fun b hb => h b (List.mem_range.1 hb)
/-- n blocks, one behind the other. -/
def grid (n : Nat) (f : Fb) : List UInt8 := (List.range (n * 60)).map fun k => f (k / 60) (k % 60)
theorem grid_length (n : Nat) (f : Fb) : (grid n f).length = n * 60 := by simp [grid]
theorem grid_get (n : Nat) (f : Fb) (k : Nat) (h : k < n * 60) : (grid n f)[k]? = some (f (k / 60) (k % 60)) := by simp [grid, h]
theorem grid_at (n : Nat) (f : Fb) (i b : Nat) (hi : i < n) (hb : b < 60) : (grid n f)[i * 60 + b]? = some (f i b) := by
  have h1 : i * 60 + b < n * 60 := by omega
  rw [grid_get n f _ h1, show (i * 60 + b) / 60 = i by omega, show (i * 60 + b) % 60 = b by omega]
theorem grid_congr {n : Nat} {f g : Fb} (h : ∀ i, i < n → ∀ b, b < 60 → f i b = g i b) : grid n f = grid n g :=
  List.map_congr_left fun k hk => h _ (by have := List.mem_range.1 hk; omega) _ (by omega)
theorem grid_add (n m : Nat) (f : Fb) : grid (n + m) f = grid n f ++ grid m (fun i => f (n + i)) := by
  refine List.ext_getElem? fun k => ?_
  by_cases h : k < n * 60
  · rw [List.getElem?_append_left (by rw [grid_length]; exact h), grid_get _ _ _ h, grid_get _ _ _ (by omega)]
  · by_cases h2 : k < (n + m) * 60
    · rw [List.getElem?_append_right (by rw [grid_length]; omega), grid_length, grid_get _ _ _ h2, grid_get _ _ _ (by omega)]
      have e1 : k / 60 = n + (k - n * 60) / 60 := by omega
      have e2 : k % 60 = (k - n * 60) % 60 := by omega
      rw [← e1, ← e2]
    · rw [List.getElem?_eq_none (by rw [grid_length]; omega), List.getElem?_eq_none (by rw [List.length_append, grid_length, grid_length]; omega)]
theorem grid_one (f : Fb) : grid 1 f = bkF f 0 := by
  refine List.ext_getElem? fun k => ?_
  by_cases h : k < 60
  · rw [grid_get _ _ _ (by omega), bkF_get _ _ _ h, show k / 60 = 0 by omega, show k % 60 = k by omega]
  · rw [List.getElem?_eq_none (by rw [grid_length]; omega), List.getElem?_eq_none (by rw [bkF_length]; omega)]
theorem grid_succ (n : Nat) (f : Fb) : grid (n + 1) f = grid n f ++ bkF f n := by
  rw [grid_add, grid_one]
  congr 1
theorem grid_split {n i : Nat} (f : Fb) (h : i < n) : grid n f = grid i f ++ bkF f i ++ grid (n - i - 1) (fun j => f (i + 1 + j)) := by
  rw [show n = (i + 1) + (n - i - 1) by omega, grid_add, grid_succ]
  congr 2
  omega
/-- Blocks that are given as lists. -/
def ofL (L : List (List UInt8)) : Fb := fun i b => (L.getD i []).getD b 0
theorem bkF_ofL (L : List (List UInt8)) (h : ∀ x ∈ L, x.length = 60) (i : Nat) (hi : i < L.length) : bkF (ofL L) i = L[i] := by
  have hl := h _ (List.getElem_mem hi)
  refine List.ext_getElem? fun b => ?_
  by_cases hb : b < 60
  · have e : L.getD i [] = L[i] := by simp [List.getD_eq_getElem?_getD, hi]
    rw [bkF_get _ _ _ hb, ofL, e, List.getD_eq_getElem?_getD, List.getElem?_eq_getElem (by omega), Option.getD_some]
  · rw [List.getElem?_eq_none (by rw [bkF_length]; omega), List.getElem?_eq_none (by omega)]
theorem grid_take (L : List (List UInt8)) (h : ∀ x ∈ L, x.length = 60) : ∀ n, n ≤ L.length → grid n (ofL L) = (L.take n).flatten
  | 0, _ => rfl
  | n + 1, hn => by rw [grid_succ, grid_take L h n (by omega), flat_take L n (by omega), bkF_ofL L h n (by omega)]
theorem grid_of (L : List (List UInt8)) (h : ∀ x ∈ L, x.length = 60) : L.flatten = grid L.length (ofL L) := by
  rw [grid_take L h _ (Nat.le_refl _), List.take_length]

/-- One byte is another. -/
def setF (f : Fb) (i b : Nat) (v : UInt8) : Fb := fun j c => if j = i ∧ c = b then v else f j c
theorem grid_set (n : Nat) (f : Fb) (i b : Nat) (v : UInt8) (hi : i < n) (hb : b < 60) : (grid n f).set (i * 60 + b) v = grid n (setF f i b v) := by
  refine List.ext_getElem? fun k => ?_
  rw [List.getElem?_set]
  by_cases h : k < n * 60
  · rw [grid_get _ _ _ h, grid_get _ _ _ h, setF]
    by_cases e : i * 60 + b = k
    · rw [if_pos e, if_pos (by rw [grid_length]; omega), if_pos (by constructor <;> omega)]
    · rw [if_neg e, if_neg (by intro hh; omega)]
  · rw [if_neg (by omega), List.getElem?_eq_none (by rw [grid_length]; omega), List.getElem?_eq_none (by rw [grid_length]; omega)]
/-- A word's first k bytes at place b of the blocks from o on. -/
def putF (f : Fb) (o b : Nat) (X : List Nat) (k : Nat) : Fb := fun j c => if c = b ∧ o ≤ j ∧ j < o + k then UInt8.ofNat (sq X (j - o)) else f j c
theorem putF_zero (f : Fb) (o b : Nat) (X : List Nat) : putF f o b X 0 = f := by
  funext j c
  rw [putF, if_neg (by omega)]
theorem putF_succ (f : Fb) (o b : Nat) (X : List Nat) (k : Nat) : setF (putF f o b X k) (o + k) b (UInt8.ofNat (sq X k)) = putF f o b X (k + 1) := by
  funext j c
  unfold setF putF
  by_cases e : j = o + k ∧ c = b
  · rw [if_pos e, if_pos (by omega)]
    rw [show j - o = k by omega]
  · rw [if_neg e]
    by_cases h : c = b ∧ o ≤ j ∧ j < o + k
    · rw [if_pos h, if_pos (by omega)]
    · rw [if_neg h, if_neg (by omega)]
/-- The blocks' bytes at a place. -/
def colF (f : Fb) (n b : Nat) : List Nat := tab n fun i => (f i b).toNat
theorem colF_length (f : Fb) (n b : Nat) : (colF f n b).length = n := tab_length _ _
theorem colF_by (f : Fb) (n b : Nat) : By (colF f n b) := tab_by _ fun i _ => (f i b).toNat_lt
theorem colF_sq (f : Fb) (n b i : Nat) (h : i < n) : sq (colF f n b) i = (f i b).toNat := by rw [colF, sq_tab, if_pos h]
theorem colF_congr {f g : Fb} {n b : Nat} (h : ∀ i, i < n → f i b = g i b) : colF f n b = colF g n b := tab_congr _ fun i hi => by rw [h i hi]
theorem ofNat_toNat {x : Nat} (h : x < 256) : (UInt8.ofNat x).toNat = x := by
  rw [UInt8.toNat_ofNat']; exact Nat.mod_eq_of_lt h
theorem toNat_ofNat' (x : UInt8) : UInt8.ofNat x.toNat = x := by simp

/-- All blocks of a stripe, its parity laid up to place t. -/
def wholeT (f : Fb) (k p t : Nat) : Fb := fun j b => if j < k then f j b else if b < t then UInt8.ofNat (sq (parity (colF f k b) p) (j - k)) else 0
def wholeF (f : Fb) (k p : Nat) : Fb := wholeT f k p 60
theorem wholeT_data (f : Fb) (k p t j b : Nat) (h : j < k) : wholeT f k p t j b = f j b := if_pos h
theorem wholeT_next (f : Fb) (k p t : Nat) (j b : Nat) (hj : j < k + p) : putF (wholeT f k p t) k t (parity (colF f k t) p) p j b = wholeT f k p (t + 1) j b := by
  unfold putF wholeT
  by_cases h1 : j < k
  · rw [if_neg (by omega), if_pos h1, if_pos h1]
  · rw [if_neg h1, if_neg h1]
    by_cases h2 : b = t
    · subst h2
      rw [if_pos (by omega), if_pos (by omega)]
    · rw [if_neg (by omega)]
      by_cases h3 : b < t
      · rw [if_pos h3, if_pos (by omega)]
      · rw [if_neg h3, if_neg (by omega)]
theorem grid_next (f : Fb) (k p t : Nat) : grid (k + p) (putF (wholeT f k p t) k t (parity (colF f k t) p) p) = grid (k + p) (wholeT f k p (t + 1)) :=
  grid_congr fun i hi b _ => wholeT_next f k p t i b hi
theorem grid_start (f : Fb) (k p : Nat) : grid k f ++ List.replicate (p * 60) 0 = grid (k + p) (wholeT f k p 0) := by
  rw [grid_add, grid_congr (g := wholeT f k p 0) (f := f) fun i hi b _ => (wholeT_data f k p 0 i b hi).symm]
  congr 1
  refine List.ext_getElem? fun q => ?_
  by_cases h : q < p * 60
  · rw [grid_get _ _ _ h, List.getElem?_replicate, if_pos h, wholeT, if_neg (by omega), if_neg (by omega)]
  · rw [List.getElem?_eq_none (by simp; omega), List.getElem?_eq_none (by rw [grid_length]; omega)]
theorem wholeF_par (f : Fb) (k p j b : Nat) (h : ¬ j < k) (hb : b < 60) : wholeF f k p j b = UInt8.ofNat (sq (parity (colF f k b) p) (j - k)) := by
  rw [wholeF, wholeT, if_neg h, if_pos hb]
theorem col_whole (f : Fb) (k p b : Nat) (hb : b < 60) : colF (wholeF f k p) (k + p) b = code (colF f k b) p := by
  have hX := colF_by f k b
  refine list_eq (by rw [colF_length, code_length _ hX, colF_length]) fun j hj => ?_
  rw [colF_length] at hj
  rw [colF_sq _ _ _ _ hj]
  by_cases h : j < k
  · rw [show wholeF f k p j b = f j b from wholeT_data f k p 60 j b h, code]
    unfold sq
    rw [List.getD_eq_getElem?_getD, List.getElem?_append_left (by rw [colF_length]; exact h), ← List.getD_eq_getElem?_getD]
    exact (colF_sq f k b j h).symm
  · rw [wholeF_par f k p j b h hb, ofNat_toNat ((parity_by _ hX p).sq _), code]
    unfold sq
    rw [List.getD_eq_getElem?_getD, List.getD_eq_getElem?_getD, List.getElem?_append_right (by rw [colF_length]; omega), colF_length]
theorem whole_right (f : Fb) (k p b : Nat) (hb : b < 60) : allz (vals (colF (wholeF f k p) (k + p) b) p) = true := by
  rw [col_whole f k p b hb]
  exact code_right (colF_by f k b) p

/-- The blocks, mended place by place, with these erased. -/
def mdF (n p : Nat) (f : Fb) (er : List Int) : Fb := fun i b => match mendF masseyF n p (colF f n b) er with | .ok m _ => UInt8.ofNat (sq m i) | _ => 0
def okAt (n p : Nat) (f : Fb) (er : List Int) (b : Nat) : Bool := match mendF masseyF n p (colF f n b) er with | .ok _ _ => true | _ => false
def okTo (n p : Nat) (f : Fb) (er : List Int) (t : Nat) : Bool := (List.range t).all (okAt n p f er)
theorem okTo_succ (n p : Nat) (f : Fb) (er : List Int) (t : Nat) : okTo n p f er (t + 1) = (okTo n p f er t && okAt n p f er t) := by
  rw [okTo, okTo, List.range_succ, List.all_append]; simp
theorem okTo_false {n p : Nat} {f : Fb} {er : List Int} {t : Nat} (ht : t < 60) (h : okAt n p f er t = false) : okTo n p f er 60 = false := by
  rw [okTo, List.all_eq_false]
  exact ⟨t, List.mem_range.2 ht, by rw [h]; simp⟩
/-- Mended up to place t. -/
def mdT (n p : Nat) (f : Fb) (er : List Int) (t : Nat) : Fb := fun i b => if b < t then mdF n p f er i b else 0
theorem mdT_next (n p : Nat) (f : Fb) (er : List Int) (t : Nat) (m : List Nat) (l : List Nat) (h : mendF masseyF n p (colF f n t) er = .ok m l) : grid n (putF (mdT n p f er t) 0 t m n) = grid n (mdT n p f er (t + 1)) := by
  refine grid_congr fun i hi b _ => ?_
  unfold putF mdT
  by_cases e : b = t
  · subst e
    rw [if_pos (by omega), if_pos (by omega), mdF, h, Nat.sub_zero]
  · rw [if_neg (by omega)]
    by_cases h3 : b < t
    · rw [if_pos h3, if_pos (by omega)]
    · rw [if_neg h3, if_neg (by omega)]
theorem mdT_full (n p : Nat) (f : Fb) (er : List Int) : grid n (mdT n p f er 60) = grid n (mdF n p f er) :=
  grid_congr fun i _ b hb => if_pos hb
theorem mdT_zero (n p : Nat) (f : Fb) (er : List Int) : grid n (mdT n p f er 0) = List.replicate (n * 60) 0 := by
  refine List.ext_getElem? fun q => ?_
  by_cases h : q < n * 60
  · rw [grid_get _ _ _ h, List.getElem?_replicate, if_pos h, mdT, if_neg (by omega)]
  · rw [List.getElem?_eq_none (by rw [grid_length]; omega), List.getElem?_eq_none (by simp; omega)]
/-- Where two lists have other blocks, and where they are called so. -/
def unlF (n : Nat) (f g : Fb) (so : List Nat) : List Nat := (List.range n).filter fun i => decide (bkF f i ≠ bkF g i) || decide (i ∈ so)
theorem unlF_succ (n : Nat) (f g : Fb) (so : List Nat) : unlF (n + 1) f g so = unlF n f g so ++ if (decide (bkF f n ≠ bkF g n) || decide (n ∈ so)) = true then [n] else [] := by
  rw [unlF, List.range_succ, List.filter_append, ← unlF, List.filter_cons, List.filter_nil]
theorem unlF_le (n : Nat) (f g : Fb) (so : List Nat) : (unlF n f g so).length ≤ n := by
  have := List.length_filter_le (fun i => decide (bkF f i ≠ bkF g i) || decide (i ∈ so)) (List.range n)
  rwa [List.length_range] at this
/-- The blocks that sectors hold; the sectors whose tag isn't right. -/
def seenF (S : List (List UInt8)) : Fb := fun i b => (blk (S.getD i [])).getD b 0
theorem bkF_seen (S : List (List UInt8)) (i : Nat) : bkF (seenF S) i = blk (S.getD i []) := by
  refine List.ext_getElem? fun b => ?_
  by_cases hb : b < 60
  · rw [bkF_get _ _ _ hb, seenF, List.getD_eq_getElem?_getD, List.getElem?_eq_getElem (by rw [blk_length]; exact hb), Option.getD_some]
  · rw [List.getElem?_eq_none (by rw [bkF_length]; omega), List.getElem?_eq_none (by rw [blk_length]; omega)]
def erasedF (S : List (List UInt8)) (n : Nat) : List Nat := (List.range n).filter fun i => !rightT (S.getD i [])
theorem erasedF_succ (S : List (List UInt8)) (n : Nat) : erasedF S (n + 1) = erasedF S n ++ if rightT (S.getD n []) = false then [n] else [] := by
  rw [erasedF, List.range_succ, List.filter_append, ← erasedF, List.filter_cons, List.filter_nil]
  cases rightT (S.getD n []) <;> rfl
theorem erasedF_lt (S : List (List UInt8)) (n : Nat) : ∀ x ∈ erasedF S n, x < n := fun x hx => by
  have := (List.mem_filter.1 hx).1
  simpa using this
theorem erasedF_le (S : List (List UInt8)) (n : Nat) : (erasedF S n).length ≤ n := by
  have := List.length_filter_le (fun i => !rightT (S.getD i [])) (List.range n)
  rwa [List.length_range] at this
/-- Two blocks' sum. -/
def xorF (f g : Fb) : Fb := fun i b => f i b ^^^ g i b
end Go.Proofs.YtlcmnpbbfnfcmaaGreat
