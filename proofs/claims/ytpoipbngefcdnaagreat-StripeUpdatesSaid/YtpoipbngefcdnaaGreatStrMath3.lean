/- A stripe, and what turns one of its data blocks, are the new stripe together. No program. -/
import Derived.Test.YtpoipbngefcdnaaGreatStrX
namespace Go.Proofs.YtpoipbngefcdnaaGreat
open Go.RowKit CrcMath GfMath PolyMath RsMath SolMath GeoMath
set_option linter.unusedVariables false

theorem dif_front {a b : List Nat} {m : Nat} (h : ∀ j, j < m → sq a j = sq b j) : ∀ r, dif a b (m + r) ≤ r
  | 0 => by
    have : ∀ i, i ≤ m → dif a b i = 0 := by
      intro i
      induction i with
      | zero => exact fun _ => rfl
      | succ i ih => intro hi; rw [dif, ih (by omega), if_pos (h i (by omega))]
    exact Nat.le_of_eq (this m (Nat.le_refl _))
  | r + 1 => by
    have := dif_front h r
    show dif a b (m + r) + _ ≤ _
    split <;> omega
theorem sq_code_front (X : List Nat) (p j : Nat) (h : j < X.length) : sq (code X p) j = sq X j := by
  unfold sq code
  rw [List.getD_eq_getElem?_getD, List.getElem?_append_left h, ← List.getD_eq_getElem?_getD]
theorem sq_xl (a b : List Nat) (j : Nat) (h : j < a.length) : sq (xl a b) j = sq a j ^^^ sq b j := by rw [xl, sq_tab, if_pos h]
theorem code_sum {X Y : List Nat} {p : Nat} (hX : By X) (hY : By Y) (hl : X.length = Y.length) (hn : X.length + p ≤ 255) : xl (code X p) (code Y p) = code (xl X Y) p := by
  have hZ := xl_by hX hY
  have h1 : (code X p).length = X.length + p := code_length X hX p
  have h2 : (code Y p).length = X.length + p := by rw [code_length Y hY p, hl]
  have h3 : (code (xl X Y) p).length = X.length + p := by rw [code_length _ hZ p, xl_length]
  refine far_dif (p := p) (xl_by (code_by X hX p) (code_by Y hY p)) (code_by _ hZ p) (by rw [xl_length, h1, h3]) (by rw [xl_length, h1]; exact hn) ?_ (xl_right (code_by X hX p) (code_by Y hY p) (by rw [h1, h2]) (code_right hX p) (code_right hY p)) (code_right hZ p)
  rw [xl_length, h1]
  refine dif_front (fun j hj => ?_) p
  rw [sq_xl _ _ _ (by omega), sq_code_front X p j hj, sq_code_front Y p j (by omega), sq_code_front _ p j (by rw [xl_length]; exact hj), sq_xl _ _ _ hj]
/-- The data with another block among them. -/
def newF (f : Fb) (B : Nat → UInt8) (q : Nat) : Fb := fun i b => if i = q then B b else f i b
theorem upd_whole {f : Fb} {B : Nat → UInt8} {k p q : Nat} (hq : q < k) (hn : k + p ≤ 255) (i b : Nat) (hi : i < k + p) (hb : b < 60) :
    xorF (wholeF f k p) (wholeF (turnF (wholeF f k p) B q) k p) i b = wholeF (newF f B q) k p i b := by
  have hX := colF_by f k b
  have hY := colF_by (turnF (wholeF f k p) B q) k b
  have hcol : colF (newF f B q) k b = xl (colF f k b) (colF (turnF (wholeF f k p) B q) k b) := by
    refine list_eq (by rw [xl_length, colF_length, colF_length]) fun j hj => ?_
    rw [colF_length] at hj
    rw [sq_xl _ _ _ (by rw [colF_length]; exact hj), colF_sq _ _ _ _ hj, colF_sq _ _ _ _ hj, colF_sq _ _ _ _ hj]
    by_cases e : j = q
    · subst e
      rw [newF, if_pos rfl, turnF, if_pos rfl, show wholeF f k p j b = f j b from wholeT_data f k p 60 j b hj, UInt8.toNat_xor, ← Nat.xor_assoc, Nat.xor_self, Nat.zero_xor]
    · rw [newF, if_neg e, turnF, if_neg e]
      show _ = (f j b).toNat ^^^ 0
      rw [Nat.xor_zero]
  have h := congrArg (fun l => sq l i) (code_sum (p := p) hX hY (by rw [colF_length, colF_length]) (by rw [colF_length]; exact hn))
  rw [← hcol, sq_xl _ _ _ (by rw [code_length _ hX, colF_length]; exact hi), ← col_whole f k p b hb, ← col_whole _ k p b hb, ← col_whole (newF f B q) k p b hb, colF_sq _ _ _ _ hi, colF_sq _ _ _ _ hi, colF_sq _ _ _ _ hi] at h
  refine UInt8.toNat_inj.1 ?_
  rw [xorF, UInt8.toNat_xor]
  exact h
theorem upd_grid {f : Fb} {B : Nat → UInt8} {k p q : Nat} (hq : q < k) (hn : k + p ≤ 255) : grid (k + p) (xorF (wholeF f k p) (wholeF (turnF (wholeF f k p) B q) k p)) = grid (k + p) (wholeF (newF f B q) k p) :=
  grid_congr fun i hi b hb => upd_whole hq hn i b hi hb
/-- Which sectors are others. -/
def wantL (f g : Fb) (k p i : Nat) : List Nat := (List.range i).filter fun j => decide (secF g k p j ≠ secF f k p j)
theorem wantL_succ (f g : Fb) (k p i : Nat) : wantL f g k p (i + 1) = wantL f g k p i ++ if secF g k p i = secF f k p i then [] else [i] := by
  rw [wantL, List.range_succ, List.filter_append, ← wantL, List.filter_cons, List.filter_nil]
  by_cases h : secF g k p i = secF f k p i <;> simp [h]
theorem wantL_le (f g : Fb) (k p i : Nat) : (wantL f g k p i).length ≤ i := by
  have := List.length_filter_le (fun j => decide (secF g k p j ≠ secF f k p j)) (List.range i)
  rwa [List.length_range] at this
theorem upd_others {f : Fb} {B : Nat → UInt8} {k p q : Nat} (hq : q < k) (hn : k + p ≤ 255) : unlF (k + p) (wholeF f k p) (xorF (wholeF f k p) (wholeF (turnF (wholeF f k p) B q) k p)) [] = wantL f (newF f B q) k p (k + p) := by
  unfold unlF wantL
  refine List.filter_congr fun i hi => ?_
  have hin := List.mem_range.1 hi
  have e : bkF (xorF (wholeF f k p) (wholeF (turnF (wholeF f k p) B q) k p)) i = bkF (wholeF (newF f B q) k p) i := bkF_eq.2 fun b hb => upd_whole hq hn i b hin hb
  rw [e, Bool.eq_iff_iff, Bool.or_eq_true, decide_eq_true_iff, decide_eq_true_iff, decide_eq_true_iff]
  constructor
  · rintro (h | h)
    · intro h2
      unfold secF at h2
      exact h (sealB_inj (bkF_length _ _) (bkF_length _ _) (str_inj h2)).symm
    · cases h
  · intro h
    left
    intro h2
    exact h (by unfold secF; rw [h2])
theorem bl_of (H : List UInt8) (h : H.length = 60) : bl (fun b => H.getD b 0) = H := by
  refine List.ext_getElem? fun b => ?_
  by_cases hb : b < 60
  · rw [bl_get _ _ hb, List.getD_eq_getElem?_getD, List.getElem?_eq_getElem (by omega), Option.getD_some]
  · rw [List.getElem?_eq_none (by rw [bl_length]; omega), List.getElem?_eq_none (by omega)]
/-- The data's own memory, one block stored over. -/
theorem newF_store (f : Fb) (B : Nat → UInt8) (k q : Nat) (ys : List Value) (h : q < k) : bytes (grid k f) ++ ys = bytes (grid q f) ++ bytes (bkF f q) ++ (bytes (grid (k - q - 1) fun j => f (q + 1 + j)) ++ ys) ∧
    bytes (grid q f) ++ bytes (bl B) ++ (bytes (grid (k - q - 1) fun j => f (q + 1 + j)) ++ ys) = bytes (grid k (newF f B q)) ++ ys := by
  constructor
  · rw [grid_split f h, bytes_append, bytes_append]
    simp only [List.append_assoc]
  · have e : bkF (newF f B q) q = bl B := List.map_congr_left fun b _ => by rw [newF, if_pos rfl]
    have e1 : grid q (newF f B q) = grid q f := grid_congr fun j hj b _ => by rw [newF, if_neg (by omega)]
    have e2 : (grid (k - q - 1) fun j => newF f B q (q + 1 + j)) = grid (k - q - 1) fun j => f (q + 1 + j) := grid_congr fun j hj b _ => by
      show newF f B q (q + 1 + j) b = f (q + 1 + j) b
      rw [newF, if_neg (by omega)]
    rw [grid_split (newF f B q) h, bytes_append, bytes_append, e, e1, e2]
    simp only [List.append_assoc]
end Go.Proofs.YtpoipbngefcdnaaGreat
