/- A flash device as a value (mathematics: no program). -/
namespace FlaMath
structure Dv where
  fb : Int
  fm : UInt8
  lit : Bool
  left : Int
  C : List UInt8
  L : List Bool
  E : List Int
  ops : Int
  dn : Bool
structure Dv.Ok (D : Dv) : Prop where
  one : 1 ≤ D.L.length
  top : D.L.length ≤ 512
  cells : D.C.length = 64 * D.L.length
  worn : D.E.length = D.L.length
/-- How many of n bytes are done when it is torn. -/
def reach (fb : Int) (n : Nat) : Nat := ((fb.tmod (n + 1) + n + 1).tmod (n + 1)).toNat
theorem reach_le (fb : Int) (n : Nat) : reach fb n ≤ n := by
  unfold reach
  have := Int.tmod_lt_of_pos (fb.tmod (n + 1) + n + 1) (b := (n : Int) + 1) (by omega)
  omega
theorem reach_eq (fb : Int) (n : Nat) : (fb.tmod (n + 1) + n + 1).tmod (n + 1) = (reach fb n : Int) := by
  unfold reach
  have h0 := Int.lt_tmod_of_pos fb (b := (n : Int) + 1) (by omega)
  have := Int.tmod_nonneg (a := fb.tmod (n + 1) + n + 1) ((n : Int) + 1) (by omega)
  omega
/-- Bytes o .. of a list: k of them by f. -/
def prog (C : List UInt8) (o k : Nat) (f : Nat → UInt8 → UInt8) : List UInt8 := C.mapIdx fun i c => if o ≤ i ∧ i < o + k then f (i - o) c else c
theorem prog_length (C : List UInt8) (o k : Nat) (f : Nat → UInt8 → UInt8) : (prog C o k f).length = C.length := by simp [prog]
theorem prog_zero (C : List UInt8) (o : Nat) (f : Nat → UInt8 → UInt8) : prog C o 0 f = C := by
  apply List.ext_getElem (by simp [prog])
  intro i h1 h2
  simp only [prog, List.getElem_mapIdx]
  rw [if_neg (by omega)]
theorem prog_get (C : List UInt8) (o k : Nat) (f : Nat → UInt8 → UInt8) (i : Nat) (h : i < C.length) : (prog C o k f)[i]'(by rw [prog_length]; exact h) = if o ≤ i ∧ i < o + k then f (i - o) C[i] else C[i] := by
  simp only [prog, List.getElem_mapIdx]
theorem prog_at (C : List UInt8) (o k : Nat) (f : Nat → UInt8 → UInt8) (h : o + k < C.length) : (prog C o k f)[o + k]'(by rw [prog_length]; exact h) = C[o + k] := by
  rw [prog_get _ _ _ _ _ h, if_neg (by omega)]
theorem prog_step (C : List UInt8) (o k : Nat) (f : Nat → UInt8 → UInt8) (h : o + k < C.length) : (prog C o k f).set (o + k) (f k C[o + k]) = prog C o (k + 1) f := by
  apply List.ext_getElem (by simp [prog])
  intro i h1 h2
  simp only [prog, List.getElem_set, List.getElem_mapIdx]
  by_cases e : o + k = i
  · subst e
    rw [if_pos rfl, if_pos (by omega), show o + k - o = k by omega]
  · rw [if_neg e]
    by_cases hi : o ≤ i ∧ i < o + k
    · rw [if_pos hi, if_pos (by omega)]
    · rw [if_neg hi, if_neg (by omega)]
/-- .. and the next, if there is one before n, by g. -/
def work (C : List UInt8) (o n r : Nat) (f g : Nat → UInt8 → UInt8) : List UInt8 := if r < n then (prog C o r f).set (o + r) (g r (C.getD (o + r) 0)) else prog C o r f
theorem work_length (C : List UInt8) (o n r : Nat) (f g : Nat → UInt8 → UInt8) : (work C o n r f g).length = C.length := by
  unfold work
  split
  · rw [List.length_set, prog_length]
  · rw [prog_length]
theorem work_get (C : List UInt8) (o n r : Nat) (f g : Nat → UInt8 → UInt8) (i : Nat) (h : i < C.length) :
    (work C o n r f g)[i]'(by rw [work_length]; exact h) = if o ≤ i ∧ i < o + r then f (i - o) C[i] else if i = o + r ∧ r < n then g r C[i] else C[i] := by
  by_cases hr : r < n
  · simp only [work, if_pos hr, List.getElem_set]
    by_cases e : o + r = i
    · subst e
      rw [if_pos rfl, if_neg (by omega), if_pos ⟨rfl, hr⟩, List.getD_eq_getElem?_getD, List.getElem?_eq_getElem h]; rfl
    · rw [if_neg e, prog_get _ _ _ _ _ h]
      by_cases hi : o ≤ i ∧ i < o + r
      · rw [if_pos hi, if_pos hi]
      · rw [if_neg hi, if_neg hi, if_neg (by omega)]
  · simp only [work, if_neg hr]
    rw [prog_get _ _ _ _ _ h]
    by_cases hi : o ≤ i ∧ i < o + r
    · rw [if_pos hi, if_pos hi]
    · rw [if_neg hi, if_neg hi, if_neg (by omega)]
def fE (_ : Nat) (_ : UInt8) : UInt8 := 255
def gE (m : UInt8) (_ : Nat) (c : UInt8) : UInt8 := c ||| m
def fP (l : List UInt8) (k : Nat) (c : UInt8) : UInt8 := c &&& l.getD k 0
def gP (l : List UInt8) (m : UInt8) (k : Nat) (c : UInt8) : UInt8 := c &&& (l.getD k 0 ||| m)
/-- The state when power comes back. -/
def Dv.on (D : Dv) : Dv := { D with fb := 0, fm := 0, lit := false, left := 0, dn := false }
def Dv.fuse (D : Dv) (n fb : Int) (fm : UInt8) : Dv := { D with fb := fb, fm := fm, lit := decide (0 ≤ n), left := n }
/-- Sectors a .. b - 1 are locked. -/
def lockF (L : List Bool) (a b : Nat) : List Bool := L.mapIdx fun i x => if a ≤ i ∧ i < b then true else x
theorem lockF_length (L : List Bool) (a b : Nat) : (lockF L a b).length = L.length := by simp [lockF]
theorem lockF_self (L : List Bool) (a : Nat) : lockF L a a = L := by
  apply List.ext_getElem (by simp [lockF])
  intro i h1 h2
  simp [lockF]
  omega
theorem lockF_step (L : List Bool) (a b : Nat) (hab : a ≤ b) : (lockF L a b).set b true = lockF L a (b + 1) := by
  apply List.ext_getElem (by simp [lockF])
  intro i h1 h2
  simp only [lockF, List.getElem_set, List.getElem_mapIdx]
  by_cases e : b = i
  · subst e
    simp [hab]
  · have : (a ≤ i ∧ i < b + 1) ↔ (a ≤ i ∧ i < b) := by omega
    simp only [e, if_false, this]
def lockE (n : Nat) (x y : Int) : Int := if x < 0 ∨ y < x ∨ (n : Int) < y then 2 else 0
def Dv.lock (D : Dv) (x y : Int) : Dv := if x < 0 ∨ y < x ∨ (D.L.length : Int) < y then D else { D with L := lockF D.L x.toNat y.toNat }
/-- Bytes o .. are turned by l. -/
def rotF (C : List UInt8) (o : Nat) (l : List UInt8) : List UInt8 := C.mapIdx fun i c => if o ≤ i ∧ i < o + l.length then c ^^^ l.getD (i - o) 0 else c
theorem rotF_length (C : List UInt8) (o : Nat) (l : List UInt8) : (rotF C o l).length = C.length := by simp [rotF]
theorem rotF_nil (C : List UInt8) (o : Nat) : rotF C o [] = C := by
  apply List.ext_getElem (by simp [rotF])
  intro i h1 h2
  simp [rotF]
  try omega
theorem rotF_at (C : List UInt8) (o : Nat) (l : List UInt8) (i : Nat) (h : i < C.length) (hi : o + l.length ≤ i) : (rotF C o l)[i]'(by rw [rotF_length]; exact h) = C[i] := by
  simp only [rotF, List.getElem_mapIdx]
  rw [if_neg (by omega)]
theorem rotF_step (C : List UInt8) (o k : Nat) (l : List UInt8) (hk : k < l.length) (h : o + k < C.length) : (rotF C o (l.take k)).set (o + k) (C[o + k] ^^^ l[k]) = rotF C o (l.take (k + 1)) := by
  apply List.ext_getElem (by simp [rotF])
  intro i h1 h2
  simp only [rotF, List.getElem_set, List.getElem_mapIdx, List.length_take]
  by_cases e : o + k = i
  · subst e
    rw [if_pos rfl, if_pos (by omega)]
    have : (l.take (k + 1)).getD (o + k - o) 0 = l[k] := by
      rw [show o + k - o = k by omega, List.getD_eq_getElem?_getD, List.getElem?_take_of_lt (by omega), List.getElem?_eq_getElem hk]; rfl
    rw [this]
  · rw [if_neg e]
    by_cases hi : o ≤ i ∧ i < o + k
    · rw [if_pos (by omega), if_pos (by omega), List.getD_eq_getElem?_getD, List.getD_eq_getElem?_getD, List.getElem?_take_of_lt (by omega), List.getElem?_take_of_lt (by omega)]
    · rw [if_neg (by omega), if_neg (by omega)]
def bey (n : Nat) (x y : Int) : Bool := decide (x < 0 ∨ y < 0 ∨ (n : Int) - x < y)
/-- What idle tells. -/
def idl (d : Bool) : Int := if d then 5 else 0
def readE (D : Dv) (x y : Int) : Int := if D.dn then 5 else if bey D.C.length x y then 2 else 0
def Dv.readD (D : Dv) (x y : Int) (op : Int) : Dv := if readE D x y = 0 then { D with ops := op } else D
def readS (D : Dv) (x y : Int) : List UInt8 := if readE D x y = 0 then (D.C.drop x.toNat).take y.toNat else []
def rotE (D : Dv) (x : Int) (l : List UInt8) : Int := if bey D.C.length x l.length then 2 else 0
def Dv.rot (D : Dv) (x : Int) (l : List UInt8) : Dv := if rotE D x l = 0 then { D with C := rotF D.C x.toNat l } else D
end FlaMath
