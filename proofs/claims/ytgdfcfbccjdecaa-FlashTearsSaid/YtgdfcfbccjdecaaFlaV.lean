/- What a torn erase, a torn program leave: FlashTears' mathematics. -/
import Derived.Test.YtgdfcfbccjdecaaFlaT
namespace Go.Proofs.Ytgdfcfbccjdecaa
open Go.RowKit FlaMath
set_option linter.unusedVariables false
set_option maxRecDepth 100000

/-- Where x has a bit, y has it. -/
def Sub (x y : UInt8) : Prop := ∀ i, x.toNat.testBit i = true → y.toNat.testBit i = true
theorem Sub.refl (x : UInt8) : Sub x x := fun _ h => h
theorem Sub.full (x : UInt8) : Sub x 255 := fun i h => by
  have hx : x.toNat < 2 ^ 8 := x.toNat_lt
  have hi : i < 8 := by
    rcases Nat.lt_or_ge i 8 with h' | h'
    · exact h'
    · rw [Nat.testBit_lt_two_pow (Nat.lt_of_lt_of_le hx (Nat.pow_le_pow_right (by omega) h'))] at h; cases h
  have : (255 : UInt8).toNat = 2 ^ 8 - 1 := rfl
  rw [this, Nat.testBit_two_pow_sub_one]
  exact decide_eq_true hi
theorem Sub.or (x m : UInt8) : Sub x (x ||| m) := fun i h => by rw [UInt8.toNat_or, Nat.testBit_or, h]; rfl
theorem Sub.and (x m : UInt8) : Sub (x &&& m) x := fun i h => by
  rw [UInt8.toNat_and, Nat.testBit_and, Bool.and_eq_true] at h
  exact h.1
theorem Sub.andNot {x y : UInt8} (h : Sub x y) : bits .andNot .u8 (x.toNat : Int) (y.toNat : Int) = 0 := by
  rw [u8_andNot_nat _ _ x.toNat_lt y.toNat_lt]
  have e : x.toNat &&& (255 - y.toNat) = 0 := by
    apply Nat.eq_of_testBit_eq
    intro i
    have hy : y.toNat < 2 ^ 8 := y.toNat_lt
    rw [Nat.testBit_and, show 255 - y.toNat = 2 ^ 8 - (y.toNat + 1) by omega, Nat.testBit_two_pow_sub_succ hy, Nat.zero_testBit]
    cases hx : x.toNat.testBit i with
    | false => rfl
    | true => rw [h i hx]; simp
  rw [e]; rfl
theorem sec_get (C : List UInt8) (k i : Nat) (hi : i < 64) : (sec C k).getD i 0 = C.getD (k * 64 + i) 0 := by
  rw [sec, List.getD_eq_getElem?_getD, List.getD_eq_getElem?_getD, List.getElem?_take_of_lt hi, List.getElem?_drop]
theorem work_getD (C : List UInt8) (o n r : Nat) (f g : Nat → UInt8 → UInt8) (j : Nat) (hj : j < C.length) :
    (FlaMath.work C o n r f g).getD j 0 = if o ≤ j ∧ j < o + r then f (j - o) (C.getD j 0) else if j = o + r ∧ r < n then g r (C.getD j 0) else C.getD j 0 := by
  have h1 := work_get C o n r f g j hj
  have e1 : (FlaMath.work C o n r f g).getD j 0 = (FlaMath.work C o n r f g)[j]'(by rw [work_length]; exact hj) := by
    rw [List.getD_eq_getElem?_getD, List.getElem?_eq_getElem (by rw [work_length]; exact hj)]; rfl
  have e2 : C.getD j 0 = C[j] := by rw [List.getD_eq_getElem?_getD, List.getElem?_eq_getElem hj]; rfl
  rw [e1, e2, h1]

/-- A device of three sectors that is up, and a fuse of nought laid. -/
structure Up3 (D : Dv) : Prop where
  len : D.L = List.replicate 3 false
  cel : D.C.length = 192
  up : D.dn = false
theorem rot_keeps (D : Dv) (x : Int) (l : List UInt8) : (D.rot x l).L = D.L ∧ (D.rot x l).dn = D.dn ∧ (D.rot x l).C.length = D.C.length := by
  unfold Dv.rot
  split
  · exact ⟨rfl, rfl, rotF_length _ _ _⟩
  · exact ⟨rfl, rfl, rfl⟩
theorem up3_rot (x : Int) (l : List UInt8) : Up3 ((D0 3).rot x l) := by
  obtain ⟨h1, h2, h3⟩ := rot_keeps (D0 3) x l
  exact ⟨h1, by rw [h3]; simp [D0], h2⟩
theorem fuse_burns (D : Dv) (fb : Int) (fm : UInt8) : burnB (D.fuse 0 fb fm) = true := by
  have h1 : wrap64 (0 - 1) < 0 := by unfold wrap64; omega
  have h2 : burnB (D.fuse 0 fb fm) = (decide ((0 : Int) ≤ 0) && decide (wrap64 (0 - 1) < 0)) := rfl
  rw [h2, decide_eq_true h1]; rfl
structure Tears (D D3 : Dv) (er : Bool) : Prop where
  dn : D3.dn = true
  s0 : dump D3 0 = dump D 0
  s2 : dump D3 2 = dump D 2
  sub : ∀ i, i < 64 → if er then Sub ((dump D 1).getD i 0) ((dump D3 1).getD i 0) else Sub ((dump D3 1).getD i 0) ((dump D 1).getD i 0) ∧ ((i < 16 ∨ 32 ≤ i) → (dump D 1).getD i 0 = (dump D3 1).getD i 0)
theorem dump_i (D : Dv) (k : Nat) (h : k < D.L.length) : dump D (k : Int) = sec D.C k := FlaMath_dump_eq D k h
theorem tear_erase (D : Dv) (fb : Int) (fm : UInt8) (h : Up3 D) : eraseE (D.fuse 0 fb fm) 1 = 5 ∧ Tears D (eraseD (D.fuse 0 fb fm) 1) true := by
  have hL : (D.fuse 0 fb fm).L = List.replicate 3 false := h.len
  have hdn : (D.fuse 0 fb fm).dn = false := h.up
  have hb := fuse_burns D fb fm
  have hB : eraseB (D.fuse 0 fb fm) 1 = true := by rw [eraseB, hL, hdn]; decide
  have hE : eraseE (D.fuse 0 fb fm) 1 = 5 := by rw [eraseE, hL, hdn, hb]; decide
  have hl : D.L.length = 3 := by rw [h.len]; rfl
  have hl3 : (eraseD (D.fuse 0 fb fm) 1).L.length = 3 := by rw [eraseD_L, hL]; rfl
  obtain ⟨r, hr, hC⟩ := workD_C (worn (D.fuse 0 fb fm) 1) (1 * 64) 64 fE (gE (D.fuse 0 fb fm).fm)
  have hC3 : (eraseD (D.fuse 0 fb fm) 1).C = FlaMath.work D.C (1 * 64) 64 r fE (gE fm) := by rw [eraseD, if_pos hB]; exact hC
  refine ⟨hE, ⟨?_, ?_, ?_, fun i hi => ?_⟩⟩
  · rw [eraseD, if_pos hB]; exact hb
  · have e1 := dump_i D 0 (by omega)
    have e2 := dump_i (eraseD (D.fuse 0 fb fm) 1) 0 (by omega)
    rw [hC3, sec_work _ _ _ _ _ _ hr 0 (by omega)] at e2
    exact e2.trans e1.symm
  · have e1 := dump_i D 2 (by omega)
    have e2 := dump_i (eraseD (D.fuse 0 fb fm) 1) 2 (by omega)
    rw [hC3, sec_work _ _ _ _ _ _ hr 2 (by omega)] at e2
    exact e2.trans e1.symm
  · have e1 := dump_i D 1 (by omega)
    have e2 := dump_i (eraseD (D.fuse 0 fb fm) 1) 1 (by omega)
    have e1' : dump D 1 = sec D.C 1 := e1
    have e2' : dump (eraseD (D.fuse 0 fb fm) 1) 1 = sec (eraseD (D.fuse 0 fb fm) 1).C 1 := e2
    rw [if_pos rfl, e1', e2', hC3, sec_get _ _ _ hi, sec_get _ _ _ hi, work_getD _ _ _ _ _ _ _ (by rw [h.cel]; omega)]
    split
    · exact Sub.full _
    · split
      · exact Sub.or _ _
      · exact Sub.refl _
theorem tear_program (D : Dv) (fb : Int) (fm : UInt8) (l : List UInt8) (hlen : l.length = 16) (h : Up3 D) : programE (D.fuse 0 fb fm) 80 l = 5 ∧ Tears D (programD (D.fuse 0 fb fm) 80 l) false := by
  have hL : (D.fuse 0 fb fm).L = List.replicate 3 false := h.len
  have hdn : (D.fuse 0 fb fm).dn = false := h.up
  have hcl : (D.fuse 0 fb fm).C.length = 192 := h.cel
  have hb := fuse_burns D fb fm
  have hB : programB (D.fuse 0 fb fm) 80 l = true := by rw [programB, hL, hdn, hcl, hlen]; decide
  have hE : programE (D.fuse 0 fb fm) 80 l = 5 := by rw [programE, hL, hdn, hcl, hlen, hb]; decide
  have hl : D.L.length = 3 := by rw [h.len]; rfl
  have hl3 : (programD (D.fuse 0 fb fm) 80 l).L.length = 3 := by rw [programD_L, hL]; rfl
  obtain ⟨r, hr, hC⟩ := workD_C (D.fuse 0 fb fm) 80 16 (fP l) (gP l (D.fuse 0 fb fm).fm)
  have hC3 : (programD (D.fuse 0 fb fm) 80 l).C = FlaMath.work D.C 80 16 r (fP l) (gP l fm) := by rw [programD, if_pos hB]; exact hC
  refine ⟨hE, ⟨?_, ?_, ?_, fun i hi => ?_⟩⟩
  · rw [programD, if_pos hB]; exact hb
  · have e1 := dump_i D 0 (by omega)
    have e2 := dump_i (programD (D.fuse 0 fb fm) 80 l) 0 (by omega)
    rw [hC3, sec_work _ _ _ _ _ _ hr 0 (by omega)] at e2
    exact e2.trans e1.symm
  · have e1 := dump_i D 2 (by omega)
    have e2 := dump_i (programD (D.fuse 0 fb fm) 80 l) 2 (by omega)
    rw [hC3, sec_work _ _ _ _ _ _ hr 2 (by omega)] at e2
    exact e2.trans e1.symm
  · have e1 := dump_i D 1 (by omega)
    have e2 := dump_i (programD (D.fuse 0 fb fm) 80 l) 1 (by omega)
    have e1' : dump D 1 = sec D.C 1 := e1
    have e2' : dump (programD (D.fuse 0 fb fm) 80 l) 1 = sec (programD (D.fuse 0 fb fm) 80 l).C 1 := e2
    rw [if_neg (by simp), e1', e2', hC3, sec_get _ _ _ hi, sec_get _ _ _ hi, work_getD _ _ _ _ _ _ _ (by rw [h.cel]; omega)]
    refine ⟨?_, fun ho => ?_⟩
    · split
      · exact Sub.and _ _
      · split
        · exact Sub.and _ _
        · exact Sub.refl _
    · rw [if_neg (by omega), if_neg (by omega)]
theorem dump_len64 (D : Dv) (h : D.Ok) (k : Nat) (hk : k < D.L.length) : (dump D (k : Int)).length = 64 := by
  rw [dump_i D k hk, sec, List.length_take, List.length_drop, h.cells]; omega
end Go.Proofs.Ytgdfcfbccjdecaa
