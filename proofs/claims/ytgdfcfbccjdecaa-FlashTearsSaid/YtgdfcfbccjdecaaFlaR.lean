/- What calls leave of a device: FlashKeeps' mathematics. -/
import Derived.Test.YtgdfcfbccjdecaaFlaQ
namespace Go.Proofs.Ytgdfcfbccjdecaa
open Go.RowKit FlaMath
set_option linter.unusedVariables false
set_option maxRecDepth 100000

theorem FlaMath_dump_eq (D : Dv) (a : Nat) (h : a < D.L.length) : dump D (a : Int) = sec D.C a := by
  rw [dump, if_pos (by omega), Int.toNat_natCast]
theorem sec_same {C C' : List UInt8} (h : C'.length = C.length) (i : Nat) (he : ∀ j (hj : j < C.length), i * 64 ≤ j → j < i * 64 + 64 → C'[j]'(by rw [h]; exact hj) = C[j]) : sec C' i = sec C i := by
  apply List.ext_getElem (by simp [sec, h])
  intro j h1 h2
  simp [sec] at h1 h2 ⊢
  exact he (i * 64 + j) (by omega) (by omega) (by omega)
theorem work_out (C : List UInt8) (o n r : Nat) (f g : Nat → UInt8 → UInt8) (hr : r ≤ n) (j : Nat) (hj : j < C.length) (ho : ¬ (o ≤ j ∧ j < o + n)) : (FlaMath.work C o n r f g)[j]'(by rw [work_length]; exact hj) = C[j] := by
  rw [work_get _ _ _ _ _ _ _ hj, if_neg (by omega), if_neg (by omega)]
theorem sec_work (C : List UInt8) (o n r : Nat) (f g : Nat → UInt8 → UInt8) (hr : r ≤ n) (i : Nat) (h : o + n ≤ i * 64 ∨ i * 64 + 64 ≤ o) : sec (FlaMath.work C o n r f g) i = sec C i :=
  sec_same (work_length _ _ _ _ _ _) i fun j hj h1 h2 => work_out C o n r f g hr j hj (by omega)
theorem done_le (b : Bool) (fb : Int) (n : Nat) : (if b then reach fb n else n) ≤ n := by
  split
  · exact reach_le _ _
  · exact Nat.le_refl _
theorem workD_C (D : Dv) (o n : Nat) (f g : Nat → UInt8 → UInt8) : ∃ r, r ≤ n ∧ (workD D o n f g).C = FlaMath.work D.C o n r f g := ⟨_, done_le _ _ _, rfl⟩
theorem workD_L (D : Dv) (o n : Nat) (f g : Nat → UInt8 → UInt8) : (workD D o n f g).L = D.L := burned_L D
theorem workD_E (D : Dv) (o n : Nat) (f g : Nat → UInt8 → UInt8) : (workD D o n f g).E = D.E := burned_E D
theorem eraseD_L (D : Dv) (i : Int) : (eraseD D i).L = D.L := by
  unfold eraseD
  split
  · rw [workD_L]; rfl
  · rfl
theorem programD_L (D : Dv) (x : Int) (l : List UInt8) : (programD D x l).L = D.L := by
  unfold programD
  split
  · rw [workD_L]
  · rfl
theorem programD_E (D : Dv) (x : Int) (l : List UInt8) : (programD D x l).E = D.E := by
  unfold programD
  split
  · rw [workD_E]
  · rfl
theorem readD_C (D : Dv) (x y op : Int) : (D.readD x y op).C = D.C ∧ (D.readD x y op).L = D.L ∧ (D.readD x y op).E = D.E := by
  unfold Dv.readD
  split <;> exact ⟨rfl, rfl, rfl⟩

/-- What FlashKeeps holds through its rounds. -/
structure Kept (n a : Nat) (W : List UInt8) (D : Dv) : Prop where
  len : D.L.length = n
  lk : D.L.getD a false = true
  sec : sec D.C a = W
theorem Kept.same {n a : Nat} {W : List UInt8} {D D' : Dv} (h : Kept n a W D) (hC : D'.C = D.C) (hL : D'.L = D.L) : Kept n a W D' := ⟨by rw [hL]; exact h.len, by rw [hL]; exact h.lk, by rw [hC]; exact h.sec⟩
theorem Kept.erase {n a : Nat} {W : List UInt8} {D : Dv} (h : Kept n a W D) (i : Int) : Kept n a W (eraseD D i) := by
  refine ⟨by rw [eraseD_L]; exact h.len, by rw [eraseD_L]; exact h.lk, ?_⟩
  cases hB : eraseB D i with
  | false => rw [eraseD, hB]; exact h.sec
  | true =>
    rw [eraseD, if_pos hB]
    obtain ⟨r, hr, hC⟩ := workD_C (worn D i.toNat) (i.toNat * 64) 64 fE (gE D.fm)
    rw [hC, sec_work _ _ _ _ _ _ hr]
    · exact h.sec
    · have hne : i.toNat ≠ a := by
        intro e
        simp only [eraseB, Bool.and_eq_true, Bool.not_eq_true'] at hB
        rw [e, h.lk] at hB
        exact absurd hB.2 (by simp)
      omega
theorem Kept.program {n a : Nat} {W : List UInt8} {D : Dv} (h : Kept n a W D) (x : Int) (l : List UInt8) : Kept n a W (programD D x l) := by
  refine ⟨by rw [programD_L]; exact h.len, by rw [programD_L]; exact h.lk, ?_⟩
  cases hB : programB D x l with
  | false => rw [programD, hB]; exact h.sec
  | true =>
    rw [programD, if_pos hB]
    obtain ⟨r, hr, hC⟩ := workD_C D x.toNat 16 (fP l) (gP l D.fm)
    rw [hC, sec_work _ _ _ _ _ _ hr]
    · exact h.sec
    · simp only [programB, Bool.and_eq_true, Bool.not_eq_true', decide_eq_false_iff_not, bey] at hB
      obtain ⟨⟨⟨_, h1⟩, h2⟩, h3⟩ := hB
      have hne : x.toNat / 64 ≠ a := by
        intro e
        rw [e, h.lk] at h3
        exact absurd h3 (by simp)
      have hm : x.tmod 16 = 0 := by omega
      have hx : 0 ≤ x := by omega
      rw [Int.tmod_eq_emod_of_nonneg hx] at hm
      omega
/-- The first k sectors' bytes. -/
def catd (D : Dv) (k : Nat) : List UInt8 := (List.range k).flatMap fun (i : Nat) => dump D (i : Int)
theorem catd_succ (D : Dv) (k : Nat) : catd D (k + 1) = catd D k ++ dump D k := by simp [catd, List.range_succ]
theorem dump_len (D : Dv) (i : Int) : (dump D i).length ≤ 64 := by
  unfold dump sec
  split
  · rw [List.length_take]; omega
  · exact Nat.zero_le _
theorem catd_len (D : Dv) (k : Nat) : (catd D k).length ≤ 64 * k := by
  induction k with
  | zero => simp [catd]
  | succ k ih =>
    rw [catd_succ, List.length_append]
    have := dump_len D k
    omega
theorem catd_same {D D' : Dv} (hC : D'.C = D.C) (hL : D'.L = D.L) (k : Nat) : catd D' k = catd D k := by
  unfold catd dump
  rw [hC, hL]
theorem Kept.dump {n a : Nat} {W : List UInt8} {D : Dv} (h : Kept n a W D) (ha : a < n) : dump D a = W := by
  rw [FlaMath_dump_eq D a (by rw [h.len]; exact ha)]
  exact h.sec
/-- The device as the rounds begin. -/
theorem kept0 (n a : Nat) (l : List UInt8) (ha : a < n) (hn : n ≤ 12) : Kept n a (dump (programD (D0 n) ((a * 64 : Nat) : Int) l) a) ((programD (D0 n) ((a * 64 : Nat) : Int) l).lock a ((a + 1 : Nat) : Int)) ∧
    lockE (programD (D0 n) ((a * 64 : Nat) : Int) l).L.length a ((a + 1 : Nat) : Int) = 0 := by
  have hL : (programD (D0 n) ((a * 64 : Nat) : Int) l).L = List.replicate n false := programD_L _ _ _
  have hlen : (programD (D0 n) ((a * 64 : Nat) : Int) l).L.length = n := by rw [hL, List.length_replicate]
  have hb : ¬ ((a : Int) < 0 ∨ ((a + 1 : Nat) : Int) < a ∨ (n : Int) < ((a + 1 : Nat) : Int)) := by omega
  refine ⟨?_, by rw [lockE, hlen, if_neg hb]⟩
  rw [Dv.lock, hlen, if_neg hb, Int.toNat_natCast, Int.toNat_natCast]
  refine ⟨by show (lockF _ _ _).length = n; rw [lockF_length, hlen], ?_, ?_⟩
  · show (lockF _ _ _).getD a false = true
    rw [hL, lockF, List.getD_eq_getElem?_getD, List.getElem?_mapIdx, List.getElem?_eq_getElem (by rw [List.length_replicate]; exact ha)]
    simp
  · show sec _ a = _
    rw [FlaMath_dump_eq _ a (by rw [hlen]; exact ha)]
end Go.Proofs.Ytgdfcfbccjdecaa
