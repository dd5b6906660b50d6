/- Get of the program. -/
import Derived.Test.YtbcilifdgpfmnaaDoorHeadC
import Derived.Test.YtbcilifdgpfmnaaDoorResT
namespace Go.Proofs.YtbcilifdgpfmnaaDoor
open Go.RowKit HeadMath NumMath
set_option linter.unusedVariables false
set_option maxRecDepth 100000

theorem isH_take {L : List UInt8} (h : isH L = true) : hOk (rA L) (rB L) (rC L) (rN L) = true ∧ headB (rA L) (rB L) (rC L) (rN L) (rH L) = L.take 48 := by
  simpa [isH] using h
theorem isH_no {L : List UInt8} (h : isH L = false) (ho : hOk (rA L) (rB L) (rC L) (rN L) = true) : headB (rA L) (rB L) (rC L) (rN L) (rH L) ≠ L.take 48 := by
  simpa [isH, ho] using h
theorem text_empty : ByteArray.empty = str [] := rfl

/-- Of too few bytes. -/
theorem head_get_short (s : ByteArray) (w : World) (hs : s.size < 48) :
    Calls Tryd.prog 9 #[.string s] w fun e w' => e = .returned (.tuple #[.agg (hdv 0 0 0 0 (List.replicate 32 0)).toArray, .int .i64 13]) ∧ Below w.heap.size w w' := by
  have LY : Hid ((hdv 0 0 0 0 (List.replicate 32 0)).length = 36) := Lib.hid (hdv_length _ _ _ _ _ (by simp))
  have Y1 : Hid ((hdv 0 0 0 0 (List.replicate 32 0)).all (·.oneCell') = true) := Lib.hid (hdv_one _ _ _ _ _)
  have hsi : (s.size : Int) < 48 := by omega
  clear hs
  go_enter Tryd.func9, Tryd.ntmps9
  go_wp2_with (first
    | ((with_reducible refine wpAllocK (w := w) (hdv 0 0 0 0 (List.replicate 32 0)) 27 zero_head ?_ ?_); rfl; intro u1 r1 b1 s1; have R1 := Lib.hid r1; have B1 := Lib.hid b1; clear r1 b1 s1)
    | ((with_reducible refine R1.out.wpStoreK 27 (hdv 0 0 0 0 (List.replicate 32 0)) fits_head LY.out LY.out Y1.out ?_ ?_); rfl; intro u2 r2 o2 s2; have R2 := Lib.hid r2; have O2 := Lib.hid o2; clear r2 o2 s2))
  exact bodyPost_ret (R2.out.resultT rfl _ _ rfl Tryd.underlying27 rfl (by rw [LY.out]; exact fits_head.size)) rfl ⟨rfl, B1.out.trans (O2.out.below (Nat.le_refl _) B1.out.size)⟩

set_option maxHeartbeats 1000000 in
/-- Of bytes enough: F is what the program finds (ok: the head, else none). -/
theorem head_get_long (s : ByteArray) (L : List UInt8) (w : World) (hL : s.data.toList = L) (hs : s.size ≤ 140737488355328) (h48 : 48 ≤ s.size) :
    Calls Tryd.prog 9 #[.string s] w fun e w' => (isH L = true → e = .returned (.tuple #[.agg (hdv (rA L) (rB L) (rC L) (rN L) (rH L)).toArray, .int .i64 0])) ∧ (isH L = false → e = .returned (.tuple #[.agg (hdv 0 0 0 0 (List.replicate 32 0)).toArray, .int .i64 6])) ∧ Below w.heap.size w w' := by
  have lH : (rH L).length = 32 := rH_length L (by rw [← hL, size_list]; exact h48)
  have HRD : Hid (∀ u, Calls Tryd.prog 18 #[.string s] u fun e u' => e = .returned (.agg (hdv (rA L) (rB L) (rC L) (rN L) (rH L)).toArray) ∧ Below u.heap.size u u') := Lib.hid fun u => head_read_any s L _ _ _ _ _ u hL hs h48 rfl rfl rfl rfl rfl
  obtain ⟨T, E, hT⟩ : ∃ (T : ByteArray) (E : Int), (hOk (rA L) (rB L) (rC L) (rN L) = true ∧ T = str (headB (rA L) (rB L) (rC L) (rN L) (rH L)) ∧ E = 0) ∨ (hOk (rA L) (rB L) (rC L) (rN L) = false ∧ T = ByteArray.empty ∧ E = 1) := by
    cases h : hOk (rA L) (rB L) (rC L) (rN L) with
    | true => exact ⟨_, _, .inl ⟨rfl, rfl, rfl⟩⟩
    | false => exact ⟨_, _, .inr ⟨rfl, rfl, rfl⟩⟩
  have HPT : Hid (∀ u, Calls Tryd.prog 6 #[.agg (hdv (rA L) (rB L) (rC L) (rN L) (rH L)).toArray] u fun e u' => e = .returned (.tuple #[.string T, .int .i64 E]) ∧ Below u.heap.size u u') := Lib.hid fun u => head_put_any _ _ _ _ _ u lH T E hT
  obtain ⟨X, hX⟩ : ∃ X, s.extract 0 48 = X := ⟨_, rfl⟩
  have hXL : X.data.toList = L.take 48 := by rw [← hX, num_take_extract, hL]
  have LZ : Hid ((hdv 0 0 0 0 (List.replicate 32 0)).length = 36) := Lib.hid (hdv_length _ _ _ _ _ (by simp))
  have Z1 : Hid ((hdv 0 0 0 0 (List.replicate 32 0)).all (·.oneCell') = true) := Lib.hid (hdv_one _ _ _ _ _)
  have HYES : isH L = true → T = X := fun h => by
    obtain ⟨h1, h2⟩ := isH_take h
    rcases hT with ⟨_, rfl, _⟩ | ⟨h3, _⟩
    · rw [← str_of X, hXL, h2]
    · rw [h1] at h3; cases h3
  have HNO : isH L = false → T ≠ X := fun h hTX => by
    rcases hT with ⟨h1, rfl, _⟩ | ⟨_, rfl, _⟩
    · refine isH_no h h1 ?_
      rw [← hXL, ← hTX, str_list]
    · rw [← hTX] at hXL
      have h0 : L.length = s.size := by rw [← hL, size_list]
      have := congrArg List.length hXL
      rw [List.length_take, h0] at this
      have e : ByteArray.empty.data.toList.length = 0 := rfl
      omega
  obtain ⟨V, hV⟩ : ∃ V, hdv (rA L) (rB L) (rC L) (rN L) (rH L) = V := ⟨_, rfl⟩
  have LV : Hid (V.length = 36) := Lib.hid (by rw [← hV]; exact hdv_length _ _ _ _ _ lH)
  have V1 : Hid (V.all (·.oneCell') = true) := Lib.hid (by rw [← hV]; exact hdv_one _ _ _ _ _)
  rw [hV] at HRD HPT ⊢
  have h48i : (48 : Int) ≤ (s.size : Int) := by omega
  have hlt : decide ((s.size : Int) < 48) = false := by rw [decide_eq_false_iff_not]; omega
  obtain ⟨bb, hbb⟩ : ∃ bb, isH L = bb := ⟨_, rfl⟩
  rw [hbb]
  cases bb with
  | true =>
    have hEQ : (T.toList == X.toList) = true := beq_yes (HYES hbb)
    clear hL hs hT hXL HYES HNO hV lH hbb
    go_enter Tryd.func9, Tryd.ntmps9
    go_wp2_with (first
      | ((with_reducible refine wpAllocK (w := w) (hdv 0 0 0 0 (List.replicate 32 0)) 27 zero_head ?_ ?_); rfl; intro u1 r1 b1 s1; have R1 := Lib.hid r1; have B1 := Lib.hid b1; clear r1 b1 s1)
      | (go_at_call 18; (with_reducible refine (HRD.out u1).mono ?_); rintro e u2 ⟨rfl, b2⟩; have R2 := Lib.hid (R1.out.step b2); have B2 : Hid (Below w.heap.size w u2) := Lib.hid (B1.out.next b2); clear b2)
      | ((with_reducible refine wpAllocK (w := u2) (hdv 0 0 0 0 (List.replicate 32 0)) 27 zero_head ?_ ?_); rfl; intro u3 r3 b3 s3; have K3 := Lib.hid r3; have R3 := Lib.hid (R2.out.step b3); have B3 : Hid (Below w.heap.size w u3) := Lib.hid (B2.out.next b3); clear r3 b3 s3)
      | ((with_reducible refine K3.out.wpStoreK 27 V fits_head LZ.out LV.out V1.out ?_ ?_); rfl; intro u4 r4 o4 s4; have K4 := Lib.hid r4; have R4 := Lib.hid (R3.out.only o4 (by have := R2.out.lt; omega)); have B4 : Hid (Below w.heap.size w u4) := Lib.hid (B3.out.trans (o4.below B2.out.size B3.out.size)); clear r4 o4 s4)
      | ((with_reducible refine K4.out.wpLoadK 27 fits_head LV.out ?_ ?_); rfl)
      | (go_at_call 6; (with_reducible refine (HPT.out u4).mono ?_); rintro e u5 ⟨rfl, b5⟩; have K5 := Lib.hid (K4.out.step b5); have R5 := Lib.hid (R4.out.step b5); have B5 : Hid (Below w.heap.size w u5) := Lib.hid (B4.out.next b5); clear b5)
      | ((with_reducible refine K5.out.wpLoadK 27 fits_head LV.out ?_ ?_); rfl)
      | ((with_reducible refine R5.out.wpStoreK 27 V fits_head LZ.out LV.out V1.out ?_ ?_); rfl; intro u6 r6 o6 s6; have R6 := Lib.hid r6; have O6 := Lib.hid o6; clear r6 o6 s6))
    exact bodyPost_ret (R6.out.resultT rfl _ _ rfl Tryd.underlying27 rfl (by rw [LV.out]; exact fits_head.size)) rfl ⟨fun _ => rfl, fun h => (by simp at h), B5.out.trans (O6.out.below (Nat.le_refl _) B5.out.size)⟩
  | false =>
    have hEQ : (T.toList == X.toList) = false := beq_no (HNO hbb)
    clear hL hs hT hXL HYES HNO hV lH hbb
    go_enter Tryd.func9, Tryd.ntmps9
    go_wp2_with (first
      | ((with_reducible refine wpAllocK (w := w) (hdv 0 0 0 0 (List.replicate 32 0)) 27 zero_head ?_ ?_); rfl; intro u1 r1 b1 s1; have R1 := Lib.hid r1; have B1 := Lib.hid b1; clear r1 b1 s1)
      | (go_at_call 18; (with_reducible refine (HRD.out u1).mono ?_); rintro e u2 ⟨rfl, b2⟩; have R2 := Lib.hid (R1.out.step b2); have B2 : Hid (Below w.heap.size w u2) := Lib.hid (B1.out.next b2); clear b2)
      | ((with_reducible refine wpAllocK (w := u2) (hdv 0 0 0 0 (List.replicate 32 0)) 27 zero_head ?_ ?_); rfl; intro u3 r3 b3 s3; have K3 := Lib.hid r3; have R3 := Lib.hid (R2.out.step b3); have B3 : Hid (Below w.heap.size w u3) := Lib.hid (B2.out.next b3); clear r3 b3 s3)
      | ((with_reducible refine K3.out.wpStoreK 27 V fits_head LZ.out LV.out V1.out ?_ ?_); rfl; intro u4 r4 o4 s4; have K4 := Lib.hid r4; have R4 := Lib.hid (R3.out.only o4 (by have := R2.out.lt; omega)); have B4 : Hid (Below w.heap.size w u4) := Lib.hid (B3.out.trans (o4.below B2.out.size B3.out.size)); clear r4 o4 s4)
      | ((with_reducible refine K4.out.wpLoadK 27 fits_head LV.out ?_ ?_); rfl)
      | (go_at_call 6; (with_reducible refine (HPT.out u4).mono ?_); rintro e u5 ⟨rfl, b5⟩; have K5 := Lib.hid (K4.out.step b5); have R5 := Lib.hid (R4.out.step b5); have B5 : Hid (Below w.heap.size w u5) := Lib.hid (B4.out.next b5); clear b5)
      | ((with_reducible refine R5.out.wpStoreK 27 (hdv 0 0 0 0 (List.replicate 32 0)) fits_head LZ.out LZ.out Z1.out ?_ ?_); rfl; intro u6 r6 o6 s6; have R6 := Lib.hid r6; have O6 := Lib.hid o6; clear r6 o6 s6))
    exact bodyPost_ret (R6.out.resultT rfl _ _ rfl Tryd.underlying27 rfl (by rw [LZ.out]; exact fits_head.size)) rfl ⟨fun h => (by simp at h), fun _ => rfl, B5.out.trans (O6.out.below (Nat.le_refl _) B5.out.size)⟩

/-- Get, whatever the bytes: V, E as said. -/
def GetIs (L : List UInt8) (V : List Value) (E : Int) : Prop :=
  (L.length < 48 ∧ V = hdv 0 0 0 0 (List.replicate 32 0) ∧ E = 13) ∨ (48 ≤ L.length ∧ isH L = true ∧ V = hdv (rA L) (rB L) (rC L) (rN L) (rH L) ∧ E = 0) ∨ (48 ≤ L.length ∧ isH L = false ∧ V = hdv 0 0 0 0 (List.replicate 32 0) ∧ E = 6)
theorem GetIs.one (L : List UInt8) : ∃ V E, GetIs L V E := by
  by_cases h : L.length < 48
  · exact ⟨_, _, .inl ⟨h, rfl, rfl⟩⟩
  · cases hh : isH L with
    | true => exact ⟨_, _, .inr (.inl ⟨by omega, hh, rfl, rfl⟩)⟩
    | false => exact ⟨_, _, .inr (.inr ⟨by omega, hh, rfl, rfl⟩)⟩
theorem head_get_any (s : ByteArray) (L : List UInt8) (V : List Value) (E : Int) (w : World) (hL : s.data.toList = L) (hs : s.size ≤ 140737488355328) (h : GetIs L V E) :
    Calls Tryd.prog 9 #[.string s] w fun e w' => e = .returned (.tuple #[.agg V.toArray, .int .i64 E]) ∧ Below w.heap.size w w' := by
  have hz : L.length = s.size := by rw [← hL, size_list]
  rcases h with ⟨h1, rfl, rfl⟩ | ⟨h1, h2, rfl, rfl⟩ | ⟨h1, h2, rfl, rfl⟩
  · exact head_get_short s w (by omega)
  · exact (head_get_long s L w hL hs (by omega)).mono fun e w' h => ⟨h.1 h2, h.2.2⟩
  · exact (head_get_long s L w hL hs (by omega)).mono fun e w' h => ⟨h.2.1 h2, h.2.2⟩
end Go.Proofs.YtbcilifdgpfmnaaDoor
