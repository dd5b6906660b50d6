/- StripeNone's walk. -/
import Derived.Test.YtpoipbngefcdnaaGreatStrI
namespace Go.Proofs.YtpoipbngefcdnaaGreat
open Go.RowKit CrcMath GfMath PolyMath RsMath SolMath GeoMath
set_option linter.unusedVariables false
set_option maxRecDepth 100000

set_option maxHeartbeats 1000000 in
theorem stripeNone_walk (H : List UInt8) (s : ByteArray) (w : World) (hH : H.length = 60) (hs : s.size ≤ 140737488351232) :
    Calls Tryz.prog 6 #[.agg (bytes H).toArray, .string s] w fun e w' => e = .returned (.bool true) ∧ Below w.heap.size w w' := by
  have HAW : Hid (∀ u, Calls Tryz.prog 9 #[] u fun e w' => e = .returned (.bool true) ∧ Below u.heap.size u w') := Lib.hid str_awake
  have LB2 : Hid ((bytes H).length = 60) := Lib.hid (by rw [bytes_length]; exact hH)
  obtain ⟨M, hM⟩ : ∃ M, bytes H = M := ⟨_, rfl⟩
  rw [hM] at LB2 ⊢
  clear hM hH
  have HIB := Lib.hid info_block3
  have HP0 : Hid (0 < 60) := Lib.hid (by omega)
  have HVS : Hid (∀ l ∈ [M], l.length = 60) := Lib.hid fun l hl => by
    rcases List.mem_cons.1 hl with rfl | hl
    · exact LB2.out
    · cases hl
  have HVL : Hid (0 < [M].length) := Lib.hid (by show 0 < 1; omega)
  have HVM : Hid ([M].length * 60 ≤ 2 ^ 24) := Lib.hid (by show 1 * 60 ≤ 2 ^ 24; omega)
  by_cases hbig : 1000 < s.size
  · have hb2 : 1000 < (s.size : Int) := by omega
    clear hbig hs
    go_enter Tryz.func6, Tryz.ntmps6
    go_wp2_with (first
      | ((with_reducible refine wpBoxK (w := w) M 40 ?_ ?_); rfl; intro u1 r1 b1 s1; have B1 := Lib.hid b1; clear r1 b1 s1)
      | (go_at_call 9; (with_reducible refine (HAW.out u1).mono ?_); rintro e u2 ⟨rfl, b2⟩; have B2 := Lib.hid (B1.out.next b2); clear b2))
    go_ret
    exact ⟨rfl, B2.out⟩
  have hb2 : (s.size : Int) ≤ 1000 := by omega
  have HEN := Lib.hid str_encode_nil
  have HRD := Lib.hid str_read_nil
  have HGE : Hid (∀ u, Calls Tryz.prog 12 #[.pointer none] u fun e w' => e = .returned (.agg #[.int .i64 0, .int .i64 0, .int .i64 0]) ∧ Below u.heap.size u w') := Lib.hid fun u => str_geo_nil u
  have HSU := Lib.hid str_sums_nil
  have HFZ := Lib.hid found_zero
  clear hbig hs
  go_enter Tryz.func6, Tryz.ntmps6
  go_wp2_with (first
    | ((with_reducible refine wpBoxK (w := w) M 40 ?_ ?_); rfl; intro u1 r1 b1 s1; have R1 := Lib.hid r1; have B1 := Lib.hid b1; clear r1 b1 s1)
    | (go_at_call 9; (with_reducible refine (HAW.out u1).mono ?_); rintro e u2 ⟨rfl, b2⟩; have R2 := Lib.hid (R1.out.step b2); have B2 := Lib.hid (B1.out.next b2); clear b2)
    | ((with_reducible refine R2.out.wpLoadK 40 fits_block LB2.out ?_ ?_); rfl)
    | ((with_reducible refine wpBuildBK (w := u2) [M] 60 24 40 Tryz.underlying24 HIB.out HP0.out HVS.out HVL.out HVM.out ?_ ?_); rfl; intro u3 r3 b3 s3; have B3 := Lib.hid (B2.out.next b3); clear r3 b3 s3)
    | (go_at_call 14; (with_reducible refine (HEN.out _ u3).mono ?_); rintro e u4 ⟨rfl, b4⟩; have B4 := Lib.hid (B3.out.next b4); clear b4)
    | (go_at_call 19; (with_reducible refine (HRD.out _ _).mono ?_); rintro e u5 ⟨rfl, b5⟩; have B5 : Hid (Below w.heap.size w u5) := Lib.hid (B4.out.next ((alloc_below u4 _).next b5)); clear b5)
    | ((with_reducible refine wpAllocK (w := u5) nilFound 50 HFZ.out ?_ ?_); rfl; intro u6 r6 b6 s6; have F6 := Lib.hid r6; have W6 := Lib.hid b6; clear r6 b6 s6)
    | ((with_reducible refine F6.out.wpStoreK 50 nilFound found_fits rfl rfl rfl ?_ ?_); rfl; intro u7 r7 o7 s7; have F7 := Lib.hid r7; have W7 : Hid (Below u5.heap.size u5 u7) := Lib.hid (W6.out.trans (o7.below (Nat.le_refl _) W6.out.size)); have B7 := Lib.hid (B5.out.next W7.out); have k0 : u7.cell? ⟨u5.heap.size, 0, none⟩ = some (.slice none 0 0) := r7.cell 0; have k1 : u7.cell? ⟨u5.heap.size, 1, none⟩ = some (.slice none 0 0) := r7.cell 1; clear r7 o7 s7)
    | (go_at_call 12; (with_reducible refine (HGE.out u7).mono ?_); rintro e u8 ⟨rfl, b8⟩; have B8 := Lib.hid (B7.out.next b8); clear b8)
    | (go_at_call 13; (with_reducible refine (HSU.out u8).mono ?_); rintro e u9 ⟨rfl, b9⟩; have B9 := Lib.hid (B8.out.next b9); clear b9))
  go_ret
  exact ⟨rfl, B9.out⟩
end Go.Proofs.YtpoipbngefcdnaaGreat
