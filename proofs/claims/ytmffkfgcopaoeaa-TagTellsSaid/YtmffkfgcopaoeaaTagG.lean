/- TagTells: its walk. -/
import Derived.Test.YtmffkfgcopaoeaaTagF
import Derived.Test.YtmffkfgcopaoeaaReads
namespace Go.Proofs.Ytmffkfgcopaoeaa
open Go.RowKit CrcMath
set_option linter.unusedVariables false
set_option maxRecDepth 100000

theorem tag_byte_of {n : Int} (h : (Lit.int .u8 n).wf = true) : ∃ b : UInt8, n = (b.toNat : Int) := by
  have h2 := h
  simp [Lit.wf, IntKind.min, IntKind.max, IntKind.bits, IntKind.signed] at h2
  refine ⟨UInt8.ofNat n.toNat, ?_⟩
  rw [UInt8.toNat_ofNat']
  omega

set_option maxHeartbeats 2000000 in
theorem tagTells_walk (H : List UInt8) (a x : UInt8) (w : World) (hH : H.length = 60) :
    Calls Try.prog 5 #[.agg (bytes H).toArray, .int .u8 (a.toNat : Int), .int .u8 (x.toNat : Int)] w fun e w' => e = .returned (.bool true) ∧ Below w.heap.size w w' := by
  obtain ⟨O, hO⟩ : ∃ O : List UInt8, O = List.replicate 60 0 := ⟨_, rfl⟩
  obtain ⟨j, hj⟩ : ∃ j, a.toNat % 64 = j := ⟨_, rfl⟩
  have hj64 : j < 64 := by omega
  have hsl : (sealB H).length = 64 := by rw [sealB_length, hH]
  obtain ⟨y, hy⟩ : ∃ y, (sealB H)[j]? = some y := ⟨(sealB H)[j]'(by omega), List.getElem?_eq_getElem (by omega)⟩
  obtain ⟨M, hM⟩ : ∃ M, (sealB H).set j (y ^^^ x) = M := ⟨_, rfl⟩
  obtain ⟨r, hr⟩ : ∃ r, r = rightT M := ⟨_, rfl⟩
  have hr2 : r = decide (x = 0) := by
    rw [hr, ← hM]
    by_cases h : x = 0
    · have e : (sealB H).set j (y ^^^ x) = sealB H := by
        rw [h, UInt8.xor_zero]
        apply List.ext_getElem?
        intro i
        rw [List.getElem?_set]
        split
        · rename_i e; subst e; rw [if_pos (by omega), hy]
        · rfl
      rw [e, right_seal H hH, decide_eq_true h]
    · rw [right_turned H hH j hj64 x y hy h, decide_eq_false h]
  have hx : ((x.toNat : Int) == 0) = r := by
    rw [hr2]
    by_cases h : x = 0
    · subst h; rfl
    · have h' : x.toNat ≠ 0 := fun e => h (UInt8.toNat_inj.1 (by simpa using e))
      have h2 : ¬ (x.toNat : Int) = 0 := by omega
      rw [decide_eq_false h]
      simpa using h2
  have hidx : (a.toNat : Int) % 64 = (j : Int) := by omega
  have hMl : M.length = 64 := by rw [← hM, List.length_set, hsl]
  have hxor : bits .xor .u8 (y.toNat : Int) (x.toNat : Int) = ((y ^^^ x).toNat : Int) := by
    have h1 := y.toNat_lt
    have h2 := x.toNat_lt
    rw [u8_xor_nat _ _ (by omega) (by omega), UInt8.toNat_xor]
  obtain ⟨z, hz⟩ : ∃ z, y ^^^ x = z := ⟨_, rfl⟩
  rw [hz] at hM hxor
  obtain ⟨S, hS⟩ : ∃ S, S = str (sealB H) := ⟨_, rfl⟩
  have hSz : S.size = 64 := by rw [hS, str_size, hsl]
  have HSL : Hid (S.data.toList = sealB H) := Lib.hid (by rw [hS, str_list])
  have LL : Hid ((bytes H).length = 60) := Lib.hid (by rw [bytes_length, hH])
  have HSEAL : Hid (∀ wx v, Smr v wx → Calls Try.prog 8 #[v, .agg (bytes H).toArray] wx fun e w' => e = .returned (.string S) ∧ Below wx.heap.size wx w') := Lib.hid fun wx v h => by rw [hS]; exact seal_val v H wx h hH
  have HOPEN : Hid (∀ wx v, Smr v wx → Calls Try.prog 9 #[v, .string (str M)] wx fun e w' => e = .returned (.tuple #[.agg (bytes (blk M)).toArray, .bool r]) ∧ Below wx.heap.size wx w') := Lib.hid fun wx v h => by
    have := open_val v (str M) wx h (by rw [str_size, hMl]; omega)
    rwa [str_list, ← hr] at this
  have HZ0 : Hid (∀ u, (zeroValue 23).run Try.prog u = .ok (.agg (bytes O).toArray) u) := Lib.hid (by rw [hO]; exact tag_zero)
  have LO : Hid ((bytes O).length = 60) := Lib.hid (by rw [hO, bytes_length, List.length_replicate])
  have LM : Hid ((bytes (blk M)).length = 60) := Lib.hid (by rw [bytes_length, blk_length])
  have LM1 : Hid ((bytes (blk M)).all (·.oneCell') = true) := Lib.hid (bytes_oneC _)
  have HY : Hid ((sealB H)[j]? = some y) := Lib.hid hy
  have HMS : Hid ((sealB H).set j z = M) := Lib.hid hM
  have HML : Hid (M.length = 64) := Lib.hid hMl
  have HSZL : Hid (j < (sealB H).length) := Lib.hid (by rw [hsl]; exact hj64)
  have HAW : Hid (∀ wx, Calls Try.prog 6 #[] wx fun e w' => e = .returned (.bool true) ∧ Below wx.heap.size wx w') := Lib.hid tag_awake
  have HNEW : Hid (∀ wx, Calls Try.prog 7 #[] wx fun e w' => ∃ b, e = .returned (.pointer (some ⟨b, 0, none⟩)) ∧ b < w'.heap.size ∧ Tab w' b 0 ∧ Below wx.heap.size wx w') := Lib.hid fun wx => crc_new_any wx
  have hj1 : (j : Int) < 64 := by omega
  have ha256 : (a.toNat : Int) < 256 := by have := a.toNat_lt; omega
  clear hO hj hsl hy hM hr hr2 hMl hz hS hH
  generalize bytes H = L at LL HSEAL ⊢
  generalize bytes (blk M) = BM at LM LM1 HOPEN
  generalize bytes O = OO at LO HZ0
  go_enter Try.func5, Try.ntmps5
  go_wp2_with (first
    | ((with_reducible refine wpBoxK (w := w) L 23 ?_ ?_); rfl; intro u1 r1 b1 s1; have R1 := Lib.hid r1; have B1 := Lib.hid b1; clear r1 b1 s1)
    | (go_at_call 6; (with_reducible refine (HAW.out u1).mono ?_); rintro e u2 ⟨rfl, b2⟩; have R2 := Lib.hid (R1.out.step b2); have B2 : Hid (Below w.heap.size w u2) := Lib.hid (B1.out.next b2); clear b2)
    | (go_at_call 7; (with_reducible refine (HNEW.out u2).mono ?_); rintro e u3 ⟨b, rfl, hb, ht, b3⟩; have R3 := Lib.hid (R2.out.step b3); have B3 : Hid (Below w.heap.size w u3) := Lib.hid (B2.out.next b3); have T3 := Lib.hid ht; have Z3 := Lib.hid hb; have S3 : Hid (Smr (.pointer (some ⟨b, 0, none⟩)) u3) := Lib.hid ⟨b, rfl, hb, ht⟩; clear b3 ht hb)
    | ((with_reducible refine R3.out.wpLoadK 23 fits_block LL.out ?_ ?_); rfl)
    | (go_at_call 8; (with_reducible refine (HSEAL.out u3 _ S3.out).mono ?_); rintro e u4 ⟨rfl, b4⟩; obtain ⟨u5, cap, hconv, hrow, hb5⟩ := conv_new S u4; obtain ⟨g, hg⟩ : ∃ g, g = u4.heap.size := ⟨_, rfl⟩; rw [← hg] at hconv hrow; rw [HSL.out] at hrow; have B5 : Hid (Below w.heap.size w u5) := Lib.hid ((B3.out.next b4).next hb5); have G5 : Hid (w.heap.size ≤ g ∧ b < g) := Lib.hid (by rw [hg]; exact ⟨(B3.out.next b4).size, Nat.lt_of_lt_of_le Z3.out b4.size⟩); have TB5 : Hid (Tab u5 b 0) := Lib.hid ((T3.out.below b4 Z3.out).below hb5 (Nat.lt_of_lt_of_le Z3.out b4.size)); have hcl : u5.cell? ⟨g, j, none⟩ = some (.int .u8 (y.toNat : Int)) := (by have := hrow.cell j HSZL.out; rw [this]; have h2 := HY.out; rw [List.getElem?_eq_getElem HSZL.out] at h2; rw [Option.some.inj h2]); have hfz := hrow.frozen j HSZL.out; have hset := hrow.set j z HSZL.out; rw [HMS.out] at hset; have hcv := hset.conv (cap := cap) HML.out; have LT5 : Hid (b < (u5.setCell ⟨g, j, none⟩ (.int .u8 (z.toNat : Int))).heap.size) := Lib.hid (by have := hset.lt; have := G5.out.2; omega); have T6 : Hid (Smr (.pointer (some ⟨b, 0, none⟩)) (u5.setCell ⟨g, j, none⟩ (.int .u8 (z.toNat : Int)))) := Lib.hid ⟨b, rfl, LT5.out, TB5.out.below ((Below.refl g u5).setCell (p := ⟨g, j, none⟩) (Nat.le_refl _) _) G5.out.2⟩; have B6 : Hid (Below w.heap.size w (u5.setCell ⟨g, j, none⟩ (.int .u8 (z.toNat : Int)))) := Lib.hid (B5.out.setCell (p := ⟨g, j, none⟩) G5.out.1 _); clear hg b4 hb5 hrow hset)
    | (go_at_call 9; (with_reducible refine (HOPEN.out _ _ T6.out).mono ?_); rintro e u7 ⟨rfl, b7⟩; have B7 : Hid (Below w.heap.size w u7) := Lib.hid (B6.out.next b7); clear b7 hcv)
    | ((with_reducible refine wpAllocK (w := u7) OO 23 HZ0.out ?_ ?_); rfl; intro u8 r8 b8 s8; have R8 := Lib.hid r8; have B8 : Hid (Below w.heap.size w u8) := Lib.hid (B7.out.next b8); clear r8 b8 s8)
    | ((with_reducible refine R8.out.wpStoreK 23 BM fits_block LO.out LM.out LM1.out ?_ ?_); rfl; intro u9 r9 o9 s9; have B9 : Hid (Below w.heap.size w u9) := Lib.hid (B8.out.trans (o9.below B7.out.size B8.out.size)); clear r9 o9 s9))
  go_ret
  exact ⟨ret_bool (by simp), B9.out⟩
end Go.Proofs.Ytmffkfgcopaoeaa
