/- The statement CrcTurns: its walk. -/
import Derived.Test.YtkfjniaipnljmaaCrcT
import Derived.Deep.QuietTactic
import Derived.Deep.RegionWith
import Derived.StillTailTactics
import Derived.BigRegion
import Derived.Test.YtkfjniaipnljmaaInv
namespace Go.Proofs.Ytkfjniaipnljmaa
open Go.RowKit CrcMath

/-- The bytes a, of which the first k are turned by b and c. -/
def tri (a b c : List UInt8) (k : Nat) : List UInt8 := xors (a.take k) (xors (b.take k) (c.take k)) ++ a.drop k

theorem tri_end (a b c : List UInt8) (hb : b.length = a.length) (hc : c.length = a.length) : tri a b c a.length = xors a (xors b c) := by
  rw [tri, List.take_of_length_le (by omega), List.take_of_length_le (by omega), List.take_of_length_le (by omega), List.drop_of_length_le (by omega), List.append_nil]
theorem tri_length (a b c : List UInt8) (k : Nat) (hb : b.length = a.length) (hc : c.length = a.length) : (tri a b c k).length = a.length := by
  simp [tri, xors, hb, hc]; omega
theorem tri_get (a b c : List UInt8) (k : Nat) (hb : b.length = a.length) (hc : c.length = a.length) (hk : k < a.length) : (tri a b c k)[k]? = some a[k] := by
  have h1 : (xors (a.take k) (xors (b.take k) (c.take k))).length = k := by simp [xors, hb, hc]; omega
  rw [tri, List.getElem?_append_right (by omega), h1, Nat.sub_self, List.getElem?_drop, Nat.add_zero, List.getElem?_eq_getElem hk]
theorem tri_succ (a b c : List UInt8) (k : Nat) (hb : b.length = a.length) (hc : c.length = a.length) (hk : k < a.length) :
    tri a b c (k + 1) = (tri a b c k).set k (a[k] ^^^ (b[k]'(by omega) ^^^ c[k]'(by omega))) := by
  have h1 : (xors (a.take k) (xors (b.take k) (c.take k))).length = k := by simp [xors, hb, hc]; omega
  have h2 : a.drop k = a[k] :: a.drop (k + 1) := by rw [List.drop_eq_getElem_cons hk]
  have hkb : k < b.length := by omega
  have hkc : k < c.length := by omega
  have e1 : a.take (k + 1) = a.take k ++ [a[k]] := take_snoc a k hk
  have e2 : b.take (k + 1) = b.take k ++ [b[k]] := take_snoc b k hkb
  have e3 : c.take (k + 1) = c.take k ++ [c[k]] := take_snoc c k hkc
  rw [tri, tri, e1, e2, e3, xors_append _ _ _ _ (by simp; omega), xors_append _ _ _ _ (by simp [xors, hb, hc]), List.set_append_right _ _ (by omega), h1, Nat.sub_self]
  rw [List.append_assoc]
  congr 1
  rw [h2]
  rfl

theorem sum_xor (a b c d : List UInt8) (h : crc a ^^^ crc b ^^^ crc c ^^^ crc d = 0) :
    bits .xor .i64 (bits .xor .i64 (bits .xor .i64 (sumI a) (sumI b)) (sumI c)) (sumI d) = 0 := by
  have ha := (crc a).isLt
  have hb := (crc b).isLt
  have hc := (crc c).isLt
  have hd := (crc d).isLt
  have n1 : (crc a).toNat ^^^ (crc b).toNat < 2 ^ 32 := Nat.xor_lt_two_pow (by omega) (by omega)
  have n2 : (crc a).toNat ^^^ (crc b).toNat ^^^ (crc c).toNat < 2 ^ 32 := Nat.xor_lt_two_pow n1 (by omega)
  unfold sumI
  rw [xor_i64 _ _ (by omega) (by omega), xor_i64 _ _ (by omega) (by omega), xor_i64 _ _ (by omega) (by omega)]
  have := congrArg BitVec.toNat h
  rw [BitVec.toNat_xor, BitVec.toNat_xor, BitVec.toNat_xor] at this
  rw [this]
  rfl

set_option maxRecDepth 100000 in
set_option maxHeartbeats 1000000 in
theorem crcTurns_walk (a b c : ByteArray) (w : World) (ha : a.size ≤ 140737488351232) (hb : b.size ≤ 140737488351232) (hc : c.size ≤ 140737488351232) :
    Calls Try.prog 6 #[.string a, .string b, .string c] w fun e w' => e = .returned (.bool true) ∧ Below w.heap.size w w' := by
  by_cases hL : 1000 < a.size
  · have hd1 : decide (1000 < (a.size : Int)) = true := by simp; omega
    go_enter Try.func6, Try.ntmps6
    go_wp2_with (go_at_call 7; refine (awake_any _).mono ?_; rintro e w1 ⟨rfl, hb1⟩)
    go_ret
    exact ⟨rfl, hb1⟩
  have hd1 : decide (1000 < (a.size : Int)) = false := by simp; omega
  by_cases hlb : ¬ b.size = a.size
  · have hd2 : ((b.size : Int) != (a.size : Int)) = true := by rw [bne_iff_ne]; omega
    have HLB := Lib.hid hlb
    clear hlb
    go_enter Try.func6, Try.ntmps6
    go_wp2_with (go_at_call 7; refine (awake_any _).mono ?_; rintro e w1 ⟨rfl, hb1⟩)
    go_ret
    exact ⟨rfl, hb1⟩
  have hlb' : b.size = a.size := by omega
  clear hlb
  have hlb := hlb'
  clear hlb'
  have hd2 : ((b.size : Int) != (a.size : Int)) = false := by rw [bne_eq_false_iff_eq]; omega
  by_cases hlc : ¬ c.size = a.size
  · have hd3 : ((c.size : Int) != (a.size : Int)) = true := by rw [bne_iff_ne]; omega
    have HLB := Lib.hid hlb
    have HLC := Lib.hid hlc
    clear hlb hlc
    go_enter Try.func6, Try.ntmps6
    go_wp2_with (go_at_call 7; refine (awake_any _).mono ?_; rintro e w1 ⟨rfl, hb1⟩)
    go_ret
    exact ⟨rfl, hb1⟩
  have hlc' : c.size = a.size := by omega
  clear hlc
  have hlc := hlc'
  clear hlc'
  have hd3 : ((c.size : Int) != (a.size : Int)) = false := by rw [bne_eq_false_iff_eq]; omega
  have HLB := Lib.hid hlb
  have HLC := Lib.hid hlc
  have hbz : b.size ≤ a.size := by omega
  have hbz2 : a.size ≤ b.size := by omega
  have hcz : c.size ≤ a.size := by omega
  have hcz2 : a.size ≤ c.size := by omega
  have LB : Hid (b.data.toList.length = a.data.toList.length) := Lib.hid (by rw [size_list, size_list, hlb])
  have LC : Hid (c.data.toList.length = a.data.toList.length) := Lib.hid (by rw [size_list, size_list, hlc])
  have LA : Hid (a.data.toList.length = a.size) := Lib.hid (size_list a)
  clear hlb hlc
  go_enter Try.func6, Try.ntmps6
  go_wp2_with (go_at_call 7; refine (awake_any _).mono ?_; rintro e w1 ⟨rfl, hb1⟩; obtain ⟨w7, cap, hconv, hrow, hb17⟩ := conv_new a w1; obtain ⟨g, hg⟩ : ∃ g, g = w1.heap.size := ⟨_, rfl⟩; rw [← hg] at hconv hrow; have HG := Lib.hid hg; clear hg)
  have HBW : Hid (Below w.heap.size w w7) := Lib.hid (hb1.next hb17)
  have HGW : Hid (w.heap.size ≤ g) := Lib.hid (by rw [HG.out]; exact hb1.size)
  have HROW := Lib.hid hrow
  clear hb1 hb17 hrow
  go_loopw [33] (fun i wr => ∃ k : Nat, k ≤ a.size ∧ i = .int .i64 k ∧ Bytes wr g (tri a.data.toList b.data.toList c.data.toList k) ∧ Below w.heap.size w wr) (fun i _ => a.size - (intOf i).toNat)
  case atStart => exact ⟨0, by omega, rfl, by simpa [tri, xors] using HROW.out, HBW.out⟩
  case round =>
    obtain ⟨k, hk, rfl, hrow, hbw⟩ := hrel
    by_cases hlt : k < a.size
    · have hka : k < a.data.toList.length := by rw [size_list]; exact hlt
      have hlen := tri_length _ _ _ k LB.out LC.out
      have hkl : k < (tri a.data.toList b.data.toList c.data.toList k).length := by omega
      have hcl := hrow.cell k hkl
      have hfz := hrow.frozen k hkl
      have hget : (tri a.data.toList b.data.toList c.data.toList k)[k] = a.data.toList[k] := by
        have h1 := tri_get _ _ _ k LB.out LC.out hka
        rw [List.getElem?_eq_getElem hkl] at h1
        exact Option.some.inj h1
      have hkb : k < b.size := by omega
      have hkc : k < c.size := by omega
      have hset := hrow.set k (a[k] ^^^ (b[k] ^^^ c[k])) hkl
      have hnx : (tri a.data.toList b.data.toList c.data.toList k).set k (a[k] ^^^ (b[k] ^^^ c[k])) = tri a.data.toList b.data.toList c.data.toList (k + 1) := (tri_succ _ _ _ k LB.out LC.out hka).symm
      rw [hnx] at hset
      rw [hget] at hcl
      have hcl2 : wr.cell? ⟨g, k, none⟩ = some (.int .u8 (a[k].toNat : Int)) := hcl
      obtain ⟨x, hx⟩ : ∃ x, a[k] = x := ⟨_, rfl⟩
      obtain ⟨y, hy⟩ : ∃ y, b[k] = y := ⟨_, rfl⟩
      obtain ⟨z, hz⟩ : ∃ z, c[k] = z := ⟨_, rfl⟩
      have hxor : bits .xor .u8 (a[k].toNat : Int) (bits .xor .u8 (b[k].toNat : Int) (c[k].toNat : Int)) = ((a[k] ^^^ (b[k] ^^^ c[k])).toNat : Int) := by
        have h1 := a[k].toNat_lt
        have h2 := b[k].toNat_lt
        have h3 := c[k].toNat_lt
        have h4 : b[k].toNat ^^^ c[k].toNat < 2 ^ 8 := Nat.xor_lt_two_pow (by omega) (by omega)
        rw [u8_xor_nat _ _ (by omega) (by omega), u8_xor_nat _ _ (by omega) (by omega), UInt8.toNat_xor, UInt8.toNat_xor]
      have HSET := Lib.hid hset
      have HB2 : Hid (Below w.heap.size w (wr.setCell ⟨g, k, none⟩ (.int .u8 ((a[k] ^^^ (b[k] ^^^ c[k])).toNat : Int)))) := Lib.hid (hbw.setCell (p := ⟨g, k, none⟩) HGW.out _)
      clear hx hy hz hset hnx hcl hget hlen hrow hbw hkl
      have hk1 : (k : Int) < (a.size : Int) := by omega
      have hk2 : (k : Int) < (b.size : Int) := by omega
      have hk3 : (k : Int) < (c.size : Int) := by omega
      have hk0 : 0 ≤ (k : Int) := by omega
      go_wp2
      go_still_tail 13, (by kernel_rfl)
      change wpList _ _ _ _ _ wr.drew
      go_wp2
      go_roundw
      case rel => exact ⟨k + 1, by omega, by go_num, HSET.out.drew, HB2.out.drew⟩
      case measure => simp [intOf]; omega
    · have ek : k = a.size := by omega
      subst ek
      obtain ⟨D, hD⟩ : ∃ D, D = tri a.data.toList b.data.toList c.data.toList a.size := ⟨_, rfl⟩
      rw [← hD] at hrow
      have hDl : D.length = a.size := by rw [hD, tri_length _ _ _ _ LB.out LC.out, size_list]
      have HEND : Hid (bits .xor .i64 (bits .xor .i64 (bits .xor .i64 (sumI (cat [a])) (sumI (cat [b]))) (sumI (cat [c]))) (sumI (cat [str D])) = 0) := Lib.hid (by
        rw [cat_one, cat_one, cat_one, cat_one, str_list, hD]
        have h1 := tri_end _ _ _ LB.out LC.out
        rw [size_list] at h1
        rw [h1]
        exact sum_xor _ _ _ _ (turns _ _ _ LB.out LC.out))
      have HDL := Lib.hid hDl
      have HDD := Lib.hid hD
      clear hD hDl
      go_wp2_with (go_at_call 9; refine (new_any _).mono ?_; rintro e w8 ⟨b8, rfl, hb8, ht8, hbn⟩; have HT8 := Lib.hid ht8; clear ht8)
      have hrow8 := hrow.step hbn
      have HBW8 : Hid (Below w.heap.size w w8) := Lib.hid (hbw.next hbn)
      clear hrow hbw hbn
      have hsz : ∀ x : ByteArray, x.size ≤ 140737488351232 → ∀ s ∈ [x], s.size ≤ maxLen := fun x hx s hs => by rw [List.mem_singleton] at hs; rw [hs]; unfold maxLen; omega
      have HSA := Lib.hid (hsz a ha)
      have HSB := Lib.hid (hsz b hb)
      have HSC := Lib.hid (hsz c hc)
      have HSD := Lib.hid (hsz (str D) (by rw [str_size, HDL.out]; exact ha))
      have HROW8 := Lib.hid hrow8
      clear hsz hrow8
      refine region_inv [(0, 51), (1, 52), (2, 53), (3, 54), (4, 55), (5, 56), (6, 57), (7, 58), (8, 59), (9, 60), (10, 61), (11, 62), (12, 63), (13, 64), (14, 65), (15, 66), (16, 67), (17, 68), (18, 69), (19, 70), (20, 71), (21, 6)]
        (fun i => [Is (.pointer (some ⟨b8, 0, none⟩)), Is (.string a), New [.string a], Is (.int .i64 (sumI (cat [a]))),
          Is (.pointer (some ⟨b8, 0, none⟩)), Is (.string b), New [.string b], Is (.int .i64 (sumI (cat [b]))),
          Is (.int .i64 (bits .xor .i64 (sumI (cat [a])) (sumI (cat [b])))),
          Is (.pointer (some ⟨b8, 0, none⟩)), Is (.string c), New [.string c], Is (.int .i64 (sumI (cat [c]))),
          Is (.int .i64 (bits .xor .i64 (bits .xor .i64 (sumI (cat [a])) (sumI (cat [b]))) (sumI (cat [c])))),
          Is (.pointer (some ⟨b8, 0, none⟩)), Is (.slice (some ⟨g, 0, none⟩) a.size cap), Is (.string (str D)), New [.string (str D)], Is (.int .i64 (sumI (cat [str D]))),
          Is (.int .i64 0), Is (.bool true), Is (.bool true)].getD i (Is undef))
        (fun w' => Below w8.heap.size w8 w') (by kernel_rfl) (by kernel_rfl) (by decide) (by decide) (by kernel_rfl) rfl ?mono ((Below.refl _ _).drew) ?step ?fin
      case mono =>
        intro i
        match i with
        | 0 | 1 | 3 | 4 | 5 | 7 | 8 | 9 | 10 | 12 | 13 | 14 | 15 | 16 | 18 | 19 | 20 | 21 => exact Is.monot _
        | 2 | 6 | 11 | 17 => exact New.monot _
        | _ + 22 => exact Is.monot _
      case step =>
        refine List.forall_mem_cons.2 ⟨?s0, List.forall_mem_cons.2 ⟨?s1, List.forall_mem_cons.2 ⟨?s2, List.forall_mem_cons.2 ⟨?s3, List.forall_mem_cons.2 ⟨?s4, List.forall_mem_cons.2 ⟨?s5, List.forall_mem_cons.2 ⟨?s6, List.forall_mem_cons.2 ⟨?s7, List.forall_mem_cons.2 ⟨?s8, List.forall_mem_cons.2 ⟨?s9, List.forall_mem_cons.2 ⟨?s10, List.forall_mem_cons.2 ⟨?s11, List.forall_mem_cons.2 ⟨?s12, List.forall_mem_cons.2 ⟨?s13, List.forall_mem_cons.2 ⟨?s14, List.forall_mem_cons.2 ⟨?s15, List.forall_mem_cons.2 ⟨?s16, List.forall_mem_cons.2 ⟨?s17, List.forall_mem_cons.2 ⟨?s18, List.forall_mem_cons.2 ⟨?s19, List.forall_mem_cons.2 ⟨?s20, List.forall_mem_cons.2 ⟨?s21, List.forall_mem_nil _⟩⟩⟩⟩⟩⟩⟩⟩⟩⟩⟩⟩⟩⟩⟩⟩⟩⟩⟩⟩⟩⟩
        case s3 =>
          intro u wr hg hC
          have h0 : u 0 = .pointer (some ⟨b8, 0, none⟩) := hC.at 0 (by kernel_rfl)
          obtain ⟨b1, h2, hl⟩ : New [.string (a)] (u 2) wr := hC.at 2 (by kernel_rfl)
          clear hC
          simp only [List.length_singleton] at h2
          have hbz := Nat.lt_of_lt_of_le hb8 hg.size
          refine wpOp_step rfl (fun K hK => ?_)
          simp only [puts, List.foldl]
          go_simp
          refine (sum_at b8 _ 1 1 [a] wr rfl (HT8.out.below hg hb8) hbz (by decide) HSA.out hl).mono ?_
          rintro e w' ⟨rfl, hb'⟩
          exact hK _ _ ⟨rfl, rfl, hg.next hb', hb'⟩
        case s7 =>
          intro u wr hg hC
          have h0 : u 4 = .pointer (some ⟨b8, 0, none⟩) := hC.at 4 (by kernel_rfl)
          obtain ⟨b1, h2, hl⟩ : New [.string (b)] (u 6) wr := hC.at 6 (by kernel_rfl)
          clear hC
          simp only [List.length_singleton] at h2
          have hbz := Nat.lt_of_lt_of_le hb8 hg.size
          refine wpOp_step rfl (fun K hK => ?_)
          simp only [puts, List.foldl]
          go_simp
          refine (sum_at b8 _ 1 1 [b] wr rfl (HT8.out.below hg hb8) hbz (by decide) HSB.out hl).mono ?_
          rintro e w' ⟨rfl, hb'⟩
          exact hK _ _ ⟨rfl, rfl, hg.next hb', hb'⟩
        case s12 =>
          intro u wr hg hC
          have h0 : u 9 = .pointer (some ⟨b8, 0, none⟩) := hC.at 9 (by kernel_rfl)
          obtain ⟨b1, h2, hl⟩ : New [.string (c)] (u 11) wr := hC.at 11 (by kernel_rfl)
          clear hC
          simp only [List.length_singleton] at h2
          have hbz := Nat.lt_of_lt_of_le hb8 hg.size
          refine wpOp_step rfl (fun K hK => ?_)
          simp only [puts, List.foldl]
          go_simp
          refine (sum_at b8 _ 1 1 [c] wr rfl (HT8.out.below hg hb8) hbz (by decide) HSC.out hl).mono ?_
          rintro e w' ⟨rfl, hb'⟩
          exact hK _ _ ⟨rfl, rfl, hg.next hb', hb'⟩
        case s18 =>
          intro u wr hg hC
          have h0 : u 14 = .pointer (some ⟨b8, 0, none⟩) := hC.at 14 (by kernel_rfl)
          obtain ⟨b1, h2, hl⟩ : New [.string (str D)] (u 17) wr := hC.at 17 (by kernel_rfl)
          clear hC
          simp only [List.length_singleton] at h2
          have hbz := Nat.lt_of_lt_of_le hb8 hg.size
          refine wpOp_step rfl (fun K hK => ?_)
          simp only [puts, List.foldl]
          go_simp
          refine (sum_at b8 _ 1 1 [str D] wr rfl (HT8.out.below hg hb8) hbz (by decide) HSD.out hl).mono ?_
          rintro e w' ⟨rfl, hb'⟩
          exact hK _ _ ⟨rfl, rfl, hg.next hb', hb'⟩
        all_goals
          intro u wr hg hC
          have hc := hC _ rfl
          clear hC
          simp [Region.binds, Is, New] at hc
          have hend := HEND.out
          have HRW := (HROW8.out.step hg).conv (cap := cap) HDL.out
          refine wpOp_step rfl (fun K hK => ?_)
          simp only [puts, List.foldl]
          go_simp
          refine hK _ _ ?_
          clear hK K
          first
            | (refine ⟨rfl, ?_, hg, Below.refl _ _⟩; rfl)
            | (refine ⟨rfl, ?_, hg.alloc hg.size _, alloc_below _ _⟩; exact ⟨wr.heap.size, rfl, Lies.new [_] _ _⟩)
      case fin =>
        intro u w9 hbw9 hφ
        have h6 : u 21 = .bool true := hφ (21, 6) (by decide)
        have hb9 := HBW8.out.next hbw9
        clear hφ hbw9
        simp only [puts, List.foldl]
        go_simp
        go_wp2
        go_ret
        exact ⟨rfl, hb9⟩

end Go.Proofs.Ytkfjniaipnljmaa
