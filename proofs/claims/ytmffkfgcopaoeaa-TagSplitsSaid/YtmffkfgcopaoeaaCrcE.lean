/- Contracts of the document's answers: Seal, Open, Joined; Long, awake. -/
import Derived.Test.YtmffkfgcopaoeaaCrcD
import Derived.Deep.RegionWith
namespace Go.Proofs.Ytmffkfgcopaoeaa
open Go.RowKit CrcMath

theorem refSeal_any (s : ByteArray) (w : World) (hs : s.size ≤ 140737488355000) :
    Calls Try.prog 28 #[.string s] w fun e w' => e = .returned (.string (str (sealB s.data.toList))) ∧ Below w.heap.size w w' := by
  obtain ⟨n, hn⟩ : ∃ n, n = sumI s.data.toList := ⟨_, rfl⟩
  have hb := sumI_bd s.data.toList
  rw [← hn] at hb
  have h0 := hb.1
  have h1 := hb.2
  have HN := Lib.hid hn
  clear hn hb
  have hconv : (convert 39 9 (.slice (some ⟨w.heap.size, 0, none⟩) 4 4)).run Try.prog (w.alloc (.cells #[.int .u8 (n / 16777216), .int .u8 (n / 65536 % 256), .int .u8 (n / 256 % 256), .int .u8 (n % 256)] 5)) = .ok (.string (str (tailB n))) (w.alloc (.cells #[.int .u8 (n / 16777216), .int .u8 (n / 65536 % 256), .int .u8 (n / 256 % 256), .int .u8 (n % 256)] 5)) := by
    have e : tailB n = [UInt8.ofNat (n.toNat / 16777216 % 256), UInt8.ofNat (n.toNat / 65536 % 256), UInt8.ofNat (n.toNat / 256 % 256), UInt8.ofNat (n.toNat % 256)] := by
      rw [tailB, NumMath.be_cons, NumMath.be_cons, NumMath.be_cons, NumMath.be_cons]
      simp [NumMath.be]
    have hv : ∀ m : Nat, ((UInt8.ofNat (m % 256)).toNat : Int) = (m : Int) % 256 := fun m => by rw [NumMath.toNat_mod]; omega
    refine conv_bytes _ 0 4 (tailB n) 4 _ (tailB_length n) fun j hj => ?_
    rw [Nat.zero_add, World.cell?_alloc_at _ _ _ j rfl]
    rw [tailB_length] at hj
    simp only [e]
    match j, hj with
    | 0, _ => simp only [List.getElem_cons_zero, hv]; simp; omega
    | 1, _ => simp only [List.getElem_cons_succ, List.getElem_cons_zero, hv]; simp; omega
    | 2, _ => simp only [List.getElem_cons_succ, List.getElem_cons_zero, hv]; simp; omega
    | 3, _ => simp only [List.getElem_cons_succ, List.getElem_cons_zero, hv]; simp; omega
  go_enter Try.func28, Try.ntmps28
  have hT : (str (tailB n)).size ≤ 4 := by rw [str_size, tailB_length]; omega
  go_wp2_with (go_at_call 41; refine (refSum_any _ _ (by omega)).mono ?_; rintro e w1 ⟨rfl, rfl⟩; rw [← HN.out])
  go_ret
  exact ⟨ret_str (by rw [sealB, ← str_append, str_of, ← HN.out]), alloc_below _ _⟩

/-- Are texts more than what is played? -/
def crc_longB (l : List ByteArray) : Bool := decide (3000 < (cat l).length) || decide (60 < l.length)

theorem crc_cat_take_le (l : List ByteArray) (k : Nat) : (cat (l.take k)).length ≤ (cat l).length := by
  conv => rhs; rw [← List.take_append_drop k l, cat, List.flatMap_append]
  rw [List.length_append]
  exact Nat.le_add_right _ _

theorem refOpen_any (s : ByteArray) (w : World) (hs : s.size ≤ 140737488351232) :
    Calls Try.prog 29 #[.string s] w fun e w' => e = .returned (.tuple #[.string (str (openR s.data.toList).1), .int .i64 (openR s.data.toList).2]) ∧ Below w.heap.size w w' := by
  by_cases h4 : s.size < 4
  · have HR : Hid (openR s.data.toList = ([], 13)) := Lib.hid (openR_short (by rw [size_list]; exact h4))
    go_enter Try.func29, Try.ntmps29
    go_wp2
    go_ret2
    exact ⟨by rw [HR.out]; rfl, Below.refl _ _⟩
  · have hn : ¬ s.data.toList.length < 4 := by rw [size_list]; exact h4
    obtain ⟨x, hx⟩ : ∃ x, s.extract 0 (s.size - 4) = x := ⟨_, rfl⟩
    have hxl : s.data.toList.take (s.size - 4) = x.data.toList := by rw [← hx, ByteArray.data_extract]; simp
    have hxs : x.size ≤ 140737488351000 ∨ 140737488351000 < x.size := by omega
    have hxz : x.size = s.size - 4 := by rw [← hx, ByteArray.size_extract]; omega
    have HZ := Lib.hid hxz
    have hxs2 : x.size ≤ 140737488351228 := by omega
    have HXL := Lib.hid hxl
    clear hxl hxz hxs
    by_cases hyes : str (sealB x.data.toList) = s
    · have HR : Hid (openR s.data.toList = (x.data.toList, 0)) := Lib.hid <| by
        have h1 : s.data.toList = x.data.toList ++ tailB (sumI x.data.toList) := by rw [← hyes, str_list, sealB]
        have h2 : s.data.toList.drop (s.data.toList.length - 4) = tailB (sumI (s.data.toList.take (s.data.toList.length - 4))) := by
          rw [size_list, HXL.out]
          conv => lhs; rw [h1]
          have : s.size - 4 = x.data.toList.length := by rw [size_list, HZ.out]
          rw [this, List.drop_left]
        rw [openR_ok hn h2, size_list, HXL.out]
      have hq := beq_yes hyes
      have HY := Lib.hid hyes
      clear hyes hn
      go_enter Try.func29, Try.ntmps29
      go_wp2_with (go_at_call 28; rw [hx]; refine (refSeal_any _ _ (by omega)).mono ?_; rintro e w1 ⟨rfl, hb1⟩)
      go_ret2
      exact ⟨by rw [HR.out, str_of, hx]; rfl, hb1⟩
    · have HR : Hid (openR s.data.toList = ([], 7)) := Lib.hid <| by
        refine openR_sum hn fun h => hyes ?_
        rw [size_list, HXL.out] at h
        have h1 : s.data.toList = s.data.toList.take (s.size - 4) ++ s.data.toList.drop (s.size - 4) := (List.take_append_drop _ _).symm
        rw [sealB, ← h, ← HXL.out, ← h1, str_of]
      have hq := beq_no hyes
      have HY := Lib.hid hyes
      clear hyes hn
      go_enter Try.func29, Try.ntmps29
      go_wp2_with (go_at_call 28; rw [hx]; refine (refSeal_any _ _ (by omega)).mono ?_; rintro e w1 ⟨rfl, hb1⟩)
      go_ret2
      exact ⟨by rw [HR.out]; rfl, hb1⟩

end Go.Proofs.Ytmffkfgcopaoeaa
