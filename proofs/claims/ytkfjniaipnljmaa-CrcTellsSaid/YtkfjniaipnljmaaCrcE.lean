/- Contracts of the document's answers: Seal, Open, Joined; Long, awake. -/
import Derived.Test.YtkfjniaipnljmaaCrcD
import Derived.Deep.RegionWith
namespace Go.Proofs.Ytkfjniaipnljmaa
open Go.RowKit CrcMath

theorem refSeal_any (s : ByteArray) (w : World) (hs : s.size ≤ 140737488355000) :
    Calls Try.prog 14 #[.string s] w fun e w' => e = .returned (.string (str (sealB s.data.toList))) ∧ Below w.heap.size w w' := by
  obtain ⟨n, hn⟩ : ∃ n, n = sumI s.data.toList := ⟨_, rfl⟩
  have hb := sumI_bd s.data.toList
  rw [← hn] at hb
  have h0 := hb.1
  have h1 := hb.2
  have HN := Lib.hid hn
  clear hn hb
  have hconv : (convert 39 9 (.slice (some ⟨w.heap.size, 0, none⟩) 4 4)).run Try.prog (w.alloc (.cells #[.int .u8 (n / 16777216), .int .u8 (n / 65536 % 256), .int .u8 (n / 256 % 256), .int .u8 (n % 256)] 5)) = .ok (.string (str (tailB n))) (w.alloc (.cells #[.int .u8 (n / 16777216), .int .u8 (n / 65536 % 256), .int .u8 (n / 256 % 256), .int .u8 (n % 256)] 5)) := by
    have e : tailB n = [UInt8.ofNat (n.toNat / 16777216 % 256), UInt8.ofNat (n.toNat / 65536 % 256), UInt8.ofNat (n.toNat / 256 % 256), UInt8.ofNat (n.toNat % 256)] := by
      rw [tailB, NumMath.be_cons, NumMath.be_cons, NumMath.be_cons, NumMath.be_cons]
      simp [NumMath.be]
    have hv : ∀ m : Nat, ((UInt8.ofNat (m % 256)).toNat : Int) = (m : Int) % 256 := fun m => by rw [NumMath.toNat_mod]; omega
    refine conv_bytes _ 0 4 (tailB n) 4 _ (tailB_length n) fun j hj => ?_
    rw [Nat.zero_add, World.cell?_alloc_at _ _ _ j rfl]
    rw [tailB_length] at hj
    simp only [e]
    match j, hj with
    | 0, _ => simp only [List.getElem_cons_zero, hv]; simp; omega
    | 1, _ => simp only [List.getElem_cons_succ, List.getElem_cons_zero, hv]; simp; omega
    | 2, _ => simp only [List.getElem_cons_succ, List.getElem_cons_zero, hv]; simp; omega
    | 3, _ => simp only [List.getElem_cons_succ, List.getElem_cons_zero, hv]; simp; omega
  go_enter Try.func14, Try.ntmps14
  have hT : (str (tailB n)).size ≤ 4 := by rw [str_size, tailB_length]; omega
  go_wp2_with (go_at_call 12; refine (refSum_any _ _ (by omega)).mono ?_; rintro e w1 ⟨rfl, rfl⟩; rw [← HN.out])
  go_ret
  exact ⟨ret_str (by rw [sealB, ← str_append, str_of, ← HN.out]), alloc_below _ _⟩

theorem refJoined_any (a : Option Addr) (cap : Nat) (l : List ByteArray) (w : World) (hl : l.length ≤ 1000000) (hlen : (cat l).length ≤ 1000000) (hs : ∀ s ∈ l, s.size ≤ 140737488351232) (hr : Lies w w.heap.size a (strs l)) :
    Calls Try.prog 10 #[.slice a l.length cap] w fun e w' => e = .returned (.string (str (cat l))) ∧ w = w' := by
  go_enter Try.func10, Try.ntmps10
  go_wp2
  go_loop [3, 4] (fun t i => ∃ k : Nat, k ≤ l.length ∧ i = .int .i64 k ∧ t = .string (str (cat (l.take k)))) (fun _ i => l.length - (intOf i).toNat)
  case atStart => exact ⟨0, by omega, rfl, rfl⟩
  case round =>
    obtain ⟨k, hk, rfl, rfl⟩ := hrel
    have hpre : (cat (l.take k)).length ≤ (cat l).length := by
      conv => rhs; rw [← List.take_append_drop k l, cat, List.flatMap_append]
      rw [List.length_append]
      exact Nat.le_add_right _ _
    by_cases hlt : k < l.length
    · obtain ⟨bl, off, rfl, hbb, hc⟩ := hr (by rw [strs_length]; omega)
      have hcell : w.cell? ⟨bl, off + k, none⟩ = some (.string l[k]) := hc k _ (strs_get l k hlt)
      have hsz := hs l[k] (List.getElem_mem _)
      have HT : Hid (str (cat (l.take (k + 1))) = str (cat (l.take k)) ++ l[k]) := Lib.hid (by rw [take_snoc l k hlt, cat_snoc, ← str_append, str_of])
      have hz : (str (cat (l.take k))).size ≤ 1000000 := by rw [str_size]; omega
      clear hc hs hr
      generalize str (cat (l.take k)) = S at hz HT ⊢
      go_wp2
      go_round
      case rel => exact ⟨k + 1, by omega, by go_num, by rw [HT.out]⟩
      case measure => simp [intOf]; omega
    · have HE : Hid (l.take k = l) := Lib.hid (List.take_of_length_le (by omega))
      go_wp2
      go_ret
      exact ⟨ret_str (by rw [HE.out]), rfl⟩

/-- Are texts more than what is played? -/
def longB (l : List ByteArray) : Bool := decide (3000 < (cat l).length) || decide (60 < l.length)

theorem cat_take_le (l : List ByteArray) (k : Nat) : (cat (l.take k)).length ≤ (cat l).length := by
  conv => rhs; rw [← List.take_append_drop k l, cat, List.flatMap_append]
  rw [List.length_append]
  exact Nat.le_add_right _ _

theorem long_any (a : Option Addr) (cap : Nat) (l : List ByteArray) (w : World) (hl : l.length ≤ 140737488351232) (hs : ∀ s ∈ l, s.size ≤ 140737488351232) (hr : Lies w w.heap.size a (strs l)) :
    Calls Try.prog 8 #[.slice a l.length cap] w fun e w' => e = .returned (.bool (longB l)) ∧ w = w' := by
  go_enter Try.func8, Try.ntmps8
  go_wp2
  go_loop [3, 8] (fun t i => ∃ k : Nat, k ≤ l.length ∧ i = .int .i64 k ∧ t = .int .i64 ((cat (l.take k)).length : Int) ∧ (cat (l.take k)).length ≤ 3000) (fun _ i => l.length - (intOf i).toNat)
  case atStart => exact ⟨0, by omega, rfl, rfl, by simp [cat]⟩
  case round =>
    obtain ⟨k, hk, rfl, rfl, h3⟩ := hrel
    by_cases hlt : k < l.length
    · obtain ⟨bl, off, rfl, hbb, hc⟩ := hr (by rw [strs_length]; omega)
      have hcell : w.cell? ⟨bl, off + k, none⟩ = some (.string l[k]) := hc k _ (strs_get l k hlt)
      have hsz := hs l[k] (List.getElem_mem _)
      have HT : Hid ((cat (l.take (k + 1))).length = (cat (l.take k)).length + l[k].size) := Lib.hid (by rw [take_snoc l k hlt, cat_snoc, List.length_append, size_list])
      have HLE := Lib.hid (cat_take_le l (k + 1))
      clear hc hs hr
      generalize (cat (l.take k)).length = n at h3 HT ⊢
      generalize hm : l[k].size = m at hsz HT ⊢
      by_cases hbig : 3000 < n + m
      · have HR : Hid (longB l = true) := Lib.hid (by
          unfold longB
          have h1 := HT.out
          have h2 := HLE.out
          rw [decide_eq_true (by omega : 3000 < (cat l).length), Bool.true_or])
        have HM := Lib.hid hm
        have hbig2 : 3000 < (n : Int) + (l[k].size : Int) := by rw [hm]; omega
        have hsz2 : l[k].size ≤ 140737488351232 := by rw [hm]; exact hsz
        clear hm
        go_wp2
        go_ret
        exact ⟨ret_bool HR.out.symm, rfl⟩
      · have hsz2 : l[k].size ≤ 3000 := by rw [hm]; omega
        have hbig2 : (n : Int) + (l[k].size : Int) ≤ 3000 := by rw [hm]; omega
        have HM := Lib.hid hm
        clear hm hsz
        go_wp2
        go_round
        case rel => exact ⟨k + 1, by omega, by go_num, by rw [HT.out, ← HM.out]; go_num, by rw [HT.out]; omega⟩
        case measure => simp [intOf]; omega
    · have HE : Hid (l.take k = l) := Lib.hid (List.take_of_length_le (by omega))
      go_wp2
      go_ret
      exact ⟨ret_bool (by rw [HE.out] at h3; unfold longB; rw [decide_eq_false (by omega : ¬ 3000 < (cat l).length), Bool.false_or]; simp; omega), rfl⟩

theorem awake_any (w : World) :
    Calls Try.prog 7 #[] w fun e w' => e = .returned (.bool true) ∧ Below w.heap.size w w' := by
  have HS1 : Hid (sumI (cat [(⟨#[49, 50, 51, 52, 53, 54, 55, 56, 57]⟩ : ByteArray)]) = 3421780262) := Lib.hid (by decide +kernel)
  have HS2 : Hid (sumI (cat [(⟨#[49, 50, 51, 52]⟩ : ByteArray), ⟨#[53, 54, 55, 56, 57]⟩]) = 3421780262) := Lib.hid (by decide +kernel)
  go_enter Try.func7, Try.ntmps7
  go_wp2_with (go_at_call 9; refine (new_any _).mono ?_; rintro e w1 ⟨b, rfl, hb, ht, hb1⟩)
  have HT := Lib.hid ht
  clear ht
  refine (sum_new b 1 1 [⟨#[49, 50, 51, 52, 53, 54, 55, 56, 57]⟩] _ _ rfl HT.out hb (by decide) (by intro s hs; rw [List.mem_singleton] at hs; rw [hs]; decide)).mono ?_
  rintro e w2 ⟨rfl, hb2⟩
  rw [HS1.out]
  have hbz2 : b < w2.heap.size := Nat.lt_of_lt_of_le hb hb2.size
  go_wp2_with (fail)
  refine (sum_new b 2 2 [⟨#[49, 50, 51, 52]⟩, ⟨#[53, 54, 55, 56, 57]⟩] _ _ rfl (HT.out.below hb2 hb) hbz2 (by decide) (by intro s hs; simp at hs; rcases hs with hs | hs <;> rw [hs] <;> decide)).mono ?_
  rintro e w3 ⟨rfl, hb3⟩
  rw [HS2.out]
  go_wp2
  go_ret
  exact ⟨rfl, hb1.trans ((hb2.trans (hb3.mono hb2.size)).mono hb1.size)⟩

theorem refOpen_any (s : ByteArray) (w : World) (hs : s.size ≤ 140737488351232) :
    Calls Try.prog 16 #[.string s] w fun e w' => e = .returned (.tuple #[.string (str (openR s.data.toList).1), .int .i64 (openR s.data.toList).2]) ∧ Below w.heap.size w w' := by
  by_cases h4 : s.size < 4
  · have HR : Hid (openR s.data.toList = ([], 13)) := Lib.hid (openR_short (by rw [size_list]; exact h4))
    go_enter Try.func16, Try.ntmps16
    go_wp2
    go_ret2
    exact ⟨by rw [HR.out]; rfl, Below.refl _ _⟩
  · have hn : ¬ s.data.toList.length < 4 := by rw [size_list]; exact h4
    obtain ⟨x, hx⟩ : ∃ x, s.extract 0 (s.size - 4) = x := ⟨_, rfl⟩
    have hxl : s.data.toList.take (s.size - 4) = x.data.toList := by rw [← hx, ByteArray.data_extract]; simp
    have hxs : x.size ≤ 140737488351000 ∨ 140737488351000 < x.size := by omega
    have hxz : x.size = s.size - 4 := by rw [← hx, ByteArray.size_extract]; omega
    have HZ := Lib.hid hxz
    have hxs2 : x.size ≤ 140737488351228 := by omega
    have HXL := Lib.hid hxl
    clear hxl hxz hxs
    by_cases hyes : str (sealB x.data.toList) = s
    · have HR : Hid (openR s.data.toList = (x.data.toList, 0)) := Lib.hid <| by
        have h1 : s.data.toList = x.data.toList ++ tailB (sumI x.data.toList) := by rw [← hyes, str_list, sealB]
        have h2 : s.data.toList.drop (s.data.toList.length - 4) = tailB (sumI (s.data.toList.take (s.data.toList.length - 4))) := by
          rw [size_list, HXL.out]
          conv => lhs; rw [h1]
          have : s.size - 4 = x.data.toList.length := by rw [size_list, HZ.out]
          rw [this, List.drop_left]
        rw [openR_ok hn h2, size_list, HXL.out]
      have hq := beq_yes hyes
      have HY := Lib.hid hyes
      clear hyes hn
      go_enter Try.func16, Try.ntmps16
      go_wp2_with (go_at_call 14; rw [hx]; refine (refSeal_any _ _ (by omega)).mono ?_; rintro e w1 ⟨rfl, hb1⟩)
      go_ret2
      exact ⟨by rw [HR.out, str_of, hx]; rfl, hb1⟩
    · have HR : Hid (openR s.data.toList = ([], 7)) := Lib.hid <| by
        refine openR_sum hn fun h => hyes ?_
        rw [size_list, HXL.out] at h
        have h1 : s.data.toList = s.data.toList.take (s.size - 4) ++ s.data.toList.drop (s.size - 4) := (List.take_append_drop _ _).symm
        rw [sealB, ← h, ← HXL.out, ← h1, str_of]
      have hq := beq_no hyes
      have HY := Lib.hid hyes
      clear hyes hn
      go_enter Try.func16, Try.ntmps16
      go_wp2_with (go_at_call 14; rw [hx]; refine (refSeal_any _ _ (by omega)).mono ?_; rintro e w1 ⟨rfl, hb1⟩)
      go_ret2
      exact ⟨by rw [HR.out]; rfl, hb1⟩

end Go.Proofs.Ytkfjniaipnljmaa
