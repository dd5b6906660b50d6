/- The statements CrcSums and CrcOpens: their walks. -/
import Derived.Test.YtkfjniaipnljmaaCrcE
import Derived.Test.YtkfjniaipnljmaaOpen
namespace Go.Proofs.Ytkfjniaipnljmaa
open Go.RowKit CrcMath

/-- Texts that came in, as the walks take them. -/
theorem reads_strs {w : World} {a : Option Addr} {cap : Nat} {l : List ByteArray} (h : Open.Reads w (.sl 16 .str) [.slice a l.length cap] l) :
    Lies w w.heap.size a (strs l) ∧ (∀ s ∈ l, s.size ≤ 140737488351232) ∧ l.length ≤ cap ∧ cap ≤ 140737488351232 := by
  obtain ⟨a', cap', e, h1, h2, h3, h4⟩ := h
  simp at e
  obtain ⟨rfl, rfl⟩ := e
  refine ⟨fun h0 => ?_, fun s hs => ?_, h1, by omega⟩
  · rw [strs_length] at h0
    obtain ⟨b, off, e1, e2, e3⟩ := h4 h0
    refine ⟨b, off, e1, e2, fun j u hu => ?_⟩
    have hj : j < l.length := by
      have := (List.getElem?_eq_some_iff.1 hu).1
      rwa [strs_length] at this
    obtain ⟨cs', q1, q2, q3⟩ := e3 j hj
    have := q2 0 (by decide)
    rw [q3.1] at this
    rw [strs_get l j hj] at hu
    simpa [Open.Ty.size, ← hu] using this
  · obtain ⟨i, hi, rfl⟩ := List.mem_iff_getElem.1 hs
    obtain ⟨b, off, e1, e2, e3⟩ := h4 (by omega)
    obtain ⟨cs', q1, q2, q3⟩ := e3 i hi
    exact q3.2

theorem crcSums_walk (a : Option Addr) (cap : Nat) (l : List ByteArray) (w : World) (hr : Lies w w.heap.size a (strs l)) (hs : ∀ s ∈ l, s.size ≤ 140737488351232) (hlc : l.length ≤ cap) (hcap : cap ≤ 140737488351232) :
    Calls Try.prog 3 #[.slice a l.length cap] w fun e w' => e = .returned (.bool true) ∧ Below w.heap.size w w' := by
  have HS := Lib.hid hs
  have hs2 : ∀ s ∈ l, s.size ≤ maxLen := fun s h => by have := hs s h; unfold maxLen; omega
  have HS2 := Lib.hid hs2
  have HR := Lib.hid hr
  clear hs hs2 hr
  by_cases hL : longB l = true
  · go_enter Try.func3, Try.ntmps3
    go_wp2_with (first
      | (go_at_call 7; refine (awake_any _).mono ?_; rintro e w1 ⟨rfl, hb1⟩)
      | (go_at_call 8; refine (long_any _ _ _ _ (by omega) HS.out (HR.out.step hb1)).mono ?_; rintro e w2 ⟨rfl, rfl⟩))
    go_ret
    exact ⟨rfl, hb1⟩
  · have hL : longB l = false := by simpa using hL
    have hb := hL
    unfold longB at hb
    simp only [Bool.or_eq_false_iff, decide_eq_false_iff_not] at hb
    have h3 : (cat l).length ≤ 3000 := by omega
    have h60 : l.length ≤ 60 := by omega
    clear hb
    have HD : Hid ((str (cat l)).data.toList = cat l) := Lib.hid (str_list _)
    have hz : (str (cat l)).size ≤ 3000 := by rw [str_size]; omega
    go_enter Try.func3, Try.ntmps3
    go_wp2_with (first
      | (go_at_call 7; refine (awake_any _).mono ?_; rintro e w1 ⟨rfl, hb1⟩)
      | (go_at_call 8; refine (long_any _ _ _ _ (by omega) HS.out (HR.out.step hb1)).mono ?_; rintro e w2 ⟨rfl, rfl⟩)
      | (go_at_call 9; refine (new_any _).mono ?_; rintro e w3 ⟨b, rfl, hb, ht, hb3⟩; have HT := Lib.hid ht; clear ht)
      | (go_at_call 10; refine (refJoined_any _ _ _ _ (by omega) (by omega) HS.out ((HR.out.step hb1).step hb3)).mono ?_; rintro e w4 ⟨rfl, rfl⟩)
      | (go_at_call 11; refine (sum_any _ _ _ _ _ HT.out hb (by omega) HS2.out ((HR.out.step hb1).step hb3)).mono ?_; rintro e w5 ⟨rfl, hb5⟩)
      | (go_at_call 12; refine (refSum_any _ _ (by omega)).mono ?_; rintro e w6 ⟨rfl, rfl⟩; rw [HD.out])
      | (go_at_call 13; refine (seal_any _ _ _ _ _ (HT.out.below hb5 hb) (Nat.lt_of_lt_of_le hb hb5.size) (by omega) hlc HS2.out (by omega) (((HR.out.step hb1).step hb3).step hb5)).mono ?_; rintro e w7 ⟨rfl, hb7⟩)
      | (go_at_call 14; refine (refSeal_any _ _ (by omega)).mono ?_; rintro e w8 ⟨rfl, hb8⟩; rw [HD.out]))
    go_ret
    exact ⟨rfl, (((hb1.next hb3).next hb5).next hb7).next hb8⟩

/-- What was sealed is opened. -/
theorem openR_seal (l : List UInt8) : openR (sealB l) = (l, 0) := by
  have e : (sealB l).length - 4 = l.length := by rw [sealB_length]; omega
  have h1 : (sealB l).take ((sealB l).length - 4) = l := by rw [e, sealB, List.take_left]
  have h2 : (sealB l).drop ((sealB l).length - 4) = tailB (sumI l) := by rw [e, sealB, List.drop_left]
  rw [openR_ok (by rw [sealB_length]; omega) (by rw [h1, h2]), h1]

theorem crcOpens_walk (s : ByteArray) (w : World) (hs : s.size ≤ 140737488351232) :
    Calls Try.prog 4 #[.string s] w fun e w' => e = .returned (.bool true) ∧ Below w.heap.size w w' := by
  by_cases hL : 3000 < s.size
  · go_enter Try.func4, Try.ntmps4
    go_wp2_with (go_at_call 7; refine (awake_any _).mono ?_; rintro e w1 ⟨rfl, hb1⟩)
    go_ret
    exact ⟨rfl, hb1⟩
  · have hL2 : s.size ≤ 3000 := by omega
    have HS : Hid (∀ t ∈ [s], t.size ≤ maxLen) := Lib.hid (by intro t ht; rw [List.mem_singleton] at ht; rw [ht]; unfold maxLen; omega)
    have HC : Hid (cat [s] = s.data.toList) := Lib.hid (cat_one s)
    have HLEN : Hid ((cat [s]).length ≤ 140737488355000) := Lib.hid (by rw [cat_one, size_list]; omega)
    have hz : (str (sealB (cat [s]))).size ≤ 3004 := by rw [str_size, sealB_length, cat_one, size_list]; omega
    have HO : Hid (openR (str (sealB (cat [s]))).data.toList = (s.data.toList, 0)) := Lib.hid (by rw [str_list, cat_one, openR_seal])
    have HSS : Hid (str s.data.toList = s) := Lib.hid (str_of s)
    generalize hop : openR s.data.toList = op
    obtain ⟨ol, oc⟩ := op
    have HOP := Lib.hid hop
    clear hop
    go_enter Try.func4, Try.ntmps4
    go_wp2_with (first
      | (go_at_call 7; refine (awake_any _).mono ?_; rintro e w1 ⟨rfl, hb1⟩)
      | (go_at_call 9; refine (new_any _).mono ?_; rintro e w3 ⟨b, rfl, hb, ht, hb3⟩; have HT := Lib.hid ht; clear ht))
    refine (open_any _ _ _ HT.out hb (by omega)).mono ?_
    rintro e w4 ⟨rfl, hb4⟩
    rw [HOP.out]
    go_wp2_with (go_at_call 16; refine (refOpen_any _ _ hs).mono ?_; rintro e w5 ⟨rfl, hb5⟩; rw [HOP.out])
    have hb45 := hb4.next hb5
    refine (seal_new b 1 1 [s] _ _ rfl (HT.out.below hb45 hb) (Nat.lt_of_lt_of_le hb hb45.size) (by decide) (by decide) HS.out HLEN.out).mono ?_
    rintro e w6 ⟨rfl, hb6⟩
    have hb456 := hb45.next hb6
    go_wp2_with (fail)
    refine (open_any _ _ _ (HT.out.below hb456 hb) (Nat.lt_of_lt_of_le hb hb456.size) (by omega)).mono ?_
    rintro e w7 ⟨rfl, hb7⟩
    rw [HO.out, HSS.out]
    go_wp2_with (fail)
    refine (open_none _ _).mono ?_
    rintro e w8 ⟨rfl, rfl⟩
    go_wp2_with (first
     | (go_at_call 11; refine (sum_none _ _ _ _).mono ?_; rintro e w9 ⟨rfl, rfl⟩)
     | (go_at_call 13; refine (seal_none _ _ _ _).mono ?_; rintro e w9 ⟨rfl, rfl⟩))
    go_ret
    exact ⟨rfl, (((hb1.next hb3).next (hb456.next hb7)).next (alloc_below _ _)).next (alloc_below _ _)⟩

end Go.Proofs.Ytkfjniaipnljmaa
