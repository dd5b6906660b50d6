/- Contracts of tag's Seal, Open, Blank. -/
import Derived.Test.YtmffkfgcopaoeaaTagA
namespace Go.Proofs.Ytmffkfgcopaoeaa
open Go.RowKit CrcMath
set_option linter.unusedVariables false
set_option maxRecDepth 100000

theorem tag_rep (c : UInt8) (n : Nat) (w : World) (hn : n ≤ 140737488355328) : Calls Try.prog 10 #[.string { data := #[c] }, .int .i64 (n : Int)] w fun e w' => e = .returned (.string (str (List.replicate n c))) ∧ Below w.heap.size w w' := by
  have h := Try.strings_Repeat { data := #[c] } n w (by omega) (by show 1 * n ≤ _; omega)
  refine h.mono ?_
  rintro e w' ⟨rfl, hb⟩
  refine ⟨ret_str ?_, hb⟩
  show (⟨(Lib.repeatL [c] n).toArray⟩ : ByteArray) = ⟨(List.replicate n c).toArray⟩
  have e : ∀ m, Lib.repeatL [c] m = List.replicate m c := fun m => by
    induction m with
    | zero => rfl
    | succ m ih => simp [Lib.repeatL, List.replicate_succ, ih]
  rw [e]

/-- A blank sector. -/
def blankS : ByteArray := str (List.replicate 64 255)
theorem tag_blank_any (s : ByteArray) (w : World) :
    Calls Try.prog 14 #[.string s] w fun e w' => e = .returned (.bool (decide (s = blankS))) ∧ Below w.heap.size w w' := by
  obtain ⟨B, hB⟩ : ∃ B, B = blankS := ⟨_, rfl⟩
  have HR : Hid (∀ wx, Calls Try.prog 10 #[.string { data := #[255] }, .int .i64 64] wx fun e w' => e = .returned (.string B) ∧ Below wx.heap.size wx w') := Lib.hid fun wx => by rw [hB]; exact tag_rep 255 64 wx (by omega)
  have hq : (s.toList == B.toList) = decide (s = B) := by
    by_cases h : s = B
    · rw [decide_eq_true h]; exact beq_yes h
    · rw [decide_eq_false h]; exact beq_no h
  rw [← hB]
  clear hB
  obtain ⟨d, hd⟩ : ∃ d, d = decide (s = B) := ⟨_, rfl⟩
  rw [← hd] at hq ⊢
  clear hd
  go_enter Try.func14, Try.ntmps14
  go_wp2_with (go_at_call 10; (with_reducible refine (HR.out _).mono ?_); rintro e w1 ⟨rfl, b1⟩; have B1 := Lib.hid b1; clear b1)
  go_ret
  exact ⟨rfl, B1.out⟩

theorem tag_seal_any (b : Nat) (l : List UInt8) (w : World) (ht : Tab w b 0) (hb : b < w.heap.size) (hl : l.length = 60) :
    Calls Try.prog 8 #[.pointer (some ⟨b, 0, none⟩), .agg (bytes l).toArray] w fun e w' => e = .returned (.string (str (sealB l))) ∧ Below w.heap.size w w' := by
  obtain ⟨L, hL⟩ : ∃ L, L = bytes l := ⟨_, rfl⟩
  obtain ⟨T, hT⟩ : ∃ T, T = str l := ⟨_, rfl⟩
  obtain ⟨S, hS⟩ : ∃ S, S = str (sealB l) := ⟨_, rfl⟩
  have HC : Hid (∀ u g cap, Row u g 23 L → (convert 39 9 (.slice (some ⟨g, 0, none⟩) 60 cap)).run Try.prog u = .ok (.string T) u) := Lib.hid fun u g cap h => by
    rw [hT]
    refine conv_bytes g 0 cap l 60 u hl fun j hj => ?_
    rw [Nat.zero_add, h.cell, hL]
    exact bytes_get l j hj
  have hcat : cat [T] = l := by rw [cat_one, hT, str_list]
  have HSE : Hid (∀ u, Tab u b 0 → b < u.heap.size → Calls Try.prog 19 #[.pointer (some ⟨b, 0, none⟩), .slice (some ⟨u.heap.size, 0, none⟩) 1 1] (u.alloc (.cells #[.string T] 9)) fun e w' => e = .returned (.string S) ∧ Below u.heap.size u w') := Lib.hid fun u h1 h2 => by
    have hz : T.size = 60 := by rw [hT, str_size, hl]
    have := seal_new b 1 1 [T] 9 u rfl h1 h2 (by omega) (Nat.le_refl _) (by intro x hx; rw [List.mem_singleton] at hx; rw [hx, hz]; unfold maxLen; omega) (by rw [hcat, hl]; omega)
    rw [hcat] at this
    rw [hS]
    exact this
  have HT := Lib.hid (ht.below (Below.refl _ w) hb)
  have HB := Lib.hid hb
  rw [← hL, ← hS]
  clear hL hT hS hcat ht hb
  go_enter Try.func8, Try.ntmps8
  go_wp2_with (first
    | ((with_reducible refine wpBoxK (w := w) L 23 ?_ ?_); rfl; intro u1 r1 b1 s1; have hc := HC.out u1 w.heap.size 60 r1; have T1 := Lib.hid (HT.out.below b1 HB.out); have L1 : Hid (b < u1.heap.size) := Lib.hid (Nat.lt_of_lt_of_le HB.out b1.size); have B1 := Lib.hid b1; clear r1 b1 s1)
    | (go_at_call 19; (with_reducible refine (HSE.out u1 T1.out L1.out).mono ?_); rintro e u2 ⟨rfl, b2⟩; have B2 : Hid (Below w.heap.size w u2) := Lib.hid (B1.out.next b2); clear b2))
  go_ret
  exact ⟨rfl, B2.out⟩

theorem tag_seal_none (l : List UInt8) (w : World) (hl : l.length = 60) :
    Calls Try.prog 8 #[.pointer none, .agg (bytes l).toArray] w fun e w' => e = .returned (.string ByteArray.empty) ∧ Below w.heap.size w w' := by
  obtain ⟨L, hL⟩ : ∃ L, L = bytes l := ⟨_, rfl⟩
  obtain ⟨T, hT⟩ : ∃ T, T = str l := ⟨_, rfl⟩
  have HC : Hid (∀ u g cap, Row u g 23 L → (convert 39 9 (.slice (some ⟨g, 0, none⟩) 60 cap)).run Try.prog u = .ok (.string T) u) := Lib.hid fun u g cap h => by
    rw [hT]
    refine conv_bytes g 0 cap l 60 u hl fun j hj => ?_
    rw [Nat.zero_add, h.cell, hL]
    exact bytes_get l j hj
  rw [← hL]
  clear hL hT
  go_enter Try.func8, Try.ntmps8
  go_wp2_with (first
    | ((with_reducible refine wpBoxK (w := w) L 23 ?_ ?_); rfl; intro u1 r1 b1 s1; have hc := HC.out u1 w.heap.size 60 r1; have B1 := Lib.hid b1; clear r1 b1 s1)
    | (go_at_call 19; (with_reducible refine (seal_none _ _ _ _).mono ?_); rintro e u2 ⟨rfl, rfl⟩; have B2 : Hid (Below w.heap.size w (u1.alloc (.cells #[.string T] 9))) := Lib.hid (B1.out.next (alloc_below _ _))))
  go_ret
  exact ⟨rfl, B2.out⟩

/-- What Open does with what the summer tells. -/
theorem tag_open_of (p : Value) (x : ByteArray) (n : Int) (s : ByteArray) (r : Bool) (w : World) (hs : s.size ≤ 140737488355328) (hr : r = (decide (n = 0) && decide (s.size = 64)))
    (hO : ∀ u, Below w.heap.size w u → Calls Try.prog 20 #[p, .string s] u fun e w' => e = .returned (.tuple #[.string x, .int .i64 n]) ∧ Below u.heap.size u w') :
    Calls Try.prog 9 #[p, .string s] w fun e w' => e = .returned (.tuple #[.agg (bytes (blk s.data.toList)).toArray, .bool r]) ∧ Below w.heap.size w w' := by
  obtain ⟨O, hOO⟩ : ∃ O : List UInt8, O = List.replicate 60 0 := ⟨_, rfl⟩
  obtain ⟨B, hB⟩ : ∃ B, B = bytes (blk s.data.toList) := ⟨_, rfl⟩
  obtain ⟨X, hX⟩ : ∃ X, X = str (s.data.toList.drop 60) := ⟨_, rfl⟩
  have HZ0 : Hid (∀ u, (zeroValue 23).run Try.prog u = .ok (.agg (bytes O).toArray) u) := Lib.hid (by rw [hOO]; exact tag_zero)
  have LB : Hid (B.length = 60) := Lib.hid (by rw [hB, bytes_length, blk_length])
  have LO : Hid ((bytes O).length = 60) := Lib.hid (by rw [hOO, bytes_length, List.length_replicate])
  have HB1 : Hid (B.all (·.oneCell') = true) := Lib.hid (by rw [hB]; exact bytes_oneC _)
  have HF : Hid (∀ u, Calls Try.prog 21 #[.string s] u fun e w' => e = .returned (.tuple #[.agg B.toArray, .string X]) ∧ Below u.heap.size u w') := Lib.hid fun u => by rw [hB, hX]; exact tag_first_any s u hs
  have HO := Lib.hid hO
  rw [← hB]
  have HR := Lib.hid hr
  obtain ⟨a, ha⟩ : ∃ a, a = decide (n = 0) := ⟨_, rfl⟩
  obtain ⟨c, hc⟩ : ∃ c, c = decide (s.size = 64) := ⟨_, rfl⟩
  have HRR : Hid (r = (a && c)) := Lib.hid (by rw [hr, ha, hc])
  have h1 : (n == 0) = a := by rw [ha]; by_cases h : n = 0 <;> simp [h]
  have h2 : ((s.size : Int) == 64) = c := by
    rw [hc]
    by_cases h : s.size = 64
    · simp [h]
    · have h' : ¬ (s.size : Int) = 64 := by omega
      simp [h, h']
  clear hOO hB hX hO hr ha hc HR
  cases a
  all_goals cases c
  all_goals
    have hrv := HRR.out
    simp at hrv
    subst hrv
    go_enter Try.func9, Try.ntmps9
    go_wp2_with (first
      | ((with_reducible refine wpAllocK (w := w) (bytes O) 23 HZ0.out ?_ ?_); rfl; intro u1 r1 b1 s1; have R1 := Lib.hid r1; have B1 := Lib.hid b1; have S1 := Lib.hid s1; clear r1 b1 s1)
      | (go_at_call 20; (with_reducible refine (HO.out u1 B1.out).mono ?_); rintro e u2 ⟨rfl, b2⟩; have B2 : Hid (Below w.heap.size w u2) := Lib.hid (B1.out.next b2); have R2 := Lib.hid (R1.out.step b2); clear b2)
      | (go_at_call 21; (with_reducible refine (HF.out u2).mono ?_); rintro e u3 ⟨rfl, b3⟩; have B3 : Hid (Below w.heap.size w u3) := Lib.hid (B2.out.next b3); have R3 := Lib.hid (R2.out.step b3); clear b3)
      | ((with_reducible refine wpAllocK (w := u3) (bytes O) 23 HZ0.out ?_ ?_); rfl; intro u4 r4 b4 s4; have Q4 := Lib.hid r4; have B4 : Hid (Below w.heap.size w u4) := Lib.hid (B3.out.next b4); have R4 := Lib.hid (R3.out.step b4); have S4 := Lib.hid s4; clear r4 b4 s4)
      | ((with_reducible refine Q4.out.wpStoreK 23 B fits_block LO.out LB.out HB1.out ?_ ?_); rfl; intro u5 r5 o5 s5; have Q5 := Lib.hid r5; have B5 : Hid (Below w.heap.size w u5) := Lib.hid (B4.out.trans (o5.below B3.out.size B4.out.size)); have R5 := Lib.hid (R4.out.only o5 (by have := S1.out; have := R3.out.lt; omega)); clear r5 o5 s5)
      | ((with_reducible refine Q5.out.wpLoadK 23 fits_block LB.out ?_ ?_); rfl)
      | ((with_reducible refine R5.out.wpStoreK 23 B fits_block LO.out LB.out HB1.out ?_ ?_); rfl; intro u6 r6 o6 s6; have R6 := Lib.hid r6; have B6 : Hid (Below w.heap.size w u6) := Lib.hid (B5.out.trans (o6.below (Nat.le_refl _) B5.out.size)); clear r6 o6 s6))
    exact bodyPost_ret (R6.out.resultT rfl _ _ rfl Try.underlying23 rfl (by rw [LB.out]; exact fits_block.size)) rfl ⟨rfl, B6.out⟩

theorem tag_open_any (b : Nat) (s : ByteArray) (w : World) (ht : Tab w b 0) (hb : b < w.heap.size) (hs : s.size ≤ 140737488355328) :
    Calls Try.prog 9 #[.pointer (some ⟨b, 0, none⟩), .string s] w fun e w' => e = .returned (.tuple #[.agg (bytes (blk s.data.toList)).toArray, .bool (rightT s.data.toList)]) ∧ Below w.heap.size w w' :=
  tag_open_of _ _ _ s _ w hs (by rw [rightT, size_list]) fun u hu => open_any b s u (ht.below hu hb) (Nat.lt_of_lt_of_le hb hu.size) hs
theorem tag_open_none (s : ByteArray) (w : World) (hs : s.size ≤ 140737488355328) :
    Calls Try.prog 9 #[.pointer none, .string s] w fun e w' => e = .returned (.tuple #[.agg (bytes (blk s.data.toList)).toArray, .bool false]) ∧ Below w.heap.size w w' :=
  tag_open_of _ ByteArray.empty 1 s _ w hs (by simp) fun u hu => (open_none s u).mono fun e w' h => ⟨h.1, h.2 ▸ Below.refl _ _⟩
end Go.Proofs.Ytmffkfgcopaoeaa
