/- Number and Version of the program. -/
import Derived.Test.YtpeofjlecgenbaaRecB
import Derived.Test.YtpeofjlecgenbaaResT
namespace Go.Proofs.Ytpeofjlecgenbaa
open Go.RowKit CrcMath NumMath
set_option linter.unusedVariables false
set_option maxRecDepth 100000

def vcv (a b c : Int) : List Value := [.int .i64 a, .int .i64 b, .int .i64 c]
theorem arrayAt_three (a : Option Addr) (cap : Nat) (w : World) : (Instr.arrayAt 51 (.slice a 3 cap)).run Try.prog w = .ok (.pointer a) w := by
  simp [Instr.arrayAt, run_underlying Try.underlying51]
theorem fits_rver : Fits Try.prog 51 3 := ⟨⟨_, Try.underlying51, rfl⟩, by kernel_rfl⟩
theorem zero_rver : ∀ u, (zeroValue 51).run Try.prog u = .ok (.agg (vcv 0 0 0).toArray) u := fun u => by kernel_rfl
theorem fitB_two (x : Int) : fitB 2 x = decide (0 ≤ x ∧ x < 65536) := by
  have f2 : (256 : Int) ^ (2 : Nat) = 65536 := rfl
  unfold fitB
  rw [show ((2 : Int).toNat) = 2 from rfl, f2]
theorem fitB_six (x : Int) : fitB 6 x = decide (0 ≤ x ∧ x < 281474976710656) := by
  have f6 : (256 : Int) ^ (6 : Nat) = 281474976710656 := rfl
  unfold fitB
  rw [show ((6 : Int).toNat) = 6 from rfl, f6]
theorem fitAll_ver (a b c : Int) : fitAll 2 [a, b, c] = vOk a b c := by
  simp only [fitAll, List.all_cons, List.all_nil, Bool.and_true, fitB_two, vOk]
  rw [← Bool.decide_and, ← Bool.decide_and, decide_eq_decide]
  omega
def verB' (a b c : Int) : List UInt8 := be 2 a.toNat ++ be 2 b.toNat ++ be 2 c.toNat
theorem putR_v {a b c : Int} (h : vOk a b c = true) : putR 2 [a, b, c] = (verB' a b c, 0) := by
  rw [putR_ok (okB_yes (by omega) (by omega)) (by rw [fitAll_ver, h])]
  simp [putBytes, verB']
theorem putR_vno {a b c : Int} (h : vOk a b c = false) : putR 2 [a, b, c] = ([], 2) := putR_range (okB_yes (by omega) (by omega)) (by rw [fitAll_ver, h])
theorem verB'_length (a b c : Int) : (verB' a b c).length = 6 := by simp [verB', be_length]
theorem takeR_v {a b c : Int} (h : vOk a b c = true) : takeR (verB' a b c) [6] = ([numV a b c], 0) := by
  rw [takeR_ok (by decide) (by rw [verB'_length]; decide), verB', nnums_one h]
theorem takeR_n {n : Int} (h : 0 ≤ n ∧ n < 281474976710656) : takeR (be 6 n.toNat) [2, 2, 2] = ([verA n, verB n, verC n], 0) := by
  rw [takeR_ok (by decide) (by rw [be_length]; decide), nnums_three h]

set_option maxHeartbeats 1000000 in
theorem number_yes (a b c : Int) (w : World) (hok : vOk a b c = true) :
    Calls Try.prog 22 #[.agg (vcv a b c).toArray] w fun e w' => e = .returned (.tuple #[.int .i64 (numV a b c), .bool true]) ∧ Below w.heap.size w w' := by
  obtain ⟨T, hT⟩ : ∃ T, str (verB' a b c) = T := ⟨_, rfl⟩
  obtain ⟨N, hN⟩ : ∃ N, numV a b c = N := ⟨_, rfl⟩
  have HP : Hid (∀ u g t, Row u g t (vcv a b c) → Calls Try.prog 45 #[.int .i64 2, .slice (some ⟨g, 0, none⟩) 3 3] u fun e u' => e = .returned (.tuple #[.string T, .int .i64 0]) ∧ Below u.heap.size u u') := Lib.hid fun u g t r => by
    rw [← hT]
    exact put_at 2 _ 3 3 [a, b, c] _ 0 u rfl (putR_v hok) (by omega) (fun _ => ⟨g, 0, rfl, r.lt, fun j v hj => by rw [Nat.zero_add, r.cell]; exact hj⟩)
  have HK : Hid (∀ u, Calls Try.prog 28 #[.string T, .slice (some ⟨u.heap.size, 0, none⟩) 1 1] (u.alloc (.cells #[.int .i64 6] 3)) fun e u' => ∃ g cap, e = .returned (.tuple #[.slice (some ⟨g, 0, none⟩) 1 cap, .int .i64 0]) ∧ u'.cell? ⟨g, 0, none⟩ = some (.int .i64 N) ∧ Below u.heap.size u u') := Lib.hid fun u => by
    refine (num_take_new T (verB' a b c) _ 1 1 [6] [numV a b c] 0 (u.alloc (.cells #[.int .i64 6] 3)) (by rw [← hT, str_list]) (by rw [← hT, str_size, verB'_length]; omega) rfl (takeR_v hok) (by simp) (by omega) (Lies.new (ints [6]) u 3)).mono fun e u' h => ?_
    obtain ⟨g, cap, ys, h1, h2, h3, h4, h5⟩ := h
    exact ⟨g, cap, h1, by rw [← hN]; exact (h4.cell 0), (alloc_below u _).next h5⟩
  rw [hN]
  obtain ⟨V, hV⟩ : ∃ V, vcv a b c = V := ⟨_, rfl⟩
  rw [hV] at HP ⊢
  clear hV hT hN hok
  go_enter Try.func22, Try.ntmps22
  go_wp2_with (first
    | ((with_reducible refine wpBoxK V 51 ?_ ?_); rfl; intro u1 r1 b1 s1; have R1 := Lib.hid r1; have B1 := Lib.hid b1; clear r1 b1 s1)
    | (go_at_call 45; (with_reducible refine (HP.out u1 _ _ R1.out).mono ?_); rintro e u2 ⟨rfl, b2⟩; have B2 : Hid (Below w.heap.size w u2) := Lib.hid (B1.out.next b2); clear b2)
    | (go_at_call 28; (with_reducible refine (HK.out u2).mono ?_); rintro e u3 ⟨g, cap, rfl, hcl, b3⟩; have B3 : Hid (Below w.heap.size w u3) := Lib.hid (B2.out.next b3); clear b3))
  go_ret2
  exact ⟨rfl, B3.out⟩

set_option maxHeartbeats 1000000 in
theorem number_no (a b c : Int) (w : World) (hok : vOk a b c = false) :
    Calls Try.prog 22 #[.agg (vcv a b c).toArray] w fun e w' => e = .returned (.tuple #[.int .i64 0, .bool false]) ∧ Below w.heap.size w w' := by
  have HP : Hid (∀ u g t, Row u g t (vcv a b c) → Calls Try.prog 45 #[.int .i64 2, .slice (some ⟨g, 0, none⟩) 3 3] u fun e u' => e = .returned (.tuple #[.string (str []), .int .i64 2]) ∧ Below u.heap.size u u') := Lib.hid fun u g t r =>
    put_at 2 _ 3 3 [a, b, c] _ 2 u rfl (putR_vno hok) (by omega) (fun _ => ⟨g, 0, rfl, r.lt, fun j v hj => by rw [Nat.zero_add, r.cell]; exact hj⟩)
  obtain ⟨V, hV⟩ : ∃ V, vcv a b c = V := ⟨_, rfl⟩
  rw [hV] at HP ⊢
  clear hV hok
  go_enter Try.func22, Try.ntmps22
  go_wp2_with (first
    | ((with_reducible refine wpBoxK V 51 ?_ ?_); rfl; intro u1 r1 b1 s1; have R1 := Lib.hid r1; have B1 := Lib.hid b1; clear r1 b1 s1)
    | (go_at_call 45; (with_reducible refine (HP.out u1 _ _ R1.out).mono ?_); rintro e u2 ⟨rfl, b2⟩; have B2 : Hid (Below w.heap.size w u2) := Lib.hid (B1.out.next b2); clear b2))
  go_ret2
  exact ⟨rfl, B2.out⟩
def numR (a b c : Int) : Int := if vOk a b c then numV a b c else 0
theorem number_any (a b c : Int) (w : World) :
    Calls Try.prog 22 #[.agg (vcv a b c).toArray] w fun e w' => e = .returned (.tuple #[.int .i64 (numR a b c), .bool (vOk a b c)]) ∧ Below w.heap.size w w' := by
  unfold numR
  cases h : vOk a b c with
  | true => exact number_yes a b c w h
  | false => exact number_no a b c w h

set_option maxHeartbeats 1000000 in
theorem version_yes (n : Int) (w : World) (hn : 0 ≤ n ∧ n < 281474976710656) :
    Calls Try.prog 23 #[.int .i64 n] w fun e w' => e = .returned (.tuple #[.agg (vcv (verA n) (verB n) (verC n)).toArray, .bool true]) ∧ Below w.heap.size w w' := by
  obtain ⟨T, hT⟩ : ∃ T, str (be 6 n.toNat) = T := ⟨_, rfl⟩
  have HP : Hid (∀ u, Calls Try.prog 45 #[.int .i64 6, .slice (some ⟨u.heap.size, 0, none⟩) 1 1] (u.alloc (.cells #[.int .i64 n] 3)) fun e u' => e = .returned (.tuple #[.string T, .int .i64 0]) ∧ Below u.heap.size u u') := Lib.hid fun u => by
    rw [← hT]
    exact (put_at 6 _ 1 1 [n] _ 0 (u.alloc (.cells #[.int .i64 n] 3)) rfl (by rw [putR_ok (okB_yes (by omega) (by omega)) (by simp only [fitAll, List.all_cons, List.all_nil, Bool.and_true, fitB_six, decide_eq_true_eq]; exact hn)]; simp [putBytes]) (by omega) (Lies.new (ints [n]) u 3)).mono fun e u' h => ⟨h.1, (alloc_below u _).next h.2⟩
  obtain ⟨V, hV⟩ : ∃ V, vcv (verA n) (verB n) (verC n) = V := ⟨_, rfl⟩
  have HK : Hid (∀ u, Calls Try.prog 28 #[.string T, .slice (some ⟨u.heap.size, 0, none⟩) 3 3] (u.alloc (.cells #[.int .i64 2, .int .i64 2, .int .i64 2] 3)) fun e u' => ∃ g cap, e = .returned (.tuple #[.slice (some ⟨g, 0, none⟩) 3 cap, .int .i64 0]) ∧ u'.rangeAt g 0 V ∧ Below u.heap.size u u') := Lib.hid fun u => by
    refine (num_take_new T (be 6 n.toNat) _ 3 3 [2, 2, 2] [verA n, verB n, verC n] 0 (u.alloc (.cells #[.int .i64 2, .int .i64 2, .int .i64 2] 3)) (by rw [← hT, str_list]) (by rw [← hT, str_size, be_length]; omega) rfl (takeR_n hn) (by simp) (by omega) (Lies.new (ints [2, 2, 2]) u 3)).mono fun e u' h => ?_
    obtain ⟨g, cap, ys, h1, h2, h3, h4, h5⟩ := h
    exact ⟨g, cap, h1, by rw [← hV]; exact Row.mid (x := []) (y := vcv (verA n) (verB n) (verC n)) (z := ys) h4 0 rfl, (alloc_below u _).next h5⟩
  have LV : Hid (V.length = 3) := Lib.hid (by rw [← hV]; rfl)
  have V1 : Hid (V.all (·.oneCell') = true) := Lib.hid (by rw [← hV]; rfl)
  rw [hV]
  clear hV hT hn
  go_enter Try.func23, Try.ntmps23
  go_wp2_with (first
    | ((with_reducible refine wpAllocK (w := w) (vcv 0 0 0) 51 zero_rver ?_ ?_); rfl; intro u1 r1 b1 s1; have R1 := Lib.hid r1; have B1 := Lib.hid b1; clear r1 b1 s1)
    | (go_at_call 45; (with_reducible refine (HP.out u1).mono ?_); rintro e u2 ⟨rfl, b2⟩; have R2 := Lib.hid (R1.out.step b2); have B2 : Hid (Below w.heap.size w u2) := Lib.hid (B1.out.next b2); clear b2)
    | (go_at_call 28; (with_reducible refine (HK.out u2).mono ?_); rintro e u3 ⟨g, cap, rfl, hrg, b3⟩; have HRG := Lib.hid hrg; have harr := arrayAt_three (some ⟨g, 0, none⟩) cap; have R3 := Lib.hid (R2.out.step b3); have B3 : Hid (Below w.heap.size w u3) := Lib.hid (B2.out.next b3); clear b3 hrg)
    | ((with_reducible refine wpLoadRK HRG.out 51 fits_rver LV.out ?_ ?_); rfl)
    | ((with_reducible refine R3.out.wpStoreK 51 V fits_rver rfl LV.out V1.out ?_ ?_); rfl; intro u4 r4 o4 s4; have R4 := Lib.hid r4; have B4 : Hid (Below w.heap.size w u4) := Lib.hid (B3.out.trans (o4.below (Nat.le_refl _) B3.out.size)); clear r4 o4 s4))
  exact bodyPost_ret (R4.out.resultT rfl _ _ rfl Try.underlying51 rfl (by rw [LV.out]; exact fits_rver.size)) rfl ⟨rfl, B4.out⟩

set_option maxHeartbeats 1000000 in
theorem version_no (n : Int) (w : World) (hn : ¬ (0 ≤ n ∧ n < 281474976710656)) :
    Calls Try.prog 23 #[.int .i64 n] w fun e w' => e = .returned (.tuple #[.agg (vcv 0 0 0).toArray, .bool false]) ∧ Below w.heap.size w w' := by
  have HP : Hid (∀ u, Calls Try.prog 45 #[.int .i64 6, .slice (some ⟨u.heap.size, 0, none⟩) 1 1] (u.alloc (.cells #[.int .i64 n] 3)) fun e u' => e = .returned (.tuple #[.string (str []), .int .i64 2]) ∧ Below u.heap.size u u') := Lib.hid fun u =>
    (put_at 6 _ 1 1 [n] _ 2 (u.alloc (.cells #[.int .i64 n] 3)) rfl (putR_range (okB_yes (by omega) (by omega)) (by simp only [fitAll, List.all_cons, List.all_nil, Bool.and_true, fitB_six, decide_eq_false_iff_not]; exact hn)) (by omega) (Lies.new (ints [n]) u 3)).mono fun e u' h => ⟨h.1, (alloc_below u _).next h.2⟩
  clear hn
  have HBU : Try.prog.built 51 [] = some (vcv 0 0 0).toArray := by kernel_rfl
  have HB := Lib.hid HBU
  clear HBU
  go_enter Try.func23, Try.ntmps23
  go_wp2_with (first
    | ((with_reducible refine wpAllocK (w := w) (vcv 0 0 0) 51 zero_rver ?_ ?_); rfl; intro u1 r1 b1 s1; have R1 := Lib.hid r1; have B1 := Lib.hid b1; clear r1 b1 s1)
    | (go_at_call 45; (with_reducible refine (HP.out u1).mono ?_); rintro e u2 ⟨rfl, b2⟩; have R2 := Lib.hid (R1.out.step b2); have B2 : Hid (Below w.heap.size w u2) := Lib.hid (B1.out.next b2); clear b2)
    | ((with_reducible refine wpBuildZeroK (vcv 0 0 0) 51 HB.out ?_ ?_); rfl)
    | ((with_reducible refine R2.out.wpStoreK 51 (vcv 0 0 0) fits_rver rfl rfl rfl ?_ ?_); rfl; intro u4 r4 o4 s4; have R4 := Lib.hid r4; have B4 : Hid (Below w.heap.size w u4) := Lib.hid (B2.out.trans (o4.below (Nat.le_refl _) B2.out.size)); clear r4 o4 s4))
  exact bodyPost_ret (R4.out.resultT rfl _ _ rfl Try.underlying51 rfl fits_rver.size) rfl ⟨rfl, B4.out⟩
def vIn (n : Int) : Bool := decide (0 ≤ n ∧ n < 281474976710656)
def verR (n : Int) : List Value := if vIn n then vcv (verA n) (verB n) (verC n) else vcv 0 0 0
theorem version_any (n : Int) (w : World) :
    Calls Try.prog 23 #[.int .i64 n] w fun e w' => e = .returned (.tuple #[.agg (verR n).toArray, .bool (vIn n)]) ∧ Below w.heap.size w w' := by
  unfold verR
  cases h : vIn n with
  | true => exact version_yes n w (by simpa [vIn] using h)
  | false => exact version_no n w (by simpa [vIn] using h)
end Go.Proofs.Ytpeofjlecgenbaa
