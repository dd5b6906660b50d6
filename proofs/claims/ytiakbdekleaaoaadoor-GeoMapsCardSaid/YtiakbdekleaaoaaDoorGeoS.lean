/- Numbers of one digit as texts; a slot's name; a part. -/
import Derived.Test.YtiakbdekleaaoaaDoorGeoB
import Derived.Test.YtiakbdekleaaoaaDoorGeoMath6
namespace Go.Proofs.YtiakbdekleaaoaaDoor
open Go.RowKit GeoMath
set_option linter.unusedVariables false
set_option maxRecDepth 100000

set_option maxHeartbeats 1000000 in
theorem small_any (n : Int) (w : World) (h0 : 0 ≤ n) (h9 : n ≤ 9) : Calls Tryd.prog 26 #[.int .i64 n] w fun e w' => e = .returned (.string (dg n)) ∧ w = w' := by
  have h : n = 0 ∨ n = 1 ∨ n = 2 ∨ n = 3 ∨ n = 4 ∨ n = 5 ∨ n = 6 ∨ n = 7 ∨ n = 8 ∨ n = 9 := by omega
  clear h0 h9
  rcases h with rfl | rfl | rfl | rfl | rfl | rfl | rfl | rfl | rfl | rfl
  all_goals
    go_enter Tryd.func26, Tryd.ntmps26
    go_wp2
    go_ret
    exact ⟨rfl, rfl⟩
theorem format_any (n : Int) (w : World) (h0 : 0 ≤ n) (h9 : n ≤ 9) : Calls Tryd.prog 25 #[.int .i64 n, .int .i64 10] w fun e w' => e = .returned (.string (dg n)) ∧ w = w' := by
  have HX := Lib.hid (small_any n w h0 h9)
  generalize dg n = T at HX ⊢
  go_enter Tryd.func25, Tryd.ntmps25
  go_wp2_with (go_at_call 26; (with_reducible refine HX.out.mono ?_); rintro e u1 ⟨rfl, rfl⟩)
  go_ret
  exact ⟨rfl, rfl⟩
theorem iitoa_any (n : Int) (w : World) (h0 : 0 ≤ n) (h9 : n ≤ 9) : Calls Tryd.prog 24 #[.int .i64 n] w fun e w' => e = .returned (.string (dg n)) ∧ w = w' := by
  have HX := Lib.hid (format_any n w h0 h9)
  generalize dg n = T at HX ⊢
  go_enter Tryd.func24, Tryd.ntmps24
  go_wp2_with (go_at_call 25; (with_reducible refine HX.out.mono ?_); rintro e u1 ⟨rfl, rfl⟩)
  go_ret
  exact ⟨rfl, rfl⟩
theorem itoa_any (n : Int) (w : World) (h0 : 0 ≤ n) (h9 : n ≤ 9) : Calls Tryd.prog 22 #[.int .i64 n] w fun e w' => e = .returned (.string (dg n)) ∧ w = w' := by
  have HX := Lib.hid (iitoa_any n w h0 h9)
  generalize dg n = T at HX ⊢
  go_enter Tryd.func22, Tryd.ntmps22
  go_wp2_with (go_at_call 24; (with_reducible refine HX.out.mono ?_); rintro e u1 ⟨rfl, rfl⟩)
  go_ret
  exact ⟨rfl, rfl⟩
theorem name_any (a : Int) (w : World) (h0 : 0 ≤ a) (h2 : a ≤ 2) : Calls Tryd.prog 21 #[.int .i64 a] w fun e w' => e = .returned (.string (nm a)) ∧ w = w' := by
  have h : a = 0 ∨ a = 1 ∨ a = 2 := by omega
  clear h0 h2
  rcases h with rfl | rfl | rfl
  all_goals
    go_enter Tryd.func21, Tryd.ntmps21
    go_wp2
    go_ret
    exact ⟨rfl, rfl⟩
theorem part_any (d p s c : Int) (w : World) (h0 : 0 ≤ c) (h1 : c - d ≤ 9) (hd : d ≤ 9) (hd1 : 0 ≤ d) : Calls Tryd.prog 23 #[.agg #[.int .i64 d, .int .i64 p, .int .i64 s], .int .i64 c] w fun e w' => e = .returned (.string (partT d c)) ∧ Below w.heap.size w w' := by
  by_cases h : c < d
  · have HP : Hid (partT d c = ⟨#[100]⟩ ++ dg c) := Lib.hid (if_pos h)
    have HX := Lib.hid fun w1 => itoa_any c w1 h0 (by omega)
    rw [HP.out]
    clear HP
    have hz : (dg c).size ≤ 9 := by rw [dg_size]; decide
    generalize dg c = T at HX hz ⊢
    go_enter Tryd.func23, Tryd.ntmps23
    go_wp2_with (first
      | ((with_reducible refine wpBoxK [Value.int .i64 d, .int .i64 p, .int .i64 s] 23 ?_ ?_); rfl; intro w1 r1 b1 s1; have c0 := r1.cell 0; have B1 := Lib.hid b1; clear r1 b1 s1)
      | (go_at_call 22; (with_reducible refine (HX.out w1).mono ?_); rintro e u1 ⟨rfl, rfl⟩))
    go_ret
    exact ⟨rfl, B1.out⟩
  · have HP : Hid (partT d c = ⟨#[112]⟩ ++ dg (c - d)) := Lib.hid (if_neg h)
    have HX := Lib.hid fun w1 => itoa_any (c - d) w1 (by omega) h1
    have hc : c ≤ 18 := by omega
    rw [HP.out]
    clear HP
    have hz : (dg (c - d)).size ≤ 9 := by rw [dg_size]; decide
    generalize dg (c - d) = T at HX hz ⊢
    go_enter Tryd.func23, Tryd.ntmps23
    go_wp2_with (first
      | ((with_reducible refine wpBoxK [Value.int .i64 d, .int .i64 p, .int .i64 s] 23 ?_ ?_); rfl; intro w1 r1 b1 s1; have c0 := r1.cell 0; have B1 := Lib.hid b1; clear r1 b1 s1)
      | (go_at_call 22; (with_reducible refine (HX.out w1).mono ?_); rintro e u1 ⟨rfl, rfl⟩))
    go_ret
    exact ⟨rfl, B1.out⟩
/-! The digit's text as the statement makes it. -/
set_option maxHeartbeats 2000000 in
theorem digit_any (n : Int) (w : World) (h0 : 0 ≤ n) (h9 : n ≤ 9) : Calls Tryd.prog 8 #[.int .i64 n] w fun e w' => e = .returned (.string (dg n)) ∧ Below w.heap.size w w' := by
  have hcv : ∀ l : List UInt8, l.length = 2 → (convert 31 9 (.slice (some ⟨w.heap.size, 0, none⟩) 2 2)).run Tryd.prog (w.alloc (.cells (bytes l).toArray 5)) = .ok (.string (str l)) (w.alloc (.cells (bytes l).toArray 5)) := fun l hl => by
    have h := Row.owns (base := w.heap.size) (ys := []) (cap := 2) (n := 2) (by rw [List.append_nil]; exact Row.new w 5 (bytes l)) (Nat.le_refl _) (by rw [bytes_length, hl]) (by simp) (Nat.le_refl _) (by unfold maxLen; omega)
    exact own_string h
  have hcw : ∀ (x y : Nat) (hx : x < 256) (hy : y < 256), (convert 31 9 (.slice (some ⟨w.heap.size, 0, none⟩) 2 2)).run Tryd.prog (w.alloc (.cells #[.int .u8 (x : Int), .int .u8 (y : Int)] 5)) = .ok (.string ⟨#[UInt8.ofNat x, UInt8.ofNat y]⟩) (w.alloc (.cells #[.int .u8 (x : Int), .int .u8 (y : Int)] 5)) := fun x y hx hy => by
    have h := hcv [UInt8.ofNat x, UInt8.ofNat y] rfl
    have e : (bytes [UInt8.ofNat x, UInt8.ofNat y]).toArray = #[.int .u8 (x : Int), .int .u8 (y : Int)] := by
      show #[Value.int .u8 ((UInt8.ofNat x).toNat : Int), Value.int .u8 ((UInt8.ofNat y).toNat : Int)] = _
      rw [UInt8.toNat_ofNat', UInt8.toNat_ofNat', Nat.mod_eq_of_lt hx, Nat.mod_eq_of_lt hy]
    rw [e] at h
    exact h
  have h : n = 0 ∨ n = 1 ∨ n = 2 ∨ n = 3 ∨ n = 4 ∨ n = 5 ∨ n = 6 ∨ n = 7 ∨ n = 8 ∨ n = 9 := by omega
  clear h0 h9 hcv
  rcases h with rfl | rfl | rfl | rfl | rfl | rfl | rfl | rfl | rfl | rfl
  · have hc : (convert 31 9 (.slice (some ⟨w.heap.size, 0, none⟩) 2 2)).run Tryd.prog (w.alloc (.cells #[.int .u8 48, .int .u8 48] 5)) = .ok (.string ⟨#[48, 48]⟩) (w.alloc (.cells #[.int .u8 48, .int .u8 48] 5)) := hcw 48 48 (by decide) (by decide)
    clear hcw
    go_enter Tryd.func8, Tryd.ntmps8
    go_wp2
    go_ret
    exact ⟨rfl, alloc_below _ _⟩
  · have hc : (convert 31 9 (.slice (some ⟨w.heap.size, 0, none⟩) 2 2)).run Tryd.prog (w.alloc (.cells #[.int .u8 48, .int .u8 49] 5)) = .ok (.string ⟨#[48, 49]⟩) (w.alloc (.cells #[.int .u8 48, .int .u8 49] 5)) := hcw 48 49 (by decide) (by decide)
    clear hcw
    go_enter Tryd.func8, Tryd.ntmps8
    go_wp2
    go_ret
    exact ⟨rfl, alloc_below _ _⟩
  · have hc : (convert 31 9 (.slice (some ⟨w.heap.size, 0, none⟩) 2 2)).run Tryd.prog (w.alloc (.cells #[.int .u8 48, .int .u8 50] 5)) = .ok (.string ⟨#[48, 50]⟩) (w.alloc (.cells #[.int .u8 48, .int .u8 50] 5)) := hcw 48 50 (by decide) (by decide)
    clear hcw
    go_enter Tryd.func8, Tryd.ntmps8
    go_wp2
    go_ret
    exact ⟨rfl, alloc_below _ _⟩
  · have hc : (convert 31 9 (.slice (some ⟨w.heap.size, 0, none⟩) 2 2)).run Tryd.prog (w.alloc (.cells #[.int .u8 48, .int .u8 51] 5)) = .ok (.string ⟨#[48, 51]⟩) (w.alloc (.cells #[.int .u8 48, .int .u8 51] 5)) := hcw 48 51 (by decide) (by decide)
    clear hcw
    go_enter Tryd.func8, Tryd.ntmps8
    go_wp2
    go_ret
    exact ⟨rfl, alloc_below _ _⟩
  · have hc : (convert 31 9 (.slice (some ⟨w.heap.size, 0, none⟩) 2 2)).run Tryd.prog (w.alloc (.cells #[.int .u8 48, .int .u8 52] 5)) = .ok (.string ⟨#[48, 52]⟩) (w.alloc (.cells #[.int .u8 48, .int .u8 52] 5)) := hcw 48 52 (by decide) (by decide)
    clear hcw
    go_enter Tryd.func8, Tryd.ntmps8
    go_wp2
    go_ret
    exact ⟨rfl, alloc_below _ _⟩
  · have hc : (convert 31 9 (.slice (some ⟨w.heap.size, 0, none⟩) 2 2)).run Tryd.prog (w.alloc (.cells #[.int .u8 48, .int .u8 53] 5)) = .ok (.string ⟨#[48, 53]⟩) (w.alloc (.cells #[.int .u8 48, .int .u8 53] 5)) := hcw 48 53 (by decide) (by decide)
    clear hcw
    go_enter Tryd.func8, Tryd.ntmps8
    go_wp2
    go_ret
    exact ⟨rfl, alloc_below _ _⟩
  · have hc : (convert 31 9 (.slice (some ⟨w.heap.size, 0, none⟩) 2 2)).run Tryd.prog (w.alloc (.cells #[.int .u8 48, .int .u8 54] 5)) = .ok (.string ⟨#[48, 54]⟩) (w.alloc (.cells #[.int .u8 48, .int .u8 54] 5)) := hcw 48 54 (by decide) (by decide)
    clear hcw
    go_enter Tryd.func8, Tryd.ntmps8
    go_wp2
    go_ret
    exact ⟨rfl, alloc_below _ _⟩
  · have hc : (convert 31 9 (.slice (some ⟨w.heap.size, 0, none⟩) 2 2)).run Tryd.prog (w.alloc (.cells #[.int .u8 48, .int .u8 55] 5)) = .ok (.string ⟨#[48, 55]⟩) (w.alloc (.cells #[.int .u8 48, .int .u8 55] 5)) := hcw 48 55 (by decide) (by decide)
    clear hcw
    go_enter Tryd.func8, Tryd.ntmps8
    go_wp2
    go_ret
    exact ⟨rfl, alloc_below _ _⟩
  · have hc : (convert 31 9 (.slice (some ⟨w.heap.size, 0, none⟩) 2 2)).run Tryd.prog (w.alloc (.cells #[.int .u8 48, .int .u8 56] 5)) = .ok (.string ⟨#[48, 56]⟩) (w.alloc (.cells #[.int .u8 48, .int .u8 56] 5)) := hcw 48 56 (by decide) (by decide)
    clear hcw
    go_enter Tryd.func8, Tryd.ntmps8
    go_wp2
    go_ret
    exact ⟨rfl, alloc_below _ _⟩
  · have hc : (convert 31 9 (.slice (some ⟨w.heap.size, 0, none⟩) 2 2)).run Tryd.prog (w.alloc (.cells #[.int .u8 48, .int .u8 57] 5)) = .ok (.string ⟨#[48, 57]⟩) (w.alloc (.cells #[.int .u8 48, .int .u8 57] 5)) := hcw 48 57 (by decide) (by decide)
    clear hcw
    go_enter Tryd.func8, Tryd.ntmps8
    go_wp2
    go_ret
    exact ⟨rfl, alloc_below _ _⟩
end Go.Proofs.YtiakbdekleaaoaaDoor
