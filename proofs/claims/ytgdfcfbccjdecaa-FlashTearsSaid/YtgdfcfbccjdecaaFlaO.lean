/- The document's example: awake. -/
import Derived.Test.YtgdfcfbccjdecaaFlaN
namespace Go.Proofs.Ytgdfcfbccjdecaa
open Go.RowKit FlaMath
set_option linter.unusedVariables false
set_option maxRecDepth 100000

theorem frep (c : UInt8) (w : World) : Calls Try.prog 11 #[.string { data := #[c] }, .int .i64 16] w fun e w' => e = .returned (.string (str (List.replicate 16 c))) ∧ Below w.heap.size w w' := by
  have := Try.strings_Repeat { data := #[c] } 16 w (by omega) (by show 1 * 16 ≤ _; omega)
  exact this
def l15 : List UInt8 := List.replicate 16 15
def l60 : List UInt8 := List.replicate 16 60
theorem aw1 : programE (D0 2) 16 l15 = 0 := by kernel_rfl
theorem aw2 : programE (programD (D0 2) 16 l15) 16 l60 = 0 := by kernel_rfl
theorem aw3 : readE (programD (programD (D0 2) 16 l15) 16 l60) 16 16 = 0 := by kernel_rfl
theorem aw4 : readS (programD (programD (D0 2) 16 l15) 16 l60) 16 16 = List.replicate 16 12 := by kernel_rfl
set_option maxHeartbeats 1000000 in
theorem flash_awake (w : World) :
    Calls Try.prog 7 #[] w fun e w' => e = .returned (.bool true) ∧ Below w.heap.size w w' := by
  have HN : Hid (Calls Try.prog 9 #[.int .i64 2] w fun e w' => ∃ s : Sh, e = .returned (.tuple #[.pointer (some ⟨s.b, 0, none⟩), .int .i64 0]) ∧ Dev w' s (D0 2) ∧ (∀ k ∈ s.S, w.heap.size ≤ k) ∧ Below w.heap.size w w') := Lib.hid (flnew_any 2 w (by omega) (by omega))
  have H15 : Hid (∀ w1, Calls Try.prog 11 #[.string { data := #[15] }, .int .i64 16] w1 fun e w' => e = .returned (.string (str l15)) ∧ Below w1.heap.size w1 w') := Lib.hid (frep 15)
  have H60 : Hid (∀ w1, Calls Try.prog 11 #[.string { data := #[60] }, .int .i64 16] w1 fun e w' => e = .returned (.string (str l60)) ∧ Below w1.heap.size w1 w') := Lib.hid (frep 60)
  obtain ⟨L12, hL12⟩ : ∃ L, List.replicate 16 (12 : UInt8) = L := ⟨_, rfl⟩
  have H12 : Hid (∀ w1, Calls Try.prog 11 #[.string { data := #[12] }, .int .i64 16] w1 fun e w' => e = .returned (.string (str L12)) ∧ Below w1.heap.size w1 w') := Lib.hid (by rw [← hL12]; exact frep 12)
  have a4 := aw4
  rw [hL12] at a4
  have a1 := aw1
  have a2 := aw2
  have a3 := aw3
  obtain ⟨D1, hD1⟩ : ∃ D, D0 2 = D := ⟨_, rfl⟩
  obtain ⟨A, hA⟩ : ∃ L, l15 = L := ⟨_, rfl⟩
  obtain ⟨B, hB⟩ : ∃ L, l60 = L := ⟨_, rfl⟩
  have sA : (str A).size ≤ 140737488355328 := by rw [← hA]; decide
  have sB : (str B).size ≤ 140737488355328 := by rw [← hB]; decide
  rw [hD1] at HN
  rw [hA] at H15
  rw [hB] at H60
  rw [hD1, hA, hB] at a2 a3 a4
  rw [hD1, hA] at a1
  clear hD1 hA hB hL12
  have HP1 : Hid (∀ s w1, Dev w1 s D1 → Calls Try.prog 10 #[.pointer (some ⟨s.b, 0, none⟩), .int .i64 16, .string (str A)] w1 fun e w' => e = .returned (.int .i64 0) ∧ Dev w' s (programD D1 16 A) ∧ Onl s.S w1 w') := Lib.hid fun s w1 h => by
    have := program_any s D1 16 (str A) w1 h (by decide) sA
    rwa [str_list, a1] at this
  have HP2 : Hid (∀ s w1, Dev w1 s (programD D1 16 A) → Calls Try.prog 10 #[.pointer (some ⟨s.b, 0, none⟩), .int .i64 16, .string (str B)] w1 fun e w' => e = .returned (.int .i64 0) ∧ Dev w' s (programD (programD D1 16 A) 16 B) ∧ Onl s.S w1 w') := Lib.hid fun s w1 h => by
    have := program_any s _ 16 (str B) w1 h (by decide) sB
    rwa [str_list, a2] at this
  have HRD : Hid (∀ s w1, Dev w1 s (programD (programD D1 16 A) 16 B) → Calls Try.prog 14 #[.pointer (some ⟨s.b, 0, none⟩), .int .i64 16, .int .i64 16] w1 fun e w' => e = .returned (.tuple #[.string (str L12), .int .i64 0]) ∧ Onl s.S w1 w') := Lib.hid fun s w1 h => by
    have := read_any s _ 16 16 w1 h (by decide)
    rw [a3, a4] at this
    exact this.mono fun e w' h => ⟨h.1, h.2.2⟩
  obtain ⟨D2, hD2⟩ : ∃ D, programD D1 16 A = D := ⟨_, rfl⟩
  rw [hD2] at HP1 HP2 HRD
  obtain ⟨D3, hD3⟩ : ∃ D, programD D2 16 B = D := ⟨_, rfl⟩
  rw [hD3] at HP2 HRD
  have hbq : ((str L12).toList == (str L12).toList) = true := beq_self_eq_true _
  clear a1 a2 a3 a4 hD2 hD3 sA sB
  go_enter Try.func7, Try.ntmps7
  go_wp2_with (first
    | (go_at_call 9; (with_reducible refine HN.out.mono ?_); rintro e w1 ⟨s, rfl, d1, n1, b1⟩; have E1 := Lib.hid d1; have N1 := Lib.hid n1; have B1 := Lib.hid b1; clear d1 n1 b1)
    | (go_at_call 11; first
        | ((with_reducible refine (H15.out w1).mono ?_); rintro e w2 ⟨rfl, b2⟩; have E2 := Lib.hid (E1.out.step b2); have B2 := Lib.hid (B1.out.next b2); clear b2)
        | ((with_reducible refine (H60.out w3).mono ?_); rintro e w4 ⟨rfl, b4⟩; have E4 := Lib.hid (E3.out.step b4); have B4 := Lib.hid (B3.out.next b4); clear b4)
        | ((with_reducible refine (H12.out w6).mono ?_); rintro e w7 ⟨rfl, b7⟩; have B7 := Lib.hid (B6.out.next b7); clear b7))
    | (go_at_call 10; first
        | ((with_reducible refine (HP1.out s w2 E2.out).mono ?_); rintro e w3 ⟨rfl, d3, o3⟩; have E3 := Lib.hid d3; have B3 := Lib.hid (B2.out.trans (o3.below N1.out B2.out.size)); clear d3 o3)
        | ((with_reducible refine (HP2.out s w4 E4.out).mono ?_); rintro e w5 ⟨rfl, d5, o5⟩; have E5 := Lib.hid d5; have B5 := Lib.hid (B4.out.trans (o5.below N1.out B4.out.size)); clear d5 o5))
    | (go_at_call 14; (with_reducible refine (HRD.out s w5 E5.out).mono ?_); rintro e w6 ⟨rfl, o6⟩; have B6 := Lib.hid (B5.out.trans (o6.below N1.out B5.out.size)); clear o6))
  go_ret
  exact ⟨rfl, B7.out⟩
end Go.Proofs.Ytgdfcfbccjdecaa
