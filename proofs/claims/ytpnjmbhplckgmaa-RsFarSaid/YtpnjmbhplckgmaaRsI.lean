/- The document's example (awake); RsNone's walk. -/
import Derived.Test.YtpnjmbhplckgmaaRsH
namespace Go.Proofs.Ytpnjmbhplckgmaa
open Go.RowKit GfMath PolyMath RsMath
set_option linter.unusedVariables false

theorem code_12 : (code [1, 2] 2).take 2 = [1, 2] := by decide +kernel
theorem wrong_12 : allz (vals [1, 2, 0, 0] 2) = false := by decide +kernel
theorem by_12 : By [1, 2] := by_two (by omega) (by omega)

theorem laid_four (x y z t : Nat) (w : World) (ty : TypeId) : Lies (w.alloc (.cells #[.int .u8 (x : Int), .int .u8 (y : Int), .int .u8 (z : Int), .int .u8 (t : Int)] ty)) (w.alloc (.cells #[.int .u8 (x : Int), .int .u8 (y : Int), .int .u8 (z : Int), .int .u8 (t : Int)] ty)).heap.size (some ⟨w.heap.size, 0, none⟩) (u8s [x, y, z, t]) := Lies.new [_, _, _, _] w ty

set_option maxRecDepth 100000 in
set_option maxHeartbeats 1000000 in
theorem rsAwake_any (w : World) : Calls Try.prog 8 #[] w fun e w' => e = .returned (.bool true) ∧ Below w.heap.size w w' := by
  obtain ⟨b, hb⟩ : ∃ b, b = w.heap.size := ⟨_, rfl⟩
  have HN : Hid (Calls Try.prog 10 #[] w fun e w' => e = .returned (.pointer (some ⟨b, 0, none⟩)) ∧ Fld w' b ∧ Below w.heap.size w w') := Lib.hid (by rw [hb]; exact gfNew_any w)
  have HC : Hid (∀ u, Fld u b → Calls Try.prog 9 #[.pointer (some ⟨b, 0, none⟩), .int .i64 4, .int .i64 2] u fun e w' => (∃ c, e = .returned (.tuple #[.pointer (some ⟨c, 0, none⟩), .int .i64 0]) ∧ Cod w' c b 2 2) ∧ Below u.heap.size u w') := Lib.hid fun u h => rsNew_any b 2 2 u h (by omega) (by omega) (by omega) (by omega)
  have HE : Hid (∀ (u : World) (c : Nat), Cod u c b 2 2 → Calls Try.prog 13 #[.pointer (some ⟨c, 0, none⟩), .slice (some ⟨u.heap.size, 0, none⟩) 2 2] (u.alloc (.cells #[.int .u8 1, .int .u8 2] 5)) fun e w' =>
      (∃ g c2, e = .returned (.tuple #[.slice (some ⟨g, 0, none⟩) 4 c2, .int .i64 0]) ∧ 4 ≤ c2 ∧ w'.cell? ⟨g, 0, none⟩ = some (.int .u8 1) ∧ w'.cell? ⟨g, 1, none⟩ = some (.int .u8 2) ∧ Lies w' w'.heap.size (some ⟨g, 0, none⟩) (u8s (code [1, 2] 2)) ∧ Cod w' c b 2 2) ∧ Below u.heap.size u w') := Lib.hid fun u c h => by
    have hb1 := alloc_below u (.cells #[.int .u8 1, .int .u8 2] 5)
    refine (enc_any c b 2 2 (some ⟨u.heap.size, 0, none⟩) 2 [1, 2] _ (h.step hb1) rfl by_12 (by decide) (by omega) (laid_two 1 2 u _)).mono fun e w' ⟨⟨g, c2, h1, h2, h3⟩, h4⟩ => ?_
    have h5 := own_lies h3
    have h6 : ∀ j (hj : j < 2), w'.cell? ⟨g, j, none⟩ = some (.int .u8 (([1, 2] : List Nat)[j] : Int)) := fun j hj => by
      obtain ⟨g', o', e1, _, hc⟩ := h5.1 (by rw [u8s_length, code_length _ by_12]; decide)
      cases e1
      have h8 := hc j (.int .u8 (([1, 2] : List Nat)[j] : Int)) (by
        have h7 : (u8s ((code [1, 2] 2).take 2))[j]? = some (.int .u8 (([1, 2] : List Nat)[j] : Int)) := by rw [code_12]; exact u8s_get [1, 2] j hj
        rw [u8s, List.map_take, List.getElem?_take] at h7
        rwa [if_pos hj] at h7)
      rwa [Nat.zero_add] at h8
    exact ⟨⟨g, c2, h1, h5.2, h6 0 (by omega), h6 1 (by omega), h5.1, (h.step hb1).step h4⟩, hb1.next h4⟩
  have HR : Hid (∀ (u : World) (c g c2 : Nat), Cod u c b 2 2 → 4 ≤ c2 → Lies u u.heap.size (some ⟨g, 0, none⟩) (u8s (code [1, 2] 2)) → Calls Try.prog 15 #[.pointer (some ⟨c, 0, none⟩), .slice (some ⟨g, 0, none⟩) 4 c2] u fun e w' => e = .returned (.bool true) ∧ Below u.heap.size u w') := Lib.hid fun u c g c2 h h2 h3 => by
    obtain ⟨a', cap', hcor, _⟩ := h.cor
    have := right_any c b 2 2 _ (some ⟨g, 0, none⟩) c2 (code [1, 2] 2) u hcor (by omega) (by rw [code_length _ by_12]; rfl) (code_by _ by_12 2) (by rw [code_length _ by_12]; exact h2) h3
    rwa [code_right by_12 2] at this
  have HW : Hid (∀ (u : World) (c : Nat), Cod u c b 2 2 → Calls Try.prog 15 #[.pointer (some ⟨c, 0, none⟩), .slice (some ⟨u.heap.size, 0, none⟩) 4 4] (u.alloc (.cells #[.int .u8 1, .int .u8 2, .int .u8 0, .int .u8 0] 5)) fun e w' => e = .returned (.bool false) ∧ Below u.heap.size u w') := Lib.hid fun u c h => by
    have hb1 := alloc_below u (.cells #[.int .u8 1, .int .u8 2, .int .u8 0, .int .u8 0] 5)
    obtain ⟨a', cap', hcor, _⟩ := (h.step hb1).cor
    have := right_any c b 2 2 _ (some ⟨u.heap.size, 0, none⟩) 4 [1, 2, 0, 0] _ hcor (by omega) rfl (by intro x hx; simp at hx; omega) (by decide) (laid_four 1 2 0 0 u _)
    rw [wrong_12] at this
    exact this.mono fun e w' h => ⟨h.1, hb1.next h.2⟩
  clear hb
  go_enter Try.func8, Try.ntmps8
  go_wp2_with (first
    | (go_at_call 10; (with_reducible refine HN.out.mono ?_); rintro e u1 ⟨rfl, f1, b1⟩; have F1 := Lib.hid f1; have B1 := Lib.hid b1; clear f1 b1)
    | (go_at_call 9; (with_reducible refine (HC.out u1 F1.out).mono ?_); rintro e u2 ⟨⟨c, rfl, h2⟩, b2⟩; have C2 := Lib.hid h2; have B2 := Lib.hid (B1.out.next b2); clear h2 b2)
    | (go_at_call 13; (with_reducible refine (HE.out u2 c C2.out).mono ?_); rintro e u3 ⟨⟨g, c2, rfl, h4, q0, q1, l3, d3⟩, b3⟩; have C3 := Lib.hid d3; have L3 := Lib.hid l3; have H4 := Lib.hid h4; have B3 := Lib.hid (B2.out.next b3); clear d3 l3 b3 h4)
    | (go_at_call 15; (with_reducible refine (HR.out u3 c g c2 C3.out H4.out L3.out).mono ?_); rintro e u4 ⟨rfl, b4⟩; have C4 := Lib.hid (C3.out.step b4); have B4 := Lib.hid (B3.out.next b4); clear b4)
    | (go_at_call 15; (with_reducible refine (HW.out u4 c C4.out).mono ?_); rintro e u5 ⟨rfl, b5⟩; have B5 := Lib.hid (B4.out.next b5); clear b5))
  go_ret
  exact ⟨rfl, B5.out⟩

set_option maxRecDepth 100000 in
theorem rsNone_walk (a : Option Addr) (cap : Nat) (n : Nat) (w : World) : Calls Try.prog 6 #[.slice a n cap] w fun e w' => e = .returned (.bool true) ∧ Below w.heap.size w w' := by
  have HA := Lib.hid (rsAwake_any w)
  go_enter Try.func6, Try.ntmps6
  go_wp2_with (first
    | (go_at_call 8; (with_reducible refine HA.out.mono ?_); rintro e u1 ⟨rfl, b1⟩; have B1 := Lib.hid b1; clear b1)
    | (go_at_call 12; (with_reducible refine (size_nil u1).mono ?_); rintro e u2 ⟨rfl, rfl⟩)
    | (go_at_call 14; (with_reducible refine (par_nil _ u1).mono ?_); rintro e u2 ⟨rfl, rfl⟩)
    | (go_at_call 13; (with_reducible refine (enc_nil _ u1).mono ?_); rintro e u2 ⟨rfl, rfl⟩)
    | (go_at_call 17; (with_reducible refine (syn_nil a n cap u1).mono ?_); rintro e u2 ⟨rfl, b2⟩; have B2 := Lib.hid (B1.out.next b2); clear b2)
    | (go_at_call 15; (with_reducible refine (right_nil a n cap u2).mono ?_); rintro e u3 ⟨rfl, b3⟩; have B3 := Lib.hid (B2.out.next b3); clear b3)
    | (go_at_call 20; (with_reducible refine (over_nil u3).mono ?_); rintro e u4 ⟨rfl, rfl⟩))
  go_ret
  exact ⟨rfl, B3.out⟩

end Go.Proofs.Ytpnjmbhplckgmaa
