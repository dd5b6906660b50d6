/- Contracts of flash: burn, reach, what an erase and a program do with a byte, work. (gen_fla_work.py) -/
import Derived.Test.YtgdfcfbccjdecaaFlaF
namespace Go.Proofs.Ytgdfcfbccjdecaa
open Go.RowKit FlaMath
set_option linter.unusedVariables false
set_option maxRecDepth 100000

def burnB (D : Dv) : Bool := D.lit && decide (wrap64 (D.left - 1) < 0)
def burned (D : Dv) : Dv := if D.lit then { D with left := wrap64 (D.left - 1) } else D
theorem burn_any (s : Sh) (D : Dv) (w : World) (h : Dev w s D) :
    Calls Try.prog 46 #[.pointer (some ⟨s.b, 0, none⟩)] w fun e w' => e = .returned (.bool (burnB D)) ∧ Dev w' s (burned D) ∧ Onl s.S w w' := by
  have h2 := h.c2
  have h3 := h.c3
  have HD := Lib.hid h
  have R0 : Hid (Row w s.b 58 (devL s D)) := Lib.hid h.row
  have HL : Hid (3 < (devL s D).length) := Lib.hid (by rw [devL_length]; decide)
  cases hl : D.lit with
  | false =>
    rw [hl] at h2
    have HB : Hid (burnB D = false) := Lib.hid (by rw [burnB, hl]; rfl)
    have HB2 : Hid (burned D = D) := Lib.hid (by rw [burned, hl]; rfl)
    clear h hl
    go_enter Try.func46, Try.ntmps46
    go_wp2
    go_ret
    exact ⟨ret_bool HB.out.symm, by rw [HB2.out]; exact HD.out, Onl.refl _ _⟩
  | true =>
    rw [hl] at h2
    obtain ⟨p, hp⟩ : ∃ p, wrap64 (D.left - 1) = p := ⟨_, rfl⟩
    have HB : Hid (burnB D = decide (p < 0)) := Lib.hid (by rw [burnB, hl, hp]; rfl)
    have HB2 : Hid (burned D = { D with left := p }) := Lib.hid (by rw [burned, hl, hp]; rfl)
    have HE : Hid ((devL s D).set 3 (.int .i64 p) = devL s { D with left := p }) := Lib.hid rfl
    obtain ⟨x, hx⟩ : ∃ x, D.left = x := ⟨_, rfl⟩
    rw [hx] at h3 hp
    clear h hl hx
    go_enter Try.func46, Try.ntmps46
    go_wp2_with ((with_reducible refine R0.out.wpStore1K 3 3 (.int .i64 p) finfo_int HL.out (int_cells _ _) (int_one _ _) ?_ ?_); (simp only [storeOf, Act.eval]; exact congrArg (fun z => some (_, _, Value.int .i64 z)) hp); intro w1 r1 o1 s1; have D1 := Lib.hid (HD.out.put { D with left := p } (by rw [← HE.out]; exact r1) o1 rfl rfl rfl); have O1 := Lib.hid o1; have h31 := D1.out.c3; clear r1 o1 s1)
    go_ret
    exact ⟨ret_bool HB.out.symm, by rw [HB2.out]; exact D1.out, Onl.of_only O1.out s.b_mem⟩

theorem reach_any (fb : Int) (m : Int) (n : Nat) (w : World) (hn : n ≤ 1000) :
    Calls Try.prog 47 #[.agg #[.int .i64 fb, .int .u8 m], .int .i64 (n : Int)] w fun e w' => e = .returned (.int .i64 (reach fb n : Int)) ∧ Below w.heap.size w w' := by
  have hq0 := Int.lt_tmod_of_pos fb (b := (n : Int) + 1) (by omega)
  have hq1 := Int.tmod_lt_of_pos fb (b := (n : Int) + 1) (by omega)
  have hre := reach_eq fb n
  obtain ⟨q, hq⟩ : ∃ q, fb.tmod ((n : Int) + 1) = q := ⟨_, rfl⟩
  rw [hq] at hq0 hq1 hre
  have w1 : wrap64 ((n : Int) + 1) = (n : Int) + 1 := by unfold wrap64; omega
  have w2 : wrap64 (q + n) = q + n := by unfold wrap64; omega
  have w3 : wrap64 (q + n + 1) = q + n + 1 := by unfold wrap64; omega
  have hz : ¬ (n : Int) + 1 = 0 := by omega
  have hle := reach_le fb n
  obtain ⟨r, hr⟩ : ∃ r, reach fb n = r := ⟨_, rfl⟩
  rw [hr] at hre hle ⊢
  have w4 : wrap64 (q : Int) = q := by unfold wrap64; omega
  have w5 : wrap64 (r : Int) = r := by unfold wrap64; omega
  clear hr hle hn hq0 hq1
  go_enter Try.func47, Try.ntmps47
  go_wp2_with ((with_reducible refine wpBoxK [Value.int .i64 fb, .int .u8 m] 34 ?_ ?_); rfl; intro u1 r1 b1 s1; have c1 := r1.cell 0; have B1 := Lib.hid b1; clear r1 b1 s1)
  go_ret
  exact ⟨rfl, B1.out⟩
end Go.Proofs.Ytgdfcfbccjdecaa
