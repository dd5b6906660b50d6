/- The document's Find. -/
import Derived.Test.YtiakbdekleaaoaaGeoG
namespace Go.Proofs.Ytiakbdekleaaoaa
open Go.RowKit GeoMath
set_option linter.unusedVariables false
set_option maxRecDepth 100000

theorem plc_get (W S n k : Nat) (h : k < n) (j : Nat) (v : Value) (hj : (plv (pl W S k))[j]? = some v) : (plc W S n)[k * 4 + j]? = some v := by
  have hj4 : j < 4 := (List.getElem?_eq_some_iff.1 hj).1
  induction n with
  | zero => omega
  | succ n ih =>
    have hl : ∀ n, (plc W S n).length = n * 4 := fun n => by
      induction n with
      | zero => rfl
      | succ n ih => rw [plc_step, List.length_append, ih, Nat.add_mul]; rfl
    rw [plc_step]
    by_cases e : k < n
    · rw [List.getElem?_append_left (by rw [hl]; omega), ih e]
    · have e : k = n := by omega
      subst e
      rw [List.getElem?_append_right (by rw [hl]; omega), hl, Nat.add_sub_cancel_left, hj]
theorem plc_at {w : World} {W S n k bl off : Nat} (hc : ∀ j v, (plc W S n)[j]? = some v → w.cell? ⟨bl, off + j, none⟩ = some v) (h : k < n) : w.rangeAt bl (off + k * 4) (plv (pl W S k)) := by
  intro j v hj
  rw [Nat.add_assoc]
  exact hc _ _ (plc_get W S n k h j v hj)
theorem fits_place : Fits Try.prog 45 4 := ⟨⟨_, Try.underlying45, rfl⟩, by kernel_rfl⟩

set_option maxHeartbeats 2000000 in
theorem find_any (W S n : Nat) (a : Option Addr) (cap : Nat) (pw pa pb pc : Int) (w : World) (hl : Lies w w.heap.size a (plc W S n)) (hn : n ≤ 400) :
    Calls Try.prog 21 #[.slice a n cap, .agg #[.int .i64 pw, .int .i64 pa, .int .i64 pb, .int .i64 pc]] w fun e w' => (∃ r, e = .returned (.int .i64 r) ∧ IsAt W S n ⟨pw, pa, pb, pc⟩ r) ∧ Below w.heap.size w w' := by
  have HL := Lib.hid hl
  clear hl
  go_enter Try.func21, Try.ntmps21
  go_wp2_with ((with_reducible refine wpBoxK [Value.int .i64 pw, .int .i64 pa, .int .i64 pb, .int .i64 pc] 45 ?_ ?_); rfl; intro w1 r1 b1 s1; have R1 := Lib.hid r1; have B1 := Lib.hid b1; clear r1 b1 s1)
  go_loopw [5] (fun i wr => ∃ k : Nat, k ≤ n ∧ i = .int .i64 k ∧ (∃ nq, wr = w1.drewN nq) ∧ ∀ j, j < k → pl W S j ≠ ⟨pw, pa, pb, pc⟩) (fun i _ => n - (intOf i).toNat)
  case atStart => exact ⟨0, Nat.zero_le _, rfl, ⟨0, rfl⟩, fun j hj => by omega⟩
  case round =>
    obtain ⟨k, hk, rfl, ⟨nq, rfl⟩, hno⟩ := hrel
    have HNO := Lib.hid hno
    clear hno
    by_cases hlt : k < n
    · have e1 : (k : Int) < n := by omega
      obtain ⟨bl, off, rfl, hb, hc⟩ := HL.out (by
        have : (plc W S n)[k * 4 + 0]? = some (Value.int .i64 (pl W S k).w) := plc_get W S n k hlt 0 _ rfl
        have := (List.getElem?_eq_some_iff.1 this).1
        omega)
      have HR := plc_at (fun j v hj => ((B1.out.cell (p := ⟨bl, off + j, none⟩) hb).trans (hc j v hj))) hlt
      obtain ⟨xw, xa, xb, xc, hx⟩ : ∃ xw xa xb xc, pl W S k = ⟨xw, xa, xb, xc⟩ := ⟨_, _, _, _, rfl⟩
      have HX := Lib.hid hx
      rw [hx] at HR
      have c0 : w1.cell? ⟨bl, off + k * 4, none⟩ = some (.int .i64 xw) := HR 0 _ rfl
      have c1 := HR 1 _ rfl
      have c2 := HR 2 _ rfl
      have c3 := HR 3 _ rfl
      have d0 := R1.out.cell 0
      have d1 := R1.out.cell 1
      have d2 := R1.out.cell 2
      have d3 := R1.out.cell 3
      clear hx HR hc hb
      by_cases he : xw = pw ∧ xa = pa ∧ xb = pb ∧ xc = pc
      · obtain ⟨rfl, rfl, rfl, rfl⟩ := he
        go_wp2
        go_quiet (fail)
        go_wp2
        go_ret
        exact ⟨⟨_, rfl, Or.inr ⟨k, hlt, rfl, HX.out, HNO.out⟩⟩, (B1.out.drewN _).drewN _⟩
      · have hor : ¬ xw = pw ∨ (xw = pw ∧ ¬ xa = pa) ∨ (xw = pw ∧ xa = pa ∧ ¬ xb = pb) ∨ (xw = pw ∧ xa = pa ∧ xb = pb ∧ ¬ xc = pc) := by omega
        clear he
        rcases hor with hc0 | ⟨rfl, hc1⟩ | ⟨rfl, rfl, hc2⟩ | ⟨rfl, rfl, rfl, hc3⟩
        · have hb1 : (xw == pw) = false := beq_false_of_ne hc0
          have HNE : Hid (∀ j, j < k + 1 → pl W S j ≠ ⟨pw, pa, pb, pc⟩) := Lib.hid fun j hj => by
            by_cases e : j = k
            · subst e
              rw [HX.out]
              intro h
              cases h
              exact hc0 rfl
            · exact HNO.out j (by omega)
          go_wp2
          go_quiet (fail)
          go_wp2
          go_roundw
          case rel => exact ⟨k + 1, by omega, by go_num, ⟨_, rfl⟩, HNE.out⟩
          case measure => simp [intOf]; omega
        · have hb1 : (xa == pa) = false := beq_false_of_ne hc1
          have HNE : Hid (∀ j, j < k + 1 → pl W S j ≠ ⟨xw, pa, pb, pc⟩) := Lib.hid fun j hj => by
            by_cases e : j = k
            · subst e
              rw [HX.out]
              intro h
              cases h
              exact hc1 rfl
            · exact HNO.out j (by omega)
          go_wp2
          go_quiet (fail)
          go_wp2
          go_roundw
          case rel => exact ⟨k + 1, by omega, by go_num, ⟨_, rfl⟩, HNE.out⟩
          case measure => simp [intOf]; omega
        · have hb1 : (xb == pb) = false := beq_false_of_ne hc2
          have HNE : Hid (∀ j, j < k + 1 → pl W S j ≠ ⟨xw, xa, pb, pc⟩) := Lib.hid fun j hj => by
            by_cases e : j = k
            · subst e
              rw [HX.out]
              intro h
              cases h
              exact hc2 rfl
            · exact HNO.out j (by omega)
          go_wp2
          go_quiet (fail)
          go_wp2
          go_roundw
          case rel => exact ⟨k + 1, by omega, by go_num, ⟨_, rfl⟩, HNE.out⟩
          case measure => simp [intOf]; omega
        · have hb1 : (xc == pc) = false := beq_false_of_ne hc3
          have HNE : Hid (∀ j, j < k + 1 → pl W S j ≠ ⟨xw, xa, xb, pc⟩) := Lib.hid fun j hj => by
            by_cases e : j = k
            · subst e
              rw [HX.out]
              intro h
              cases h
              exact hc3 rfl
            · exact HNO.out j (by omega)
          go_wp2
          go_quiet (fail)
          go_wp2
          go_roundw
          case rel => exact ⟨k + 1, by omega, by go_num, ⟨_, rfl⟩, HNE.out⟩
          case measure => simp [intOf]; omega
    · have HK : Hid (k = n) := Lib.hid (by omega)
      have e1 : ¬ (k : Int) < n := by omega
      go_wp2
      go_ret
      exact ⟨⟨_, rfl, Or.inl ⟨rfl, by rw [← HK.out]; exact HNO.out⟩⟩, B1.out.drewN _⟩
end Go.Proofs.Ytiakbdekleaaoaa
