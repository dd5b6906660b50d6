/- The document's example: awake. -/
import Derived.Test.YtpeofjlecgenbaaRecC
namespace Go.Proofs.Ytpeofjlecgenbaa
open Go.RowKit CrcMath NumMath
set_option linter.unusedVariables false
set_option maxRecDepth 100000

theorem aw_number : numR 1 2 3 = 4295098371 ∧ vOk 1 2 3 = true := by decide
theorem aw_page : (pageB 1 2 3 4).take 10 = [1, 2, 0, 3, 0, 0, 0, 0, 0, 4] := by
  have e : (pageB 1 2 3 4).take 10 = ((pageB 1 2 3 4).take 12).take 10 := by rw [List.take_take]; rfl
  rw [e, pageB_txt]
  decide
set_option maxHeartbeats 1000000 in
theorem rec_awake_any (w : World) :
    Calls Try.prog 7 #[] w fun e w' => e = .returned (.bool true) ∧ Below w.heap.size w w' := by
  have HN : Hid (∀ u, Calls Try.prog 22 #[.agg #[.int .i64 1, .int .i64 2, .int .i64 3]] u fun e u' => e = .returned (.tuple #[.int .i64 4295098371, .bool true]) ∧ Below u.heap.size u u') := Lib.hid fun u => by
    have := number_any 1 2 3 u
    rw [aw_number.1, aw_number.2] at this
    exact this
  obtain ⟨T, hT⟩ : ∃ T, str (pageB 1 2 3 4) = T := ⟨_, rfl⟩
  have HP : Hid (∀ u b, Tab u b 0 → b < u.heap.size → Calls Try.prog 9 #[.pointer (some ⟨b, 0, none⟩), .agg #[.int .i64 1, .int .i64 2, .int .i64 3, .int .i64 4]] u fun e u' => e = .returned (.tuple #[.string T, .int .i64 0]) ∧ Below u.heap.size u u') := Lib.hid fun u b h1 h2 => by
    rw [← hT]; exact rec_put_yes b 1 2 3 4 u h1 h2 (by decide)
  have zT : T.size = 16 := by rw [← hT, str_size, pageB_length]
  have HX : (T.extract 0 10).data.toList = [1, 2, 0, 3, 0, 0, 0, 0, 0, 4] := by rw [num_take_extract, ← hT, str_list, aw_page]
  have HE : Hid (((T.extract 0 10).toList == [1, 2, 0, 3, 0, 0, 0, 0, 0, 4]) = true) := Lib.hid (by
    have heq : ((T.extract 0 10).toList == ({ data := #[1, 2, 0, 3, 0, 0, 0, 0, 0, 4] } : ByteArray).toList) = true := beq_yes (by rw [← str_of (T.extract 0 10), HX]; rfl)
    simpa using heq)
  clear HX hT
  go_enter Try.func7, Try.ntmps7
  go_wp2_with (first
    | (go_at_call 22; (with_reducible refine (HN.out w).mono ?_); rintro e u1 ⟨rfl, b1⟩; have B1 := Lib.hid b1; clear b1)
    | (go_at_call 8; (with_reducible refine (crc_new_any u1).mono ?_); rintro e u2 ⟨b, rfl, h2, t2, b2⟩; have H2 := Lib.hid h2; have T2 := Lib.hid t2; have B2 : Hid (Below w.heap.size w u2) := Lib.hid (B1.out.next b2); clear b2 h2 t2)
    | (go_at_call 9; (with_reducible refine (HP.out u2 b T2.out H2.out).mono ?_); rintro e u3 ⟨rfl, b3⟩; have B3 : Hid (Below w.heap.size w u3) := Lib.hid (B2.out.next b3); clear b3))
  go_ret
  exact ⟨ret_bool HE.out, B3.out⟩
end Go.Proofs.Ytpeofjlecgenbaa
