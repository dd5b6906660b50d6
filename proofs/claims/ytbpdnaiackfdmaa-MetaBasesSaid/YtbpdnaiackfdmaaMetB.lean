/- spoil; whether there is such a slot. -/
import Derived.Test.YtbpdnaiackfdmaaMetA
namespace Go.Proofs.Ytbpdnaiackfdmaa
open Go.RowKit MetMath
set_option linter.unusedVariables false
set_option maxRecDepth 100000

theorem met_isSlot_any (x : Int) (w : World) : Calls Try.prog 18 #[.int .i64 x] w fun e w' => e = .returned (.bool (isS x)) ∧ w' = w := by
  by_cases h0 : 0 ≤ x
  · by_cases h1 : x < 3
    · rw [show isS x = true by simp [isS, h0, h1]]
      go_enter Try.func18, Try.ntmps18
      go_wp2
      go_ret
      exact ⟨ret_bool (by simp), rfl⟩
    · rw [show isS x = false by simp [isS, h1]]
      go_enter Try.func18, Try.ntmps18
      go_wp2
      go_ret
      exact ⟨ret_bool (by simp), rfl⟩
  · rw [show isS x = false by simp [isS, h0]]
    go_enter Try.func18, Try.ntmps18
    go_wp2
    go_ret
    exact ⟨ret_bool (by simp), rfl⟩
theorem met_ofSlot_any (x : Int) (w : World) : Calls Try.prog 17 #[.int .i64 x] w fun e w' => e = .returned (.bool (ofS x)) ∧ w' = w := by
  by_cases h0 : x < 8
  · rw [show ofS x = true by simp [ofS, h0]]
    go_enter Try.func17, Try.ntmps17
    go_wp2
    go_ret
    exact ⟨ret_bool (by simp), rfl⟩
  · rw [show ofS x = decide (11 < x) by simp [ofS, h0]]
    go_enter Try.func17, Try.ntmps17
    go_wp2
    go_ret
    exact ⟨ret_bool (by simp), rfl⟩

theorem met_spoil_out (x : Int) (g : Nat) (w : World) (h : isS x = false) :
    Calls Try.prog 34 #[.pointer (some ⟨g, 0, none⟩), .int .i64 x] w fun e w' => e = .returned (.tuple #[]) ∧ w' = w := by
  have HS : Hid (∀ u, Calls Try.prog 18 #[.int .i64 x] u fun e w' => e = .returned (.bool false) ∧ w' = u) := Lib.hid fun u => by rw [← h]; exact met_isSlot_any x u
  clear h
  go_enter Try.func34, Try.ntmps34
  go_wp2_with (go_at_call 18; (with_reducible refine (HS.out w).mono ?_); rintro e u1 ⟨rfl, rfl⟩)
  refine bodyPost_ret (results_none rfl _ _ _) rfl ?_
  exact ⟨rfl, rfl⟩
theorem met_spoil_0 (m : Mt) (k i n v : Int) (g : Nat) (w : World) (h : Row w g 55 (chg m k i n v)) :
    Calls Try.prog 34 #[.pointer (some ⟨g, 0, none⟩), .int .i64 0] w fun e w' => e = .returned (.tuple #[]) ∧ Row w' g 55 (chg (m.spoil 0) k i n v) ∧ Only g w w' := by
  have HS : Hid (∀ u, Calls Try.prog 18 #[.int .i64 0] u fun e w' => e = .returned (.bool true) ∧ w' = u) := Lib.hid fun u => met_isSlot_any 0 u
  obtain ⟨q0, q1, q2, q3, q4, q5, q6, q7, q8, q9, q10, q11, q12, q13, q14, q15, q16⟩ := chg_at h
  have HM := Lib.hid h
  have f0 := h.frozen 0
  have f1 := h.frozen 1
  have f2 := h.frozen 2
  have f9 := h.frozen 9
  by_cases ha : m.act = 0
  · have HF : Hid (chg (m.spoil 0) k i n v = chg ({ m.put 0 ⟨5, 0, 0⟩ with act := 0 }) k i n v) := Lib.hid (by unfold Mt.spoil; rw [if_pos (by decide), if_pos ha])
    have e1 : (m.act == (0 : Int)) = true := by simp [ha]
    clear h ha
    go_enter Try.func34, Try.ntmps34
    go_wp2_with (go_at_call 18; (with_reducible refine (HS.out w).mono ?_); rintro e u1 ⟨rfl, rfl⟩)
    go_end0
    exact ⟨rfl, by rw [HF.out]; exact ((((HM.out.set 0 _).set 1 _).set 2 _).set 9 _), (((((Only.refl g _).setCell _ _ (Or.inl rfl)).setCell _ _ (Or.inl rfl)).setCell _ _ (Or.inl rfl)).setCell _ _ (Or.inl rfl))⟩
  
  · have HF : Hid (chg (m.spoil 0) k i n v = chg (m.put 0 ⟨5, 0, 0⟩) k i n v) := Lib.hid (by unfold Mt.spoil; rw [if_pos (by decide), if_neg ha])
    have e1 : (m.act == (0 : Int)) = false := by simp [ha]
    clear h ha
    go_enter Try.func34, Try.ntmps34
    go_wp2_with (go_at_call 18; (with_reducible refine (HS.out w).mono ?_); rintro e u1 ⟨rfl, rfl⟩)
    go_end0
    exact ⟨rfl, by rw [HF.out]; exact (((HM.out.set 0 _).set 1 _).set 2 _), ((((Only.refl g _).setCell _ _ (Or.inl rfl)).setCell _ _ (Or.inl rfl)).setCell _ _ (Or.inl rfl))⟩
theorem met_spoil_1 (m : Mt) (k i n v : Int) (g : Nat) (w : World) (h : Row w g 55 (chg m k i n v)) :
    Calls Try.prog 34 #[.pointer (some ⟨g, 0, none⟩), .int .i64 1] w fun e w' => e = .returned (.tuple #[]) ∧ Row w' g 55 (chg (m.spoil 1) k i n v) ∧ Only g w w' := by
  have HS : Hid (∀ u, Calls Try.prog 18 #[.int .i64 1] u fun e w' => e = .returned (.bool true) ∧ w' = u) := Lib.hid fun u => met_isSlot_any 1 u
  obtain ⟨q0, q1, q2, q3, q4, q5, q6, q7, q8, q9, q10, q11, q12, q13, q14, q15, q16⟩ := chg_at h
  have HM := Lib.hid h
  have f0 := h.frozen 3
  have f1 := h.frozen 4
  have f2 := h.frozen 5
  have f9 := h.frozen 9
  by_cases ha : m.act = 1
  · have HF : Hid (chg (m.spoil 1) k i n v = chg ({ m.put 1 ⟨5, 0, 0⟩ with act := 0 }) k i n v) := Lib.hid (by unfold Mt.spoil; rw [if_pos (by decide), if_pos ha])
    have e1 : (m.act == (1 : Int)) = true := by simp [ha]
    clear h ha
    go_enter Try.func34, Try.ntmps34
    go_wp2_with (go_at_call 18; (with_reducible refine (HS.out w).mono ?_); rintro e u1 ⟨rfl, rfl⟩)
    go_end0
    exact ⟨rfl, by rw [HF.out]; exact ((((HM.out.set 3 _).set 4 _).set 5 _).set 9 _), (((((Only.refl g _).setCell _ _ (Or.inl rfl)).setCell _ _ (Or.inl rfl)).setCell _ _ (Or.inl rfl)).setCell _ _ (Or.inl rfl))⟩
  
  · have HF : Hid (chg (m.spoil 1) k i n v = chg (m.put 1 ⟨5, 0, 0⟩) k i n v) := Lib.hid (by unfold Mt.spoil; rw [if_pos (by decide), if_neg ha])
    have e1 : (m.act == (1 : Int)) = false := by simp [ha]
    clear h ha
    go_enter Try.func34, Try.ntmps34
    go_wp2_with (go_at_call 18; (with_reducible refine (HS.out w).mono ?_); rintro e u1 ⟨rfl, rfl⟩)
    go_end0
    exact ⟨rfl, by rw [HF.out]; exact (((HM.out.set 3 _).set 4 _).set 5 _), ((((Only.refl g _).setCell _ _ (Or.inl rfl)).setCell _ _ (Or.inl rfl)).setCell _ _ (Or.inl rfl))⟩
theorem met_spoil_2 (m : Mt) (k i n v : Int) (g : Nat) (w : World) (h : Row w g 55 (chg m k i n v)) :
    Calls Try.prog 34 #[.pointer (some ⟨g, 0, none⟩), .int .i64 2] w fun e w' => e = .returned (.tuple #[]) ∧ Row w' g 55 (chg (m.spoil 2) k i n v) ∧ Only g w w' := by
  have HS : Hid (∀ u, Calls Try.prog 18 #[.int .i64 2] u fun e w' => e = .returned (.bool true) ∧ w' = u) := Lib.hid fun u => met_isSlot_any 2 u
  obtain ⟨q0, q1, q2, q3, q4, q5, q6, q7, q8, q9, q10, q11, q12, q13, q14, q15, q16⟩ := chg_at h
  have HM := Lib.hid h
  have f0 := h.frozen 6
  have f1 := h.frozen 7
  have f2 := h.frozen 8
  have f9 := h.frozen 9
  by_cases ha : m.act = 2
  · have HF : Hid (chg (m.spoil 2) k i n v = chg ({ m.put 2 ⟨5, 0, 0⟩ with act := 0 }) k i n v) := Lib.hid (by unfold Mt.spoil; rw [if_pos (by decide), if_pos ha])
    have e1 : (m.act == (2 : Int)) = true := by simp [ha]
    clear h ha
    go_enter Try.func34, Try.ntmps34
    go_wp2_with (go_at_call 18; (with_reducible refine (HS.out w).mono ?_); rintro e u1 ⟨rfl, rfl⟩)
    go_end0
    exact ⟨rfl, by rw [HF.out]; exact ((((HM.out.set 6 _).set 7 _).set 8 _).set 9 _), (((((Only.refl g _).setCell _ _ (Or.inl rfl)).setCell _ _ (Or.inl rfl)).setCell _ _ (Or.inl rfl)).setCell _ _ (Or.inl rfl))⟩
  
  · have HF : Hid (chg (m.spoil 2) k i n v = chg (m.put 2 ⟨5, 0, 0⟩) k i n v) := Lib.hid (by unfold Mt.spoil; rw [if_pos (by decide), if_neg ha])
    have e1 : (m.act == (2 : Int)) = false := by simp [ha]
    clear h ha
    go_enter Try.func34, Try.ntmps34
    go_wp2_with (go_at_call 18; (with_reducible refine (HS.out w).mono ?_); rintro e u1 ⟨rfl, rfl⟩)
    go_end0
    exact ⟨rfl, by rw [HF.out]; exact (((HM.out.set 6 _).set 7 _).set 8 _), ((((Only.refl g _).setCell _ _ (Or.inl rfl)).setCell _ _ (Or.inl rfl)).setCell _ _ (Or.inl rfl))⟩
theorem met_spoil_any (m : Mt) (k i n v x : Int) (g : Nat) (w : World) (h : Row w g 55 (chg m k i n v)) :
    Calls Try.prog 34 #[.pointer (some ⟨g, 0, none⟩), .int .i64 x] w fun e w' => e = .returned (.tuple #[]) ∧ Row w' g 55 (chg (m.spoil x) k i n v) ∧ Only g w w' := by
  cases hx : isS x with
  | false =>
    rw [show m.spoil x = m by unfold Mt.spoil; rw [hx]; rfl]
    exact (met_spoil_out x g w hx).mono fun e w' hh => ⟨hh.1, by rw [hh.2]; exact h, by rw [hh.2]; exact Only.refl g w⟩
  | true =>
    rcases isS_is.1 hx with rfl | rfl | rfl
    · exact met_spoil_0 m k i n v g w h
    · exact met_spoil_1 m k i n v g w h
    · exact met_spoil_2 m k i n v g w h
end Go.Proofs.Ytbpdnaiackfdmaa
