/- Names of states; the rule of each kind. -/
import Derived.Test.YtbpdnaiackfdmaaMetD
import Derived.Test.YtbpdnaiackfdmaaBox1
import Derived.Test.YtbpdnaiackfdmaaReads
namespace Go.Proofs.Ytbpdnaiackfdmaa
open Go.RowKit MetMath
set_option linter.unusedVariables false
set_option maxRecDepth 100000

/-- A state's name. -/
def stName (n : Int) : ByteArray := if n = 0 then ⟨#[101, 109, 112, 116, 121]⟩ else if n = 1 then ⟨#[119, 114, 105, 116, 105, 110, 103]⟩ else if n = 2 then ⟨#[115, 116, 97, 103, 101, 100]⟩ else if n = 3 then ⟨#[116, 114, 105, 97, 108]⟩ else if n = 4 then ⟨#[99, 111, 110, 102, 105, 114, 109, 101, 100]⟩ else if n = 5 then ⟨#[98, 97, 100]⟩ else ⟨#[]⟩
def stNames : List Value := [.string ⟨#[101, 109, 112, 116, 121]⟩, .string ⟨#[119, 114, 105, 116, 105, 110, 103]⟩, .string ⟨#[115, 116, 97, 103, 101, 100]⟩, .string ⟨#[116, 114, 105, 97, 108]⟩, .string ⟨#[99, 111, 110, 102, 105, 114, 109, 101, 100]⟩, .string ⟨#[98, 97, 100]⟩]
theorem met_states_any (w : World) : Calls Try.prog 49 #[] w fun e w' => e = .returned (.slice (some ⟨w.heap.size, 0, none⟩) 6 6) ∧ (∀ j u, stNames[j]? = some u → w'.cell? ⟨w.heap.size, j, none⟩ = some u) ∧ Below w.heap.size w w' := by
  have HC : Hid (∀ j u, stNames[j]? = some u → (w.alloc (.cells stNames.toArray 9)).cell? ⟨w.heap.size, j, none⟩ = some u) := Lib.hid fun j u hj => by rw [Row.cell (Row.new w 9 stNames)]; exact hj
  go_enter Try.func49, Try.ntmps49
  go_wp2
  go_ret
  exact ⟨rfl, HC.out, (Below.refl _ _).alloc (Nat.le_refl _) _⟩
theorem met_state_any (n : Int) (w : World) : Calls Try.prog 45 #[.int .i64 n] w fun e w' => e = .returned (.string (stName n)) ∧ Below w.heap.size w w' := by
  have HS := Lib.hid (met_states_any w)
  by_cases h : 0 ≤ n ∧ n < 6
  · have h6 : n = 0 ∨ n = 1 ∨ n = 2 ∨ n = 3 ∨ n = 4 ∨ n = 5 := by omega
    clear h
    rcases h6 with rfl | rfl | rfl | rfl | rfl | rfl
    · go_enter Try.func45, Try.ntmps45
      go_wp2_with (go_at_call 49; (with_reducible refine HS.out.mono ?_); rintro e u1 ⟨rfl, c1, b1⟩; have x1 := c1 0 _ rfl; have B1 := Lib.hid b1; clear c1 b1)
      go_ret
      exact ⟨rfl, B1.out⟩
    · go_enter Try.func45, Try.ntmps45
      go_wp2_with (go_at_call 49; (with_reducible refine HS.out.mono ?_); rintro e u1 ⟨rfl, c1, b1⟩; have x1 := c1 1 _ rfl; have B1 := Lib.hid b1; clear c1 b1)
      go_ret
      exact ⟨rfl, B1.out⟩
    · go_enter Try.func45, Try.ntmps45
      go_wp2_with (go_at_call 49; (with_reducible refine HS.out.mono ?_); rintro e u1 ⟨rfl, c1, b1⟩; have x1 := c1 2 _ rfl; have B1 := Lib.hid b1; clear c1 b1)
      go_ret
      exact ⟨rfl, B1.out⟩
    · go_enter Try.func45, Try.ntmps45
      go_wp2_with (go_at_call 49; (with_reducible refine HS.out.mono ?_); rintro e u1 ⟨rfl, c1, b1⟩; have x1 := c1 3 _ rfl; have B1 := Lib.hid b1; clear c1 b1)
      go_ret
      exact ⟨rfl, B1.out⟩
    · go_enter Try.func45, Try.ntmps45
      go_wp2_with (go_at_call 49; (with_reducible refine HS.out.mono ?_); rintro e u1 ⟨rfl, c1, b1⟩; have x1 := c1 4 _ rfl; have B1 := Lib.hid b1; clear c1 b1)
      go_ret
      exact ⟨rfl, B1.out⟩
    · go_enter Try.func45, Try.ntmps45
      go_wp2_with (go_at_call 49; (with_reducible refine HS.out.mono ?_); rintro e u1 ⟨rfl, c1, b1⟩; have x1 := c1 5 _ rfl; have B1 := Lib.hid b1; clear c1 b1)
      go_ret
      exact ⟨rfl, B1.out⟩
  · have e0 : stName n = ⟨#[]⟩ := by
      unfold stName
      rw [if_neg (by omega), if_neg (by omega), if_neg (by omega), if_neg (by omega), if_neg (by omega), if_neg (by omega)]
    rw [e0]
    clear e0
    by_cases h0 : 0 ≤ n
    · have h1 : ¬ n < 6 := by omega
      clear h
      go_enter Try.func45, Try.ntmps45
      go_wp2_with (go_at_call 49; (with_reducible refine HS.out.mono ?_); rintro e u1 ⟨rfl, c1, b1⟩; have B1 := Lib.hid b1; clear c1 b1)
      go_ret
      exact ⟨rfl, B1.out⟩
    · clear h
      go_enter Try.func45, Try.ntmps45
      go_wp2_with (go_at_call 49; (with_reducible refine HS.out.mono ?_); rintro e u1 ⟨rfl, c1, b1⟩; have B1 := Lib.hid b1; clear c1 b1)
      go_ret
      exact ⟨rfl, B1.out⟩
theorem stName_empty (n : Int) : (stName n).toList.isEmpty = !stOk n := by
  rw [ByteArray.toList_eq]
  unfold stName stOk
  by_cases h : 0 ≤ n ∧ n < 6
  · have h6 : n = 0 ∨ n = 1 ∨ n = 2 ∨ n = 3 ∨ n = 4 ∨ n = 5 := by omega
    rcases h6 with rfl | rfl | rfl | rfl | rfl | rfl <;> decide
  · rw [if_neg (by omega), if_neg (by omega), if_neg (by omega), if_neg (by omega), if_neg (by omega), if_neg (by omega)]
    have : (decide (0 ≤ n) && decide (n < 6)) = false := by
      rw [Bool.eq_false_iff]
      simp only [ne_eq, Bool.and_eq_true, decide_eq_true_eq]
      exact h
    rw [this]
    decide

/-- What a rule tells: whether the record may be done, and the function nf that does it. -/
def Rule (fn nf : Nat) (m : Mt) (k i n v : Int) (b : Bool) : Prop := ∀ (w : World) (g : Nat), Row w g 55 (chg m k i n v) →
    Calls Try.prog fn #[.pointer (some ⟨g, 0, none⟩)] w fun e w' => ∃ vb, e = .returned (.tuple #[.bool b, .func (.func nf) #[] #[.pointer (some ⟨vb, 0, none⟩)]]) ∧ w.heap.size ≤ vb ∧ vb < w'.heap.size ∧ w'.cell? ⟨vb, 0, none⟩ = some (.pointer (some ⟨g, 0, none⟩)) ∧ Below w.heap.size w w'
def NoRule (fn : Nat) (m : Mt) (k i n v : Int) : Prop := ∀ (w : World) (g : Nat), Row w g 55 (chg m k i n v) →
    Calls Try.prog fn #[.pointer (some ⟨g, 0, none⟩)] w fun e w' => e = .returned (.tuple #[.bool false, .nilFunc]) ∧ Below w.heap.size w w'
theorem met_makeFunc : ∀ (fn : Fn) (first cap : Array Value) (w : World), (Instr.makeFunc fn first cap).run Try.prog w = .ok (.func fn first cap) w := fun _ _ _ _ => rfl

theorem met_rule_write (m : Mt) (i n v : Int) (hi : isS i = true) : Rule 19 27 m 1 i n v (m.idle i) := by
  intro w g h
  have HR := Lib.hid h
  have hmf := met_makeFunc
  obtain ⟨b, hb⟩ : ∃ b, m.idle i = b := ⟨_, rfl⟩
  have HX : Hid (∀ u, Row u g 55 (chg m 1 i n v) → Calls Try.prog 26 #[.pointer (some ⟨g, 0, none⟩)] u fun e w' => e = .returned (.bool b) ∧ ∃ d, w' = u.drewN d) := Lib.hid fun u hu => by rw [← hb]; exact met_idle_any m 1 i n v g u hu hi
  rw [hb]
  clear hb
  clear h
  go_enter Try.func19, Try.ntmps19
  go_wp2_with (first | ((with_reducible refine wpBox1K (.pointer (some ⟨g, 0, none⟩)) 53 (met_ptr_cells _) ?_ ?_); rfl; intro u1 r1 b1 s1; have c1 : u1.cell? ⟨w.heap.size, 0, none⟩ = some (.pointer (some ⟨g, 0, none⟩)) := r1.cell 0; have q13 : u1.cell? ⟨g, 13, none⟩ = some (.int .i64 1) := (HR.out.step b1).cell 13; have HV : Hid (w.heap.size < u1.heap.size) := Lib.hid (by rw [s1]; exact Nat.lt_succ_self _); have B1 := Lib.hid b1; have HR1 := Lib.hid (HR.out.step b1); clear r1 b1 s1) | (go_at_call 26; (with_reducible refine (HX.out u1 HR1.out).mono ?_); rintro e u2 ⟨rfl, d1, rfl⟩))
  go_ret2
  exact ⟨_, rfl, Nat.le_refl _, HV.out, c1, B1.out.drewN _⟩

theorem met_rule_clear (m : Mt) (i n v : Int) (hi : isS i = true) : Rule 19 35 m 6 i n v (m.idle i) := by
  intro w g h
  have HR := Lib.hid h
  have hmf := met_makeFunc
  obtain ⟨b, hb⟩ : ∃ b, m.idle i = b := ⟨_, rfl⟩
  have HX : Hid (∀ u, Row u g 55 (chg m 6 i n v) → Calls Try.prog 26 #[.pointer (some ⟨g, 0, none⟩)] u fun e w' => e = .returned (.bool b) ∧ ∃ d, w' = u.drewN d) := Lib.hid fun u hu => by rw [← hb]; exact met_idle_any m 6 i n v g u hu hi
  rw [hb]
  clear hb
  clear h
  go_enter Try.func19, Try.ntmps19
  go_wp2_with (first | ((with_reducible refine wpBox1K (.pointer (some ⟨g, 0, none⟩)) 53 (met_ptr_cells _) ?_ ?_); rfl; intro u1 r1 b1 s1; have c1 : u1.cell? ⟨w.heap.size, 0, none⟩ = some (.pointer (some ⟨g, 0, none⟩)) := r1.cell 0; have q13 : u1.cell? ⟨g, 13, none⟩ = some (.int .i64 6) := (HR.out.step b1).cell 13; have HV : Hid (w.heap.size < u1.heap.size) := Lib.hid (by rw [s1]; exact Nat.lt_succ_self _); have B1 := Lib.hid b1; have HR1 := Lib.hid (HR.out.step b1); clear r1 b1 s1) | (go_at_call 26; (with_reducible refine (HX.out u1 HR1.out).mono ?_); rintro e u2 ⟨rfl, d1, rfl⟩))
  go_ret2
  exact ⟨_, rfl, Nat.le_refl _, HV.out, c1, B1.out.drewN _⟩

theorem met_rule_activate (m : Mt) (i n v : Int) (hi : isS i = true) : Rule 19 37 m 7 i n v (m.boots i) := by
  intro w g h
  have HR := Lib.hid h
  have hmf := met_makeFunc
  obtain ⟨b, hb⟩ : ∃ b, m.boots i = b := ⟨_, rfl⟩
  have HX : Hid (∀ u, Row u g 55 (chg m 7 i n v) → Calls Try.prog 36 #[.pointer (some ⟨g, 0, none⟩)] u fun e w' => e = .returned (.bool b) ∧ ∃ d, w' = u.drewN d) := Lib.hid fun u hu => by rw [← hb]; exact met_boots_any m 7 i n v g u hu hi
  rw [hb]
  clear hb
  clear h
  go_enter Try.func19, Try.ntmps19
  go_wp2_with (first | ((with_reducible refine wpBox1K (.pointer (some ⟨g, 0, none⟩)) 53 (met_ptr_cells _) ?_ ?_); rfl; intro u1 r1 b1 s1; have c1 : u1.cell? ⟨w.heap.size, 0, none⟩ = some (.pointer (some ⟨g, 0, none⟩)) := r1.cell 0; have q13 : u1.cell? ⟨g, 13, none⟩ = some (.int .i64 7) := (HR.out.step b1).cell 13; have HV : Hid (w.heap.size < u1.heap.size) := Lib.hid (by rw [s1]; exact Nat.lt_succ_self _); have B1 := Lib.hid b1; have HR1 := Lib.hid (HR.out.step b1); clear r1 b1 s1) | (go_at_call 36; (with_reducible refine (HX.out u1 HR1.out).mono ?_); rintro e u2 ⟨rfl, d1, rfl⟩))
  go_ret2
  exact ⟨_, rfl, Nat.le_refl _, HV.out, c1, B1.out.drewN _⟩

theorem met_rule_stage (m : Mt) (i n v : Int) (hi : isS i = true) : Rule 19 30 m 2 i n v (m.is i 1) := by
  intro w g h
  have HR := Lib.hid h
  have hmf := met_makeFunc
  obtain ⟨b1, hb1⟩ : ∃ b, m.is i 1 = b := ⟨_, rfl⟩
  have HI1 : Hid (∀ u, Row u g 55 (chg m 2 i n v) → Calls Try.prog 29 #[.pointer (some ⟨g, 0, none⟩), .int .i64 1] u fun e w' => e = .returned (.bool b1) ∧ ∃ d, w' = u.drewN d) := Lib.hid fun u hu => by rw [← hb1]; exact met_is_any m 2 i n v 1 g u hu hi
  rw [hb1]
  clear hb1
  clear h
  go_enter Try.func19, Try.ntmps19
  go_wp2_with (first | ((with_reducible refine wpBox1K (.pointer (some ⟨g, 0, none⟩)) 53 (met_ptr_cells _) ?_ ?_); rfl; intro u1 r1 b1 s1; have c1 : u1.cell? ⟨w.heap.size, 0, none⟩ = some (.pointer (some ⟨g, 0, none⟩)) := r1.cell 0; have q13 : u1.cell? ⟨g, 13, none⟩ = some (.int .i64 2) := (HR.out.step b1).cell 13; have HV : Hid (w.heap.size < u1.heap.size) := Lib.hid (by rw [s1]; exact Nat.lt_succ_self _); have B1 := Lib.hid b1; have HR1 := Lib.hid (HR.out.step b1); clear r1 b1 s1) | (go_at_call 29; (with_reducible refine (HI1.out u1 HR1.out).mono ?_); rintro e u2 ⟨rfl, d1, rfl⟩))
  go_ret2
  exact ⟨_, rfl, Nat.le_refl _, HV.out, c1, B1.out.drewN _⟩

theorem met_rule_confirm (m : Mt) (i n v : Int) (hi : isS i = true) : Rule 19 32 m 4 i n v (m.is i 3) := by
  intro w g h
  have HR := Lib.hid h
  have hmf := met_makeFunc
  obtain ⟨b3, hb3⟩ : ∃ b, m.is i 3 = b := ⟨_, rfl⟩
  have HI3 : Hid (∀ u, Row u g 55 (chg m 4 i n v) → Calls Try.prog 29 #[.pointer (some ⟨g, 0, none⟩), .int .i64 3] u fun e w' => e = .returned (.bool b3) ∧ ∃ d, w' = u.drewN d) := Lib.hid fun u hu => by rw [← hb3]; exact met_is_any m 4 i n v 3 g u hu hi
  rw [hb3]
  clear hb3
  clear h
  go_enter Try.func19, Try.ntmps19
  go_wp2_with (first | ((with_reducible refine wpBox1K (.pointer (some ⟨g, 0, none⟩)) 53 (met_ptr_cells _) ?_ ?_); rfl; intro u1 r1 b1 s1; have c1 : u1.cell? ⟨w.heap.size, 0, none⟩ = some (.pointer (some ⟨g, 0, none⟩)) := r1.cell 0; have q13 : u1.cell? ⟨g, 13, none⟩ = some (.int .i64 4) := (HR.out.step b1).cell 13; have HV : Hid (w.heap.size < u1.heap.size) := Lib.hid (by rw [s1]; exact Nat.lt_succ_self _); have B1 := Lib.hid b1; have HR1 := Lib.hid (HR.out.step b1); clear r1 b1 s1) | (go_at_call 29; (with_reducible refine (HI3.out u1 HR1.out).mono ?_); rintro e u2 ⟨rfl, d3, rfl⟩))
  go_ret2
  exact ⟨_, rfl, Nat.le_refl _, HV.out, c1, B1.out.drewN _⟩

theorem met_rule_cursor (m : Mt) (i n v : Int) : Rule 19 39 m 9 i n v true := by
  intro w g h
  have HR := Lib.hid h
  have hmf := met_makeFunc
  clear h
  go_enter Try.func19, Try.ntmps19
  go_wp2_with ((with_reducible refine wpBox1K (.pointer (some ⟨g, 0, none⟩)) 53 (met_ptr_cells _) ?_ ?_); rfl; intro u1 r1 b1 s1; have c1 : u1.cell? ⟨w.heap.size, 0, none⟩ = some (.pointer (some ⟨g, 0, none⟩)) := r1.cell 0; have q13 : u1.cell? ⟨g, 13, none⟩ = some (.int .i64 9) := (HR.out.step b1).cell 13; have HV : Hid (w.heap.size < u1.heap.size) := Lib.hid (by rw [s1]; exact Nat.lt_succ_self _); have B1 := Lib.hid b1; have HR1 := Lib.hid (HR.out.step b1); clear r1 b1 s1)
  go_ret2
  exact ⟨_, rfl, Nat.le_refl _, HV.out, c1, B1.out⟩

theorem met_rule_done (m : Mt) (i n v : Int) : Rule 19 41 m 11 i n v (m.int != 0) := by
  intro w g h
  have HR := Lib.hid h
  have hmf := met_makeFunc
  obtain ⟨x, hx⟩ : ∃ x, m.int = x := ⟨_, rfl⟩
  have HQ12 : Hid (∀ u, Row u g 55 (chg m 11 i n v) → u.cell? ⟨g, 12, none⟩ = some (.int .i64 x)) := Lib.hid fun u hu => by rw [← hx]; exact hu.cell 12
  rw [hx]
  clear hx
  clear h
  go_enter Try.func19, Try.ntmps19
  go_wp2_with ((with_reducible refine wpBox1K (.pointer (some ⟨g, 0, none⟩)) 53 (met_ptr_cells _) ?_ ?_); rfl; intro u1 r1 b1 s1; have c1 : u1.cell? ⟨w.heap.size, 0, none⟩ = some (.pointer (some ⟨g, 0, none⟩)) := r1.cell 0; have q13 : u1.cell? ⟨g, 13, none⟩ = some (.int .i64 11) := (HR.out.step b1).cell 13; have q12 := HQ12.out u1 (HR.out.step b1); have HV : Hid (w.heap.size < u1.heap.size) := Lib.hid (by rw [s1]; exact Nat.lt_succ_self _); have B1 := Lib.hid b1; have HR1 := Lib.hid (HR.out.step b1); clear r1 b1 s1)
  go_ret2
  exact ⟨_, rfl, Nat.le_refl _, HV.out, c1, B1.out⟩

theorem met_rule_intent (m : Mt) (i n v : Int) : Rule 19 40 m 10 i n v (v != 0 && m.int == 0) := by
  intro w g h
  have HR := Lib.hid h
  have hmf := met_makeFunc
  obtain ⟨x, hx⟩ : ∃ x, m.int = x := ⟨_, rfl⟩
  have HQ12 : Hid (∀ u, Row u g 55 (chg m 10 i n v) → u.cell? ⟨g, 12, none⟩ = some (.int .i64 x)) := Lib.hid fun u hu => by rw [← hx]; exact hu.cell 12
  rw [hx]
  clear hx
  clear h
  by_cases hv : v = 0
  · subst hv
    rw [show ((0 : Int) != 0 && x == 0) = false from rfl]
    go_enter Try.func19, Try.ntmps19
    go_wp2_with ((with_reducible refine wpBox1K (.pointer (some ⟨g, 0, none⟩)) 53 (met_ptr_cells _) ?_ ?_); rfl; intro u1 r1 b1 s1; have c1 : u1.cell? ⟨w.heap.size, 0, none⟩ = some (.pointer (some ⟨g, 0, none⟩)) := r1.cell 0; have q13 : u1.cell? ⟨g, 13, none⟩ = some (.int .i64 10) := (HR.out.step b1).cell 13; have q16 : u1.cell? ⟨g, 16, none⟩ = some (.int .i64 0) := (HR.out.step b1).cell 16; have q12 := HQ12.out u1 (HR.out.step b1); have HV : Hid (w.heap.size < u1.heap.size) := Lib.hid (by rw [s1]; exact Nat.lt_succ_self _); have B1 := Lib.hid b1; have HR1 := Lib.hid (HR.out.step b1); clear r1 b1 s1)
    go_ret2
    exact ⟨_, rfl, Nat.le_refl _, HV.out, c1, B1.out⟩
  · have e1 : (v != 0) = true := by simp [hv]
    have e2 : (!(v == 0)) = true := by simp [hv]
    rw [show (v != 0 && x == 0) = (x == 0) by rw [e1]; rfl]
    clear hv
    go_enter Try.func19, Try.ntmps19
    go_wp2_with ((with_reducible refine wpBox1K (.pointer (some ⟨g, 0, none⟩)) 53 (met_ptr_cells _) ?_ ?_); rfl; intro u1 r1 b1 s1; have c1 : u1.cell? ⟨w.heap.size, 0, none⟩ = some (.pointer (some ⟨g, 0, none⟩)) := r1.cell 0; have q13 : u1.cell? ⟨g, 13, none⟩ = some (.int .i64 10) := (HR.out.step b1).cell 13; have q16 : u1.cell? ⟨g, 16, none⟩ = some (.int .i64 v) := (HR.out.step b1).cell 16; have q12 := HQ12.out u1 (HR.out.step b1); have HV : Hid (w.heap.size < u1.heap.size) := Lib.hid (by rw [s1]; exact Nat.lt_succ_self _); have B1 := Lib.hid b1; have HR1 := Lib.hid (HR.out.step b1); clear r1 b1 s1)
    go_ret2
    exact ⟨_, rfl, Nat.le_refl _, HV.out, c1, B1.out⟩
theorem met_rule_copy (m : Mt) (i n v : Int) (hi : isS i = true) : Rule 19 42 m 12 i n v ((m.is i 5 || m.is i 1) && i != 0) := by
  intro w g h
  have HR := Lib.hid h
  have hmf := met_makeFunc
  obtain ⟨b5, hb5⟩ : ∃ b, m.is i 5 = b := ⟨_, rfl⟩
  have HI5 : Hid (∀ u, Row u g 55 (chg m 12 i n v) → Calls Try.prog 29 #[.pointer (some ⟨g, 0, none⟩), .int .i64 5] u fun e w' => e = .returned (.bool b5) ∧ ∃ d, w' = u.drewN d) := Lib.hid fun u hu => by rw [← hb5]; exact met_is_any m 12 i n v 5 g u hu hi
  obtain ⟨b1, hb1⟩ : ∃ b, m.is i 1 = b := ⟨_, rfl⟩
  have HI1 : Hid (∀ u, Row u g 55 (chg m 12 i n v) → Calls Try.prog 29 #[.pointer (some ⟨g, 0, none⟩), .int .i64 1] u fun e w' => e = .returned (.bool b1) ∧ ∃ d, w' = u.drewN d) := Lib.hid fun u hu => by rw [← hb1]; exact met_is_any m 12 i n v 1 g u hu hi
  rw [hb5, hb1]
  clear hb5 hb1 h
  have e0 : ∀ u : World, u.drewN 0 = u := fun u => rfl
  cases b5 with
  | true =>
    go_enter Try.func19, Try.ntmps19
    go_wp2_with (first
      | ((with_reducible refine wpBox1K (.pointer (some ⟨g, 0, none⟩)) 53 (met_ptr_cells _) ?_ ?_); rfl; intro u1 r1 b1 s1; have c1 : u1.cell? ⟨w.heap.size, 0, none⟩ = some (.pointer (some ⟨g, 0, none⟩)) := r1.cell 0; have q13 : u1.cell? ⟨g, 13, none⟩ = some (.int .i64 12) := (HR.out.step b1).cell 13; have q14 : u1.cell? ⟨g, 14, none⟩ = some (.int .i64 i) := (HR.out.step b1).cell 14; have HV : Hid (w.heap.size < u1.heap.size) := Lib.hid (by rw [s1]; exact Nat.lt_succ_self _); have B1 := Lib.hid b1; have HR1 := Lib.hid (HR.out.step b1); clear r1 b1 s1)
      | ((go_at_call 29; (with_reducible refine (HI5.out u1 HR1.out).mono ?_); rintro e u2 ⟨rfl, d5, rfl⟩; have HR2 := Lib.hid (HR1.out.drewN d5))))
    go_ret2
    exact ⟨_, rfl, Nat.le_refl _, HV.out, c1, B1.out.drewN _⟩
  | false =>
    cases b1 with
    | true =>
      go_enter Try.func19, Try.ntmps19
      go_wp2_with (first
        | ((with_reducible refine wpBox1K (.pointer (some ⟨g, 0, none⟩)) 53 (met_ptr_cells _) ?_ ?_); rfl; intro u1 r1 b1 s1; have c1 : u1.cell? ⟨w.heap.size, 0, none⟩ = some (.pointer (some ⟨g, 0, none⟩)) := r1.cell 0; have q13 : u1.cell? ⟨g, 13, none⟩ = some (.int .i64 12) := (HR.out.step b1).cell 13; have q14 : u1.cell? ⟨g, 14, none⟩ = some (.int .i64 i) := (HR.out.step b1).cell 14; have HV : Hid (w.heap.size < u1.heap.size) := Lib.hid (by rw [s1]; exact Nat.lt_succ_self _); have B1 := Lib.hid b1; have HR1 := Lib.hid (HR.out.step b1); clear r1 b1 s1)
        | ((go_at_call 29; (with_reducible refine (HI5.out u1 HR1.out).mono ?_); rintro e u2 ⟨rfl, d5, rfl⟩; have HR2 := Lib.hid (HR1.out.drewN d5)))
        | ((go_at_call 29; (with_reducible refine (HI1.out _ HR2.out).mono ?_); rintro e u3 ⟨rfl, d1, rfl⟩)))
      go_ret2
      exact ⟨_, rfl, Nat.le_refl _, HV.out, c1, B1.out.drewN _⟩
    | false =>
      go_enter Try.func19, Try.ntmps19
      go_wp2_with (first
        | ((with_reducible refine wpBox1K (.pointer (some ⟨g, 0, none⟩)) 53 (met_ptr_cells _) ?_ ?_); rfl; intro u1 r1 b1 s1; have c1 : u1.cell? ⟨w.heap.size, 0, none⟩ = some (.pointer (some ⟨g, 0, none⟩)) := r1.cell 0; have q13 : u1.cell? ⟨g, 13, none⟩ = some (.int .i64 12) := (HR.out.step b1).cell 13; have q14 : u1.cell? ⟨g, 14, none⟩ = some (.int .i64 i) := (HR.out.step b1).cell 14; have HV : Hid (w.heap.size < u1.heap.size) := Lib.hid (by rw [s1]; exact Nat.lt_succ_self _); have B1 := Lib.hid b1; have HR1 := Lib.hid (HR.out.step b1); clear r1 b1 s1)
        | ((go_at_call 29; (with_reducible refine (HI5.out u1 HR1.out).mono ?_); rintro e u2 ⟨rfl, d5, rfl⟩; have HR2 := Lib.hid (HR1.out.drewN d5)))
        | ((go_at_call 29; (with_reducible refine (HI1.out _ HR2.out).mono ?_); rintro e u3 ⟨rfl, d1, rfl⟩)))
      go_ret2
      exact ⟨_, rfl, Nat.le_refl _, HV.out, c1, B1.out.drewN _⟩
theorem met_rule_bad (m : Mt) (i n v : Int) (hi : isS i = true) : Rule 19 33 m 5 i n v (i != 0 && !m.is i 0) := by
  intro w g h
  have HR := Lib.hid h
  have hmf := met_makeFunc
  obtain ⟨b0, hb0⟩ : ∃ b, m.is i 0 = b := ⟨_, rfl⟩
  have HI0 : Hid (∀ u, Row u g 55 (chg m 5 i n v) → Calls Try.prog 29 #[.pointer (some ⟨g, 0, none⟩), .int .i64 0] u fun e w' => e = .returned (.bool b0) ∧ ∃ d, w' = u.drewN d) := Lib.hid fun u hu => by rw [← hb0]; exact met_is_any m 5 i n v 0 g u hu hi
  rw [hb0]
  clear hb0 h
  by_cases h0 : i = 0
  · subst h0
    rw [show ((0 : Int) != 0 && !b0) = false from rfl]
    clear HI0
    go_enter Try.func19, Try.ntmps19
    go_wp2_with (first
      | ((with_reducible refine wpBox1K (.pointer (some ⟨g, 0, none⟩)) 53 (met_ptr_cells _) ?_ ?_); rfl; intro u1 r1 b1 s1; have c1 : u1.cell? ⟨w.heap.size, 0, none⟩ = some (.pointer (some ⟨g, 0, none⟩)) := r1.cell 0; have q13 : u1.cell? ⟨g, 13, none⟩ = some (.int .i64 5) := (HR.out.step b1).cell 13; have q14 : u1.cell? ⟨g, 14, none⟩ = some (.int .i64 0) := (HR.out.step b1).cell 14; have HV : Hid (w.heap.size < u1.heap.size) := Lib.hid (by rw [s1]; exact Nat.lt_succ_self _); have B1 := Lib.hid b1; have HR1 := Lib.hid (HR.out.step b1); clear r1 b1 s1))
    go_ret2
    exact ⟨_, rfl, Nat.le_refl _, HV.out, c1, B1.out⟩
  · have e1 : (i != 0) = true := by simp [h0]
    have e2 : (!(i == 0)) = true := by simp [h0]
    rw [show (i != 0 && !b0) = !b0 by rw [e1]; rfl]
    clear h0
    go_enter Try.func19, Try.ntmps19
    go_wp2_with (first
      | ((with_reducible refine wpBox1K (.pointer (some ⟨g, 0, none⟩)) 53 (met_ptr_cells _) ?_ ?_); rfl; intro u1 r1 b1 s1; have c1 : u1.cell? ⟨w.heap.size, 0, none⟩ = some (.pointer (some ⟨g, 0, none⟩)) := r1.cell 0; have q13 : u1.cell? ⟨g, 13, none⟩ = some (.int .i64 5) := (HR.out.step b1).cell 13; have q14 : u1.cell? ⟨g, 14, none⟩ = some (.int .i64 i) := (HR.out.step b1).cell 14; have HV : Hid (w.heap.size < u1.heap.size) := Lib.hid (by rw [s1]; exact Nat.lt_succ_self _); have B1 := Lib.hid b1; have HR1 := Lib.hid (HR.out.step b1); clear r1 b1 s1)
      | (go_at_call 29; (with_reducible refine (HI0.out u1 HR1.out).mono ?_); rintro e u2 ⟨rfl, d0, rfl⟩))
    go_ret2
    exact ⟨_, rfl, Nat.le_refl _, HV.out, c1, B1.out.drewN _⟩
theorem met_rule_floor (m : Mt) (i n v : Int) : Rule 19 38 m 8 i n v (decide (m.flo < v)) := by
  intro w g h
  have HR := Lib.hid h
  have hmf := met_makeFunc
  obtain ⟨x, hx⟩ : ∃ x, m.flo = x := ⟨_, rfl⟩
  have HQ10 : Hid (∀ u, Row u g 55 (chg m 8 i n v) → u.cell? ⟨g, 10, none⟩ = some (.int .i64 x)) := Lib.hid fun u hu => by rw [← hx]; exact hu.cell 10
  rw [hx]
  clear hx
  clear h
  go_enter Try.func19, Try.ntmps19
  go_wp2_with ((with_reducible refine wpBox1K (.pointer (some ⟨g, 0, none⟩)) 53 (met_ptr_cells _) ?_ ?_); rfl; intro u1 r1 b1 s1; have c1 : u1.cell? ⟨w.heap.size, 0, none⟩ = some (.pointer (some ⟨g, 0, none⟩)) := r1.cell 0; have q13 : u1.cell? ⟨g, 13, none⟩ = some (.int .i64 8) := (HR.out.step b1).cell 13; have q16 : u1.cell? ⟨g, 16, none⟩ = some (.int .i64 v) := (HR.out.step b1).cell 16; have q10 := HQ10.out u1 (HR.out.step b1); have HV : Hid (w.heap.size < u1.heap.size) := Lib.hid (by rw [s1]; exact Nat.lt_succ_self _); have B1 := Lib.hid b1; have HR1 := Lib.hid (HR.out.step b1); clear r1 b1 s1)
  go_quiet (fail)
  go_wp2
  go_ret2
  exact ⟨_, rfl, Nat.le_refl _, HV.out, c1, B1.out.drewN _⟩

theorem met_rule_try (m : Mt) (i n v : Int) (hi : isS i = true) : Rule 19 31 m 3 i n v (m.is i 2 && decide (v ≤ 512) && !m.trial.2) := by
  intro w g h
  have HR := Lib.hid h
  have hmf := met_makeFunc
  have HT := Lib.hid (met_trial_any m)
  have HLM : Hid ((mcs m).length = 13) := Lib.hid rfl
  have HMM : Hid (∀ u, Row u g 55 (chg m 3 i n v) → Row u g 55 ([] ++ mcs m ++ rcv 3 i n v)) := Lib.hid fun u hu => hu
  obtain ⟨b2, hb2⟩ : ∃ b, m.is i 2 = b := ⟨_, rfl⟩
  have HI2 : Hid (∀ u, Row u g 55 (chg m 3 i n v) → Calls Try.prog 29 #[.pointer (some ⟨g, 0, none⟩), .int .i64 2] u fun e w' => e = .returned (.bool b2) ∧ ∃ d, w' = u.drewN d) := Lib.hid fun u hu => by rw [← hb2]; exact met_is_any m 3 i n v 2 g u hu hi
  rw [hb2]
  obtain ⟨t, b, htb⟩ : ∃ t b, m.trial = (t, b) := ⟨_, _, rfl⟩
  rw [htb] at HT ⊢
  obtain ⟨X, hX⟩ : ∃ X, mcs m = X := ⟨_, rfl⟩
  rw [hX] at HT HLM HMM
  clear hb2 h htb hX
  show Calls _ _ _ _ fun e w' => ∃ vb, e = .returned (.tuple #[.bool (b2 && decide (v ≤ 512) && !b), _]) ∧ _
  have HT : Hid (∀ u, Calls Try.prog 10 #[.agg X.toArray] u fun e w' => e = .returned (.tuple #[.int .i64 t, .bool b]) ∧ Below u.heap.size u w') := Lib.hid fun u => HT.out u
  cases b2 with
  | false =>
    go_enter Try.func19, Try.ntmps19
    go_wp2_with (first
      | ((with_reducible refine wpBox1K (.pointer (some ⟨g, 0, none⟩)) 53 (met_ptr_cells _) ?_ ?_); rfl; intro u1 r1 b1 s1; have c1 : u1.cell? ⟨w.heap.size, 0, none⟩ = some (.pointer (some ⟨g, 0, none⟩)) := r1.cell 0; have q13 : u1.cell? ⟨g, 13, none⟩ = some (.int .i64 3) := (HR.out.step b1).cell 13; have HV : Hid (w.heap.size < u1.heap.size) := Lib.hid (by rw [s1]; exact Nat.lt_succ_self _); have B1 := Lib.hid b1; have HR1 := Lib.hid (HR.out.step b1); clear r1 b1 s1)
      | ((with_reducible refine (HMM.out u1 HR1.out).wpLoadMidK 0 rfl 28 fits_meta HLM.out ?_ ?_); rfl)
      | (go_at_call 10; (with_reducible refine (HT.out u1).mono ?_); rintro e u2 ⟨rfl, b2⟩; have B2 := Lib.hid (B1.out.next b2); have HR2 := Lib.hid (HR1.out.step b2); have q16 : u2.cell? ⟨g, 16, none⟩ = some (.int .i64 v) := (HR1.out.step b2).cell 16; have c2 : u2.cell? ⟨w.heap.size, 0, none⟩ = some (.pointer (some ⟨g, 0, none⟩)) := (b2.cell (p := ⟨w.heap.size, 0, none⟩) HV.out).trans c1; have HV2 : Hid (w.heap.size < u2.heap.size) := Lib.hid (Nat.lt_of_lt_of_le HV.out b2.size); clear b2)
      | (go_at_call 29; (with_reducible refine (HI2.out u2 HR2.out).mono ?_); rintro e u3 ⟨rfl, d2, rfl⟩))
    go_ret2
    exact ⟨_, rfl, Nat.le_refl _, HV2.out, c2, B2.out.drewN _⟩
  | true =>
    by_cases hv : v ≤ 512
    · rw [show (true && decide (v ≤ 512) && !b) = !b by simp [hv]]
      go_enter Try.func19, Try.ntmps19
      go_wp2_with (first
        | ((with_reducible refine wpBox1K (.pointer (some ⟨g, 0, none⟩)) 53 (met_ptr_cells _) ?_ ?_); rfl; intro u1 r1 b1 s1; have c1 : u1.cell? ⟨w.heap.size, 0, none⟩ = some (.pointer (some ⟨g, 0, none⟩)) := r1.cell 0; have q13 : u1.cell? ⟨g, 13, none⟩ = some (.int .i64 3) := (HR.out.step b1).cell 13; have HV : Hid (w.heap.size < u1.heap.size) := Lib.hid (by rw [s1]; exact Nat.lt_succ_self _); have B1 := Lib.hid b1; have HR1 := Lib.hid (HR.out.step b1); clear r1 b1 s1)
        | ((with_reducible refine (HMM.out u1 HR1.out).wpLoadMidK 0 rfl 28 fits_meta HLM.out ?_ ?_); rfl)
        | (go_at_call 10; (with_reducible refine (HT.out u1).mono ?_); rintro e u2 ⟨rfl, b2⟩; have B2 := Lib.hid (B1.out.next b2); have HR2 := Lib.hid (HR1.out.step b2); have q16 : u2.cell? ⟨g, 16, none⟩ = some (.int .i64 v) := (HR1.out.step b2).cell 16; have c2 : u2.cell? ⟨w.heap.size, 0, none⟩ = some (.pointer (some ⟨g, 0, none⟩)) := (b2.cell (p := ⟨w.heap.size, 0, none⟩) HV.out).trans c1; have HV2 : Hid (w.heap.size < u2.heap.size) := Lib.hid (Nat.lt_of_lt_of_le HV.out b2.size); clear b2)
        | (go_at_call 29; (with_reducible refine (HI2.out u2 HR2.out).mono ?_); rintro e u3 ⟨rfl, d2, rfl⟩))
      go_ret2
      exact ⟨_, rfl, Nat.le_refl _, HV2.out, c2, B2.out.drewN _⟩
    · rw [show (true && decide (v ≤ 512) && !b) = false by simp [hv]]
      go_enter Try.func19, Try.ntmps19
      go_wp2_with (first
        | ((with_reducible refine wpBox1K (.pointer (some ⟨g, 0, none⟩)) 53 (met_ptr_cells _) ?_ ?_); rfl; intro u1 r1 b1 s1; have c1 : u1.cell? ⟨w.heap.size, 0, none⟩ = some (.pointer (some ⟨g, 0, none⟩)) := r1.cell 0; have q13 : u1.cell? ⟨g, 13, none⟩ = some (.int .i64 3) := (HR.out.step b1).cell 13; have HV : Hid (w.heap.size < u1.heap.size) := Lib.hid (by rw [s1]; exact Nat.lt_succ_self _); have B1 := Lib.hid b1; have HR1 := Lib.hid (HR.out.step b1); clear r1 b1 s1)
        | ((with_reducible refine (HMM.out u1 HR1.out).wpLoadMidK 0 rfl 28 fits_meta HLM.out ?_ ?_); rfl)
        | (go_at_call 10; (with_reducible refine (HT.out u1).mono ?_); rintro e u2 ⟨rfl, b2⟩; have B2 := Lib.hid (B1.out.next b2); have HR2 := Lib.hid (HR1.out.step b2); have q16 : u2.cell? ⟨g, 16, none⟩ = some (.int .i64 v) := (HR1.out.step b2).cell 16; have c2 : u2.cell? ⟨w.heap.size, 0, none⟩ = some (.pointer (some ⟨g, 0, none⟩)) := (b2.cell (p := ⟨w.heap.size, 0, none⟩) HV.out).trans c1; have HV2 : Hid (w.heap.size < u2.heap.size) := Lib.hid (Nat.lt_of_lt_of_le HV.out b2.size); clear b2)
        | (go_at_call 29; (with_reducible refine (HI2.out u2 HR2.out).mono ?_); rintro e u3 ⟨rfl, d2, rfl⟩))
      go_ret2
      exact ⟨_, rfl, Nat.le_refl _, HV2.out, c2, B2.out.drewN _⟩
theorem met_rule_drop (m : Mt) (i n v : Int) (hi : isS i = true) : Rule 19 43 m 13 i n v (m.act != 0 && m.act != i && m.boots i) := by
  intro w g h
  have HR := Lib.hid h
  have hmf := met_makeFunc
  obtain ⟨b, hb⟩ : ∃ b, m.boots i = b := ⟨_, rfl⟩
  have HX : Hid (∀ u, Row u g 55 (chg m 13 i n v) → ∀ d, Calls Try.prog 36 #[.pointer (some ⟨g, 0, none⟩)] (u.drewN d) fun e w' => e = .returned (.bool b) ∧ ∃ d', w' = (u.drewN d).drewN d') := Lib.hid fun u hu d => by rw [← hb]; exact met_boots_any m 13 i n v g (u.drewN d) (hu.drewN d) hi
  rw [hb]
  clear hb
  obtain ⟨x, hx⟩ : ∃ x, m.act = x := ⟨_, rfl⟩
  have HQ9 : Hid (∀ u, Row u g 55 (chg m 13 i n v) → u.cell? ⟨g, 9, none⟩ = some (.int .i64 x)) := Lib.hid fun u hu => by rw [← hx]; exact hu.cell 9
  rw [hx]
  clear hx
  clear h
  by_cases h0 : x = 0
  · subst h0
    rw [show ((0 : Int) != 0 && (0 : Int) != i && b) = false from rfl]
    go_enter Try.func19, Try.ntmps19
    go_wp2_with ((with_reducible refine wpBox1K (.pointer (some ⟨g, 0, none⟩)) 53 (met_ptr_cells _) ?_ ?_); rfl; intro u1 r1 b1 s1; have c1 : u1.cell? ⟨w.heap.size, 0, none⟩ = some (.pointer (some ⟨g, 0, none⟩)) := r1.cell 0; have q13 : u1.cell? ⟨g, 13, none⟩ = some (.int .i64 13) := (HR.out.step b1).cell 13; have q14 : u1.cell? ⟨g, 14, none⟩ = some (.int .i64 i) := (HR.out.step b1).cell 14; have q9 := HQ9.out u1 (HR.out.step b1); have HV : Hid (w.heap.size < u1.heap.size) := Lib.hid (by rw [s1]; exact Nat.lt_succ_self _); have B1 := Lib.hid b1; have HR1 := Lib.hid (HR.out.step b1); clear r1 b1 s1)
    go_quiet ((go_at_call 36; exact Calls.quiet_of (HX.out u1 HR1.out _)))
    go_wp2
    go_ret2
    exact ⟨_, rfl, Nat.le_refl _, HV.out, c1, B1.out.drewN _⟩
  · have e1 : (x != 0) = true := by simp [h0]
    have e2 : (!(x == 0)) = true := by simp [h0]
    by_cases h1 : x = i
    · subst h1
      rw [show (x != 0 && x != x && b) = false by simp]
      clear h0
      go_enter Try.func19, Try.ntmps19
      go_wp2_with ((with_reducible refine wpBox1K (.pointer (some ⟨g, 0, none⟩)) 53 (met_ptr_cells _) ?_ ?_); rfl; intro u1 r1 b1 s1; have c1 : u1.cell? ⟨w.heap.size, 0, none⟩ = some (.pointer (some ⟨g, 0, none⟩)) := r1.cell 0; have q13 : u1.cell? ⟨g, 13, none⟩ = some (.int .i64 13) := (HR.out.step b1).cell 13; have q14 : u1.cell? ⟨g, 14, none⟩ = some (.int .i64 x) := (HR.out.step b1).cell 14; have q9 := HQ9.out u1 (HR.out.step b1); have HV : Hid (w.heap.size < u1.heap.size) := Lib.hid (by rw [s1]; exact Nat.lt_succ_self _); have B1 := Lib.hid b1; have HR1 := Lib.hid (HR.out.step b1); clear r1 b1 s1)
      go_quiet ((go_at_call 36; exact Calls.quiet_of (HX.out u1 HR1.out _)))
      go_wp2
      go_ret2
      exact ⟨_, rfl, Nat.le_refl _, HV.out, c1, B1.out.drewN _⟩
    · have e3 : (x != i) = true := by simp [h1]
      have e4 : (!(x == i)) = true := by simp [h1]
      rw [show (x != 0 && x != i && b) = b by rw [e1, e3]; rfl]
      clear h0 h1
      go_enter Try.func19, Try.ntmps19
      go_wp2_with ((with_reducible refine wpBox1K (.pointer (some ⟨g, 0, none⟩)) 53 (met_ptr_cells _) ?_ ?_); rfl; intro u1 r1 b1 s1; have c1 : u1.cell? ⟨w.heap.size, 0, none⟩ = some (.pointer (some ⟨g, 0, none⟩)) := r1.cell 0; have q13 : u1.cell? ⟨g, 13, none⟩ = some (.int .i64 13) := (HR.out.step b1).cell 13; have q14 : u1.cell? ⟨g, 14, none⟩ = some (.int .i64 i) := (HR.out.step b1).cell 14; have q9 := HQ9.out u1 (HR.out.step b1); have HV : Hid (w.heap.size < u1.heap.size) := Lib.hid (by rw [s1]; exact Nat.lt_succ_self _); have B1 := Lib.hid b1; have HR1 := Lib.hid (HR.out.step b1); clear r1 b1 s1)
      go_quiet ((go_at_call 36; exact Calls.quiet_of (HX.out u1 HR1.out _)))
      go_wp2
      go_ret2
      exact ⟨_, rfl, Nat.le_refl _, HV.out, c1, B1.out.drewN _⟩
theorem met_rule_now (m : Mt) (i n v : Int) : Rule 44 46 m 110 i n v true := by
  intro w g h
  have HR := Lib.hid h
  have hmf := met_makeFunc
  clear h
  go_enter Try.func44, Try.ntmps44
  go_wp2_with ((with_reducible refine wpBox1K (.pointer (some ⟨g, 0, none⟩)) 53 (met_ptr_cells _) ?_ ?_); rfl; intro u1 r1 b1 s1; have c1 : u1.cell? ⟨w.heap.size, 0, none⟩ = some (.pointer (some ⟨g, 0, none⟩)) := r1.cell 0; have q13 : u1.cell? ⟨g, 13, none⟩ = some (.int .i64 110) := (HR.out.step b1).cell 13; have HV : Hid (w.heap.size < u1.heap.size) := Lib.hid (by rw [s1]; exact Nat.lt_succ_self _); have B1 := Lib.hid b1; have HR1 := Lib.hid (HR.out.step b1); clear r1 b1 s1)
  go_ret2
  exact ⟨_, rfl, Nat.le_refl _, HV.out, c1, B1.out⟩

theorem met_rule_began (m : Mt) (i n v : Int) : Rule 44 47 m 111 i n v (decide (v ≤ 512)) := by
  intro w g h
  have HR := Lib.hid h
  have hmf := met_makeFunc
  clear h
  go_enter Try.func44, Try.ntmps44
  go_wp2_with ((with_reducible refine wpBox1K (.pointer (some ⟨g, 0, none⟩)) 53 (met_ptr_cells _) ?_ ?_); rfl; intro u1 r1 b1 s1; have c1 : u1.cell? ⟨w.heap.size, 0, none⟩ = some (.pointer (some ⟨g, 0, none⟩)) := r1.cell 0; have q13 : u1.cell? ⟨g, 13, none⟩ = some (.int .i64 111) := (HR.out.step b1).cell 13; have q16 : u1.cell? ⟨g, 16, none⟩ = some (.int .i64 v) := (HR.out.step b1).cell 16; have HV : Hid (w.heap.size < u1.heap.size) := Lib.hid (by rw [s1]; exact Nat.lt_succ_self _); have B1 := Lib.hid b1; have HR1 := Lib.hid (HR.out.step b1); clear r1 b1 s1)
  go_ret2
  exact ⟨_, rfl, Nat.le_refl _, HV.out, c1, B1.out⟩

theorem met_rule_is (m : Mt) (k i n v : Int) (hk : 0 ≤ k ∧ k < 128) (h1 : k ≠ 110) (h2 : k ≠ 111) (hs : stOk (k - 100) = true) : Rule 44 48 m k i n v true := by
  intro w g h
  have HR := Lib.hid h
  have hmf := met_makeFunc
  have HS := Lib.hid (met_state_any (k - 100))
  obtain ⟨X, hX⟩ : ∃ X, stName (k - 100) = X := ⟨_, rfl⟩
  have he : X.toList.isEmpty = false := by rw [← hX, stName_empty, hs]; rfl
  have he2 : (!X.toList.isEmpty) = true := by rw [he]; rfl
  have e1 : (k == 110) = false := by simp [h1]
  have e2 : (k == 111) = false := by simp [h2]
  obtain ⟨hk0, hk1⟩ := hk
  rw [hX] at HS
  clear h hX hs h1 h2
  go_enter Try.func44, Try.ntmps44
  go_wp2_with (first
    | ((with_reducible refine wpBox1K (.pointer (some ⟨g, 0, none⟩)) 53 (met_ptr_cells _) ?_ ?_); rfl; intro u1 r1 b1 s1; have c1 : u1.cell? ⟨w.heap.size, 0, none⟩ = some (.pointer (some ⟨g, 0, none⟩)) := r1.cell 0; have q13 : u1.cell? ⟨g, 13, none⟩ = some (.int .i64 k) := (HR.out.step b1).cell 13; have HV : Hid (w.heap.size < u1.heap.size) := Lib.hid (by rw [s1]; exact Nat.lt_succ_self _); have B1 := Lib.hid b1; have HR1 := Lib.hid (HR.out.step b1); clear r1 b1 s1)
    | (go_at_call 45; (with_reducible refine (HS.out u1).mono ?_); rintro e u2 ⟨rfl, b2⟩; have B2 := Lib.hid (B1.out.next b2); have HV2 : Hid (w.heap.size < u2.heap.size) := Lib.hid (Nat.lt_of_lt_of_le HV.out b2.size); have c2 : u2.cell? ⟨w.heap.size, 0, none⟩ = some (.pointer (some ⟨g, 0, none⟩)) := (b2.cell (p := ⟨w.heap.size, 0, none⟩) HV.out).trans c1; clear b2))
  go_ret2
  exact ⟨_, rfl, Nat.le_refl _, HV2.out, c2, B2.out⟩

theorem met_rule_none (m : Mt) (k i n v : Int) (hk : 0 ≤ k ∧ k < 128) (h1 : k ≠ 110) (h2 : k ≠ 111) (hs : stOk (k - 100) = false) : NoRule 44 m k i n v := by
  intro w g h
  have HR := Lib.hid h
  have hmf := met_makeFunc
  have HS := Lib.hid (met_state_any (k - 100))
  obtain ⟨X, hX⟩ : ∃ X, stName (k - 100) = X := ⟨_, rfl⟩
  have he : X.toList.isEmpty = true := by rw [← hX, stName_empty, hs]; rfl
  have he2 : (!X.toList.isEmpty) = false := by rw [he]; rfl
  have e1 : (k == 110) = false := by simp [h1]
  have e2 : (k == 111) = false := by simp [h2]
  obtain ⟨hk0, hk1⟩ := hk
  rw [hX] at HS
  clear h hX hs h1 h2
  go_enter Try.func44, Try.ntmps44
  go_wp2_with (first
    | ((with_reducible refine wpBox1K (.pointer (some ⟨g, 0, none⟩)) 53 (met_ptr_cells _) ?_ ?_); rfl; intro u1 r1 b1 s1; have c1 : u1.cell? ⟨w.heap.size, 0, none⟩ = some (.pointer (some ⟨g, 0, none⟩)) := r1.cell 0; have q13 : u1.cell? ⟨g, 13, none⟩ = some (.int .i64 k) := (HR.out.step b1).cell 13; have HV : Hid (w.heap.size < u1.heap.size) := Lib.hid (by rw [s1]; exact Nat.lt_succ_self _); have B1 := Lib.hid b1; have HR1 := Lib.hid (HR.out.step b1); clear r1 b1 s1)
    | (go_at_call 45; (with_reducible refine (HS.out u1).mono ?_); rintro e u2 ⟨rfl, b2⟩; have B2 := Lib.hid (B1.out.next b2); have HV2 : Hid (w.heap.size < u2.heap.size) := Lib.hid (Nat.lt_of_lt_of_le HV.out b2.size); have c2 : u2.cell? ⟨w.heap.size, 0, none⟩ = some (.pointer (some ⟨g, 0, none⟩)) := (b2.cell (p := ⟨w.heap.size, 0, none⟩) HV.out).trans c1; clear b2))
  go_ret2
  exact ⟨rfl, B2.out⟩

theorem met_rule_on (nf : Nat) (m : Mt) (k i n v : Int) (b : Bool) (hk : k < 1 ∨ 13 < k) (hp : Rule 44 nf m k i n v b) : Rule 19 nf m k i n v b := by
  intro w g h
  have HR := Lib.hid h
  have hmf := met_makeFunc
  have HP : Hid (∀ u, Row u g 55 (chg m k i n v) → Calls Try.prog 44 #[.pointer (some ⟨g, 0, none⟩)] u fun e w' => ∃ vb, e = .returned (.tuple #[.bool b, .func (.func nf) #[] #[.pointer (some ⟨vb, 0, none⟩)]]) ∧ u.heap.size ≤ vb ∧ vb < w'.heap.size ∧ w'.cell? ⟨vb, 0, none⟩ = some (.pointer (some ⟨g, 0, none⟩)) ∧ Below u.heap.size u w') := Lib.hid fun u hu => hp u g hu
  have k1 : (k == (1 : Int)) = false := by rw [Bool.eq_false_iff]; simp only [ne_eq, beq_iff_eq]; omega
  have k2 : (k == (2 : Int)) = false := by rw [Bool.eq_false_iff]; simp only [ne_eq, beq_iff_eq]; omega
  have k3 : (k == (3 : Int)) = false := by rw [Bool.eq_false_iff]; simp only [ne_eq, beq_iff_eq]; omega
  have k4 : (k == (4 : Int)) = false := by rw [Bool.eq_false_iff]; simp only [ne_eq, beq_iff_eq]; omega
  have k5 : (k == (5 : Int)) = false := by rw [Bool.eq_false_iff]; simp only [ne_eq, beq_iff_eq]; omega
  have k6 : (k == (6 : Int)) = false := by rw [Bool.eq_false_iff]; simp only [ne_eq, beq_iff_eq]; omega
  have k7 : (k == (7 : Int)) = false := by rw [Bool.eq_false_iff]; simp only [ne_eq, beq_iff_eq]; omega
  have k8 : (k == (8 : Int)) = false := by rw [Bool.eq_false_iff]; simp only [ne_eq, beq_iff_eq]; omega
  have k9 : (k == (9 : Int)) = false := by rw [Bool.eq_false_iff]; simp only [ne_eq, beq_iff_eq]; omega
  have k10 : (k == (10 : Int)) = false := by rw [Bool.eq_false_iff]; simp only [ne_eq, beq_iff_eq]; omega
  have k11 : (k == (11 : Int)) = false := by rw [Bool.eq_false_iff]; simp only [ne_eq, beq_iff_eq]; omega
  have k12 : (k == (12 : Int)) = false := by rw [Bool.eq_false_iff]; simp only [ne_eq, beq_iff_eq]; omega
  have k13 : (k == (13 : Int)) = false := by rw [Bool.eq_false_iff]; simp only [ne_eq, beq_iff_eq]; omega
  clear h hk hp
  go_enter Try.func19, Try.ntmps19
  go_wp2_with (first
    | ((with_reducible refine wpBox1K (.pointer (some ⟨g, 0, none⟩)) 53 (met_ptr_cells _) ?_ ?_); rfl; intro u1 r1 b1 s1; have c1 : u1.cell? ⟨w.heap.size, 0, none⟩ = some (.pointer (some ⟨g, 0, none⟩)) := r1.cell 0; have q13 : u1.cell? ⟨g, 13, none⟩ = some (.int .i64 k) := (HR.out.step b1).cell 13; have HV : Hid (w.heap.size < u1.heap.size) := Lib.hid (by rw [s1]; exact Nat.lt_succ_self _); have B1 := Lib.hid b1; have HR1 := Lib.hid (HR.out.step b1); clear r1 b1 s1)
    | (go_at_call 44; (with_reducible refine (HP.out u1 HR1.out).mono ?_); rintro e u2 ⟨vb, rfl, v1, v2, v3, b2⟩; have B2 := Lib.hid (B1.out.next b2); have V1 : Hid (w.heap.size ≤ vb) := Lib.hid (Nat.le_trans (Nat.le_of_lt HV.out) v1); have V2 := Lib.hid v2; have V3 := Lib.hid v3; clear b2 v1 v2 v3))
  go_ret2
  exact ⟨_, rfl, V1.out, V2.out, V3.out, B2.out⟩

theorem met_rule_off (m : Mt) (k i n v : Int) (hk : k < 1 ∨ 13 < k) (hp : NoRule 44 m k i n v) : NoRule 19 m k i n v := by
  intro w g h
  have HR := Lib.hid h
  have hmf := met_makeFunc
  have HP : Hid (∀ u, Row u g 55 (chg m k i n v) → Calls Try.prog 44 #[.pointer (some ⟨g, 0, none⟩)] u fun e w' => e = .returned (.tuple #[.bool false, .nilFunc]) ∧ Below u.heap.size u w') := Lib.hid fun u hu => hp u g hu
  have k1 : (k == (1 : Int)) = false := by rw [Bool.eq_false_iff]; simp only [ne_eq, beq_iff_eq]; omega
  have k2 : (k == (2 : Int)) = false := by rw [Bool.eq_false_iff]; simp only [ne_eq, beq_iff_eq]; omega
  have k3 : (k == (3 : Int)) = false := by rw [Bool.eq_false_iff]; simp only [ne_eq, beq_iff_eq]; omega
  have k4 : (k == (4 : Int)) = false := by rw [Bool.eq_false_iff]; simp only [ne_eq, beq_iff_eq]; omega
  have k5 : (k == (5 : Int)) = false := by rw [Bool.eq_false_iff]; simp only [ne_eq, beq_iff_eq]; omega
  have k6 : (k == (6 : Int)) = false := by rw [Bool.eq_false_iff]; simp only [ne_eq, beq_iff_eq]; omega
  have k7 : (k == (7 : Int)) = false := by rw [Bool.eq_false_iff]; simp only [ne_eq, beq_iff_eq]; omega
  have k8 : (k == (8 : Int)) = false := by rw [Bool.eq_false_iff]; simp only [ne_eq, beq_iff_eq]; omega
  have k9 : (k == (9 : Int)) = false := by rw [Bool.eq_false_iff]; simp only [ne_eq, beq_iff_eq]; omega
  have k10 : (k == (10 : Int)) = false := by rw [Bool.eq_false_iff]; simp only [ne_eq, beq_iff_eq]; omega
  have k11 : (k == (11 : Int)) = false := by rw [Bool.eq_false_iff]; simp only [ne_eq, beq_iff_eq]; omega
  have k12 : (k == (12 : Int)) = false := by rw [Bool.eq_false_iff]; simp only [ne_eq, beq_iff_eq]; omega
  have k13 : (k == (13 : Int)) = false := by rw [Bool.eq_false_iff]; simp only [ne_eq, beq_iff_eq]; omega
  clear h hk hp
  go_enter Try.func19, Try.ntmps19
  go_wp2_with (first
    | ((with_reducible refine wpBox1K (.pointer (some ⟨g, 0, none⟩)) 53 (met_ptr_cells _) ?_ ?_); rfl; intro u1 r1 b1 s1; have c1 : u1.cell? ⟨w.heap.size, 0, none⟩ = some (.pointer (some ⟨g, 0, none⟩)) := r1.cell 0; have q13 : u1.cell? ⟨g, 13, none⟩ = some (.int .i64 k) := (HR.out.step b1).cell 13; have HV : Hid (w.heap.size < u1.heap.size) := Lib.hid (by rw [s1]; exact Nat.lt_succ_self _); have B1 := Lib.hid b1; have HR1 := Lib.hid (HR.out.step b1); clear r1 b1 s1)
    | (go_at_call 44; (with_reducible refine (HP.out u1 HR1.out).mono ?_); rintro e u2 ⟨rfl, b2⟩; have B2 := Lib.hid (B1.out.next b2); clear b2))
  go_ret2
  exact ⟨rfl, B2.out⟩

end Go.Proofs.Ytbpdnaiackfdmaa
