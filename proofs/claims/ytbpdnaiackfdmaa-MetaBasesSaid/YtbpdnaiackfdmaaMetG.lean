/- Do, of every record. -/
import Derived.Test.YtbpdnaiackfdmaaMetF
namespace Go.Proofs.Ytbpdnaiackfdmaa
open Go.RowKit MetMath
set_option linter.unusedVariables false
set_option maxRecDepth 100000

theorem met_do_by (nf : Nat) (m : Mt) (k i n v : Int) (b : Bool) (m' : Mt) (w : World) (h : (!rOk k i n v || (ofS k && !isS i)) = false) (e : m.rule k i v = some (b, m'))
    (hr : Rule 19 nf m k i n v b) (hd : Does nf m k i n v m') (hcf : ∀ args u, (callFunc nf args).run Try.prog u = .ok (.enter nf args) u) :
    Calls Try.prog 8 #[.agg (mcs m).toArray, .agg (rcv k i n v).toArray] w fun e w' => e = .returned (.tuple #[.agg (mcs (m.doo (rOk k i n v) k i v).1).toArray, .int .i64 (m.doo (rOk k i n v) k i v).2]) ∧ Below w.heap.size w w' := by
  have hne : ¬ (!rOk k i n v || (ofS k && !isS i)) = true := by rw [h]; decide
  cases b with
  | true =>
    have e2 : m.doo (rOk k i n v) k i v = (m', 0) := by unfold Mt.doo; rw [if_neg hne, e]
    rw [e2]
    exact met_do_yes m k i n v w nf m' hr hd hcf h
  | false =>
    have e2 : m.doo (rOk k i n v) k i v = (m, 10) := by unfold Mt.doo; rw [if_neg hne, e]
    rw [e2]
    exact met_do_not m k i n v w nf hr h
theorem met_do_any (m : Mt) (k i n v : Int) (w : World) :
    Calls Try.prog 8 #[.agg (mcs m).toArray, .agg (rcv k i n v).toArray] w fun e w' => e = .returned (.tuple #[.agg (mcs (m.doo (rOk k i n v) k i v).1).toArray, .int .i64 (m.doo (rOk k i n v) k i v).2]) ∧ Below w.heap.size w w' := by
  cases h : (!rOk k i n v || (ofS k && !isS i)) with
  | true =>
    have e2 : m.doo (rOk k i n v) k i v = (m, 1) := by unfold Mt.doo; rw [if_pos h]
    rw [e2]
    exact met_do_bad m k i n v w h
  | false =>
    have hok : rOk k i n v = true := by
      cases hh : rOk k i n v with
      | true => rfl
      | false => rw [hh] at h; simp at h
    have hk := rOk_is hok
    have hi : ofS k = true → isS i = true := fun ho => by
      cases hh : isS i with
      | true => rfl
      | false => rw [hok, ho, hh] at h; simp at h
    by_cases k1 : k = 1
    · subst k1
      exact met_do_by 27 m 1 i n v _ _ w h rfl (met_rule_write m i n v (hi rfl)) (met_does_write m 1 i n v (hi rfl)) (fun _ _ => by kernel_rfl)
    by_cases k2 : k = 2
    · subst k2
      exact met_do_by 30 m 2 i n v _ _ w h rfl (met_rule_stage m i n v (hi rfl)) (met_does_stage m 2 i n v (hi rfl)) (fun _ _ => by kernel_rfl)
    by_cases k3 : k = 3
    · subst k3
      exact met_do_by 31 m 3 i n v _ _ w h rfl (met_rule_try m i n v (hi rfl)) (met_does_try m 3 i n v (hi rfl)) (fun _ _ => by kernel_rfl)
    by_cases k4 : k = 4
    · subst k4
      exact met_do_by 32 m 4 i n v _ _ w h rfl (met_rule_confirm m i n v (hi rfl)) (met_does_confirm m 4 i n v (hi rfl)) (fun _ _ => by kernel_rfl)
    by_cases k5 : k = 5
    · subst k5
      exact met_do_by 33 m 5 i n v _ _ w h rfl (met_rule_bad m i n v (hi rfl)) (met_does_bad m 5 i n v) (fun _ _ => by kernel_rfl)
    by_cases k6 : k = 6
    · subst k6
      exact met_do_by 35 m 6 i n v _ _ w h rfl (met_rule_clear m i n v (hi rfl)) (met_does_clear m 6 i n v (hi rfl)) (fun _ _ => by kernel_rfl)
    by_cases k7 : k = 7
    · subst k7
      exact met_do_by 37 m 7 i n v _ _ w h rfl (met_rule_activate m i n v (hi rfl)) (met_does_activate m 7 i n v) (fun _ _ => by kernel_rfl)
    by_cases k8 : k = 8
    · subst k8
      exact met_do_by 38 m 8 i n v _ _ w h rfl (met_rule_floor m i n v) (met_does_floor m 8 i n v) (fun _ _ => by kernel_rfl)
    by_cases k9 : k = 9
    · subst k9
      exact met_do_by 39 m 9 i n v _ _ w h rfl (met_rule_cursor m i n v) (met_does_cursor m 9 i n v) (fun _ _ => by kernel_rfl)
    by_cases k10 : k = 10
    · subst k10
      exact met_do_by 40 m 10 i n v _ _ w h rfl (met_rule_intent m i n v) (met_does_intent m 10 i n v) (fun _ _ => by kernel_rfl)
    by_cases k11 : k = 11
    · subst k11
      exact met_do_by 41 m 11 i n v _ _ w h rfl (met_rule_done m i n v) (met_does_done m 11 i n v) (fun _ _ => by kernel_rfl)
    by_cases k12 : k = 12
    · subst k12
      exact met_do_by 42 m 12 i n v _ _ w h rfl (met_rule_copy m i n v (hi rfl)) (met_does_copy m 12 i n v (hi rfl)) (fun _ _ => by kernel_rfl)
    by_cases k13 : k = 13
    · subst k13
      exact met_do_by 43 m 13 i n v _ _ w h rfl (met_rule_drop m i n v (hi rfl)) (met_does_drop m 13 i n v) (fun _ _ => by kernel_rfl)
    by_cases k110 : k = 110
    · subst k110
      exact met_do_by 46 m 110 i n v _ _ w h rfl (met_rule_on _ m 110 i n v _ (by omega) (met_rule_now m i n v)) (met_does_now m 110 i n v) (fun _ _ => by kernel_rfl)
    by_cases k111 : k = 111
    · subst k111
      exact met_do_by 47 m 111 i n v _ _ w h rfl (met_rule_on _ m 111 i n v _ (by omega) (met_rule_began m i n v)) (met_does_began m 111 i n v (hi rfl)) (fun _ _ => by kernel_rfl)
    have hk13 : k < 1 ∨ 13 < k := by omega
    cases hs : stOk (k - 100) with
    | true =>
      have hs2 := hs
      simp only [stOk, Bool.and_eq_true, decide_eq_true_eq] at hs2
      have hi' : isS i = true := hi (by simp only [ofS, Bool.or_eq_true, decide_eq_true_eq]; omega)
      exact met_do_by 48 m k i n v true (m.put i ⟨k - 100, v, (m.get i).b⟩) w h (by unfold Mt.rule; rw [if_neg k1, if_neg k2, if_neg k3, if_neg k4, if_neg k5, if_neg k6, if_neg k7, if_neg k8, if_neg k9, if_neg k10, if_neg k11, if_neg k12, if_neg k13, if_neg k110, if_neg k111]; rw [if_pos hs])
        (met_rule_on _ m k i n v _ hk13 (met_rule_is m k i n v ⟨hk.1, hk.2.1⟩ k110 k111 hs)) (met_does_is m k i n v hi' ⟨hk.1, hk.2.1⟩) (fun _ _ => by kernel_rfl)
    | false =>
      have hne : ¬ (!rOk k i n v || (ofS k && !isS i)) = true := by rw [h]; decide
      have e2 : m.doo (rOk k i n v) k i v = (m, 1) := by
        have e : m.rule k i v = none := by unfold Mt.rule; rw [if_neg k1, if_neg k2, if_neg k3, if_neg k4, if_neg k5, if_neg k6, if_neg k7, if_neg k8, if_neg k9, if_neg k10, if_neg k11, if_neg k12, if_neg k13, if_neg k110, if_neg k111]; rw [if_neg (by rw [hs]; decide)]
        unfold Mt.doo
        rw [if_neg hne, e]
      rw [e2]
      exact met_do_none m k i n v w (met_rule_off m k i n v hk13 (met_rule_none m k i n v ⟨hk.1, hk.2.1⟩ k110 k111 hs)) h
end Go.Proofs.Ytbpdnaiackfdmaa
