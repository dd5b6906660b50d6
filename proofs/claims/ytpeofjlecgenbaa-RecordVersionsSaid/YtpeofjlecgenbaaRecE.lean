/- RecordVersions (gen_rec_e.py). -/
import Derived.Test.YtpeofjlecgenbaaRecD
import Derived.Test.YtpeofjlecgenbaaEq
namespace Go.Proofs.Ytpeofjlecgenbaa
open Go.RowKit CrcMath NumMath
set_option linter.unusedVariables false
set_option maxRecDepth 100000

def inB (x : Int) : Bool := decide (0 ≤ x ∧ x < 65536)
def sel (a b c : Int) : Nat → Int | 0 => a | 1 => b | _ => c
def preV (a b c : Int) : Nat → Bool | 0 => true | 1 => inB a | 2 => inB a && inB b | _ => vOk a b c
theorem preV_step (a b c : Int) (k : Nat) (h : k < 3) : preV a b c (k + 1) = (preV a b c k && inB (sel a b c k)) := by
  match k, h with
  | 0, _ => simp [preV, sel]
  | 1, _ => simp [preV, sel]
  | 2, _ =>
    simp only [preV, sel, inB, vOk]
    rw [← Bool.decide_and, ← Bool.decide_and, decide_eq_decide]
    omega
theorem sel_get (a b c : Int) (k : Nat) (h : k < 3) : (vcv a b c)[k]? = some (.int .i64 (sel a b c k)) := by
  match k, h with
  | 0, _ => rfl
  | 1, _ => rfl
  | 2, _ => rfl
theorem numV_in {a b c : Int} (h : vOk a b c = true) : vIn (numV a b c) = true ∧ verR (numV a b c) = vcv a b c := by
  obtain ⟨h1, h2, h3, h4, h5, h6⟩ : 0 ≤ a ∧ a < 65536 ∧ 0 ≤ b ∧ b < 65536 ∧ 0 ≤ c ∧ c < 65536 := by simpa [vOk] using h
  have hin : vIn (numV a b c) = true := by unfold vIn numV; rw [decide_eq_true_eq]; omega
  refine ⟨hin, ?_⟩
  have e : (numV a b c).toNat = (a.toNat * 65536 + b.toNat) * 65536 + c.toNat := by unfold numV; omega
  have hb : b.toNat < 65536 := by omega
  have hc : c.toNat < 65536 := by omega
  obtain ⟨e1, e4⟩ := dm (a.toNat * 65536 + b.toNat) c.toNat 65536 hc
  obtain ⟨e2, e3⟩ := dm a.toNat b.toNat 65536 hb
  have ea : verA (numV a b c) = a := by
    unfold verA
    rw [e, show (4294967296 : Nat) = 65536 * 65536 from rfl, ← Nat.div_div_eq_div_mul, e1, e2]
    omega
  have eb : verB (numV a b c) = b := by
    unfold verB
    rw [e, e1, e3]
    omega
  have ec : verC (numV a b c) = c := by
    unfold verC
    rw [e, e4]
    omega
  unfold verR
  rw [hin, if_pos rfl, ea, eb, ec]
theorem ver_numR {n : Int} : ∃ a b c, verR n = vcv a b c ∧ vOk a b c = true ∧ numV a b c = if vIn n then n else 0 := by
  cases h : vIn n with
  | true =>
    obtain ⟨h1, h2⟩ := ver_ok (n := n) (by simpa [vIn] using h)
    exact ⟨verA n, verB n, verC n, by unfold verR; rw [h, if_pos rfl], h1, by rw [h2, if_pos rfl]⟩
  | false => exact ⟨0, 0, 0, by unfold verR; rw [h, if_neg (by decide)], by decide, by rw [if_neg (by decide)]; decide⟩
theorem rec_isz : ∀ w : World, (sizeOf 3).run Try.prog w = .ok 1 w := fun w => Try.sizeOf3 w
theorem rec_iag : ∀ w : World, (isAgg 3).run Try.prog w = .ok false w := fun w => Try.isAgg3 w
theorem eq_ver (a b c : Int) (u : World) : (Op.equalIn 10000 51 (.agg (vcv a b c).toArray) (.agg (vcv a b c).toArray)).run Try.prog u = .ok true u := by
  have := run_equal_ints 9998 51 3 3 .i64 [a, b, c] [a, b, c] u Try.underlying51 Try.underlying3 rec_isz rec_iag rfl rfl
  simpa [vcv] using this
theorem num_five {a b c d e f : Int} (h : vOk a b c = true) (h' : vOk d e f = true) :
    (a < d → (decide (numV a b c < numV d e f)) = true) ∧ (d < a → (decide (numV a b c < numV d e f)) = false) ∧ (a = d → b < e → (decide (numV a b c < numV d e f)) = true) ∧ (a = d → e < b → (decide (numV a b c < numV d e f)) = false) ∧ (a = d → b = e → (decide (numV a b c < numV d e f)) = decide (c < f)) := by
  rw [num_less h h']
  refine ⟨fun h => ?_, fun h => ?_, fun h h2 => ?_, fun h h2 => ?_, fun h h2 => ?_⟩
  · rw [decide_eq_true_eq]; omega
  · rw [decide_eq_false_iff_not]; omega
  · rw [decide_eq_true_eq]; omega
  · rw [decide_eq_false_iff_not]; omega
  · rw [decide_eq_decide]; omega

/-- What is known of the numbers, in the walk's spelling. -/
structure Five (a b c d e f N1 N2 : Int) (ok : Bool) : Prop where
  w1 : ok = true → a < d → (decide (N1 < N2)) = true
  w2 : ok = true → d < a → (decide (N1 < N2)) = false
  w3 : ok = true → a = d → b < e → (decide (N1 < N2)) = true
  w4 : ok = true → a = d → e < b → (decide (N1 < N2)) = false
  w5 : ok = true → a = d → b = e → (decide (N1 < N2)) = decide (c < f)
theorem five (a b c d e f : Int) : Five a b c d e f (numR a b c) (numR d e f) (vOk a b c && vOk d e f) := by
  have key : (vOk a b c && vOk d e f) = true → vOk a b c = true ∧ vOk d e f = true ∧ numR a b c = numV a b c ∧ numR d e f = numV d e f := fun h => by
    rw [Bool.and_eq_true] at h
    refine ⟨h.1, h.2, ?_, ?_⟩
    · unfold numR; rw [h.1, if_pos rfl]
    · unfold numR; rw [h.2, if_pos rfl]
  refine ⟨fun h g => ?_, fun h g => ?_, fun h g g2 => ?_, fun h g g2 => ?_, fun h g g2 => ?_⟩ <;> obtain ⟨h1, h2, h3, h4⟩ := key h <;> rw [h3, h4]
  · exact (num_five h1 h2).1 g
  · exact (num_five h1 h2).2.1 g
  · exact (num_five h1 h2).2.2.1 g g2
  · exact (num_five h1 h2).2.2.2.1 g g2
  · exact (num_five h1 h2).2.2.2.2 g g2

theorem ways {a b c d e f N1 N2 : Int} {ok : Bool} (h : Five a b c d e f N1 N2 ok) :
    (a < d ∧ (ok = true → (decide (N1 < N2)) = true)) ∨ (¬ a < d ∧ (a == d) = false ∧ (ok = true → (decide (N1 < N2)) = false)) ∨ (¬ a < d ∧ (a == d) = true ∧ b < e ∧ (ok = true → (decide (N1 < N2)) = true)) ∨
    (¬ a < d ∧ (a == d) = true ∧ ¬ b < e ∧ (b == e) = false ∧ (ok = true → (decide (N1 < N2)) = false)) ∨ (¬ a < d ∧ (a == d) = true ∧ ¬ b < e ∧ (b == e) = true ∧ (ok = true → (decide (N1 < N2)) = decide (c < f))) := by
  rcases (by omega : (a < d ∨ d < a) ∨ (a = d ∧ b < e ∨ a = d ∧ e < b) ∨ a = d ∧ b = e) with (hw | hw) | (⟨hw, hw2⟩ | ⟨hw, hw2⟩) | ⟨hw, hw2⟩
  · exact .inl ⟨hw, fun g => h.w1 g hw⟩
  · exact .inr (.inl ⟨by omega, by simpa using (show ¬ a = d by omega), fun g => h.w2 g hw⟩)
  · exact .inr (.inr (.inl ⟨by omega, by simpa using hw, hw2, fun g => h.w3 g hw hw2⟩))
  · exact .inr (.inr (.inr (.inl ⟨by omega, by simpa using hw, by omega, by simpa using (show ¬ b = e by omega), fun g => h.w4 g hw hw2⟩)))
  · exact .inr (.inr (.inr (.inr ⟨by omega, by simpa using hw, by omega, by simpa using hw2, fun g => h.w5 g hw hw2⟩)))
end Go.Proofs.Ytpeofjlecgenbaa
