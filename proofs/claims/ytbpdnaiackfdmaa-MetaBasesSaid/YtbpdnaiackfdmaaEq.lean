/- Arrays of numbers, held against one another. -/
import Derived.Test.YtbpdnaiackfdmaaKit
namespace Go.Proofs.Ytbpdnaiackfdmaa
section
variable {P : Program}
theorem run_part_int {e : TypeId} (hg : ∀ w, (isAgg e).run P w = .ok false w) (xs : Array Value) (i : Nat) (v : Value) (h : xs[i]? = some v) (w : World) : (part e xs i).run P w = .ok v w := by
  simp [part, hg, h]
/-- An array's element, the array at hand as a value. -/
theorem run_index_array (t e : TypeId) (n : Nat) (k : IntKind) (cs : Array Value) (j : Nat) (v : Value) (w : World) (ht : P.underlying t = some (.array n e))
    (hs : ∀ w, (sizeOf e).run P w = .ok 1 w) (hg : ∀ w, (isAgg e).run P w = .ok false w) (hj : j < n) (h : cs[j]? = some v) :
    (Instr.index t (.agg cs) (.int k (j : Int))).run P w = .ok v w := by
  have h1 : (0 : Int) ≤ (j : Int) ∧ (j : Int) < (n : Int) := ⟨by omega, by omega⟩
  simp only [Instr.index, asIntOf, Sem.run_bind, Sem.run_pure, Result.andThen_ok, run_underlying ht, if_pos h1, hs, Int.toNat_natCast, Nat.mul_one]
  exact run_part_int hg cs j v h w
theorem run_equal_ints (D : Nat) (t e : TypeId) (n : Nat) (k : IntKind) (xs ys : List Int) (w : World) (ht : P.underlying t = some (.array n e)) (he : P.underlying e = some (.int k)) 
   (hs : ∀ w, (sizeOf e).run P w = .ok 1 w) (hg : ∀ w, (isAgg e).run P w = .ok false w) (hx : xs.length = n) (hy : ys.length = n) :
    (Op.equalIn (D + 2) t (.agg (xs.map (Value.int k)).toArray) (.agg (ys.map (Value.int k)).toArray)).run P w = .ok (decide (xs = ys)) w := by
  obtain ⟨E, hE⟩ : ∃ E, D + 1 = E := ⟨_, rfl⟩
  have hstep : ∀ (a b : Int) (w : World), (Op.equalIn E e (.int k a) (.int k b)).run P w = .ok (a == b) w := fun a b w => by
    rw [← hE]; exact run_equalIn_int w D e k k a b he
  rw [show D + 2 = E + 1 by omega]
  simp only [Op.equalIn, Sem.run_bind, run_underlying ht, Result.andThen_ok, hs, Nat.mul_one]
  rw [Std.Legacy.Range.forIn_eq_forIn_range']
  have key : ∀ (m i : Nat), i + m = n → xs.take i = ys.take i → ∀ w,
     ((forIn (List.range' i m 1) ((none : Option Bool), ()) fun (j : Nat) (_ : Option Bool × Unit) => do
        if (!(← Op.equalIn E e (← part e (List.map (Value.int k) xs).toArray j) (← part e (List.map (Value.int k) ys).toArray j))) = true then pure (ForInStep.done (some false, ())) else pure (ForInStep.yield ((none : Option Bool), ())) : Sem (Option Bool × Unit))).run P w = .ok (if xs = ys then none else some false, ()) w := by
    intro m
    induction m with
    | zero =>
      intro i hi hp w
      have e : xs = ys := by rwa [List.take_of_length_le (by omega), List.take_of_length_le (by omega)] at hp
      rw [if_pos e]
      simp
    | succ m ih =>
      intro i hi hp w
      have h1 : i < xs.length := by omega
      have h2 : i < ys.length := by omega
      have p1 := run_part_int (P := P) hg (List.map (Value.int k) xs).toArray i (.int k xs[i]) (by simp [h1])
      have p2 := run_part_int (P := P) hg (List.map (Value.int k) ys).toArray i (.int k ys[i]) (by simp [h2])
      rw [List.range'_succ, List.forIn_cons]
      simp only [Sem.run_bind, p1, p2, hstep, Result.andThen_ok]
      by_cases e : xs[i] = ys[i]
      · have eb : (xs[i] == ys[i]) = true := by simpa using e
        simp only [eb, Bool.not_true, Bool.false_eq_true, if_false, Sem.run_pure, Result.andThen_ok]
        exact ih (i + 1) (by omega) (by rw [List.take_succ_eq_append_getElem h1, List.take_succ_eq_append_getElem h2, hp, e]) w
      · have eb : (xs[i] == ys[i]) = false := by simpa using e
        have hne : ¬ xs = ys := fun h => e (by simp [h])
        simp only [eb, Bool.not_false, if_true, Sem.run_pure, Result.andThen_ok, if_neg hne]
  have hsz : [:n].size = n := by simp [Std.Legacy.Range.size]
  rw [hsz]
  have k0 := key n 0 (by omega) rfl w
  refine (congrArg (fun r => Result.andThen r _) k0).trans ?_
  by_cases e : xs = ys
  · simp [e]
  · simp [e]
end
end Go.Proofs.Ytbpdnaiackfdmaa
