/- What is known, held against itself. -/
import Derived.Test.YtbpdnaiackfdmaaMetC
import Derived.Test.YtbpdnaiackfdmaaEq
import Derived.ChangeKeysEq
namespace Go.Proofs.Ytbpdnaiackfdmaa
open Go.RowKit MetMath
set_option linter.unusedVariables false
set_option maxRecDepth 100000

theorem met_agg_int : ∀ w, (isAgg 3).run Try.prog w = .ok false w := fun w => by kernel_rfl
theorem met_agg_slot : ∀ w, (isAgg 25).run Try.prog w = .ok true w := fun w => by kernel_rfl
theorem met_agg_slots : ∀ w, (isAgg 26).run Try.prog w = .ok true w := fun w => by kernel_rfl
theorem met_size_slot : ∀ w, (sizeOf 25).run Try.prog w = .ok 3 w := fun w => by kernel_rfl
theorem met_size_slots : ∀ w, (sizeOf 26).run Try.prog w = .ok 9 w := fun w => by kernel_rfl
theorem met_part_agg {e : TypeId} {sz : Nat} (hg : ∀ w, (isAgg e).run Try.prog w = .ok true w) (hs : ∀ w, (sizeOf e).run Try.prog w = .ok sz w) (xs : Array Value) (i : Nat) (w : World) : (part e xs i).run Try.prog w = .ok (.agg (xs.extract i (i + sz))) w := by
  simp [part, hg, hs]
theorem met_int_same (D : Nat) (n : Int) (u : World) : (Op.equalIn (D + 1) 3 (.int .i64 n) (.int .i64 n)).run Try.prog u = .ok true u :=
  (run_equalIn_int u D 3 .i64 .i64 n n Try.underlying3).trans (by rw [beq_self_eq_true])
theorem met_slot_fields : ∃ f0 f1 f2 : Field, (Try.prog.fieldsOf 25).toList = [f0, f1, f2] ∧ (f0.name ≠ "_" ∧ f1.name ≠ "_" ∧ f2.name ≠ "_") ∧ (f0.type = 3 ∧ f1.type = 3 ∧ f2.type = 3) ∧ f0.offset = 0 ∧ f1.offset = 1 ∧ f2.offset = 2 := by
  have h : (Try.prog.fieldsOf 25).toList.map (fun f => (f.name, f.type, f.offset)) = [("State", 3, 0), ("Version", 3, 1), ("Base", 3, 2)] := by kernel_rfl
  revert h
  generalize (Try.prog.fieldsOf 25).toList = l
  intro h
  have hl : l.length = 3 := by simpa using congrArg List.length h
  match l, hl, h with
  | [f0, f1, f2], _, h =>
    simp only [List.map_cons, List.map_nil, List.cons.injEq, Prod.mk.injEq, and_true] at h
    obtain ⟨⟨a1, a2, a3⟩, ⟨b1, b2, b3⟩, c1, c2, c3⟩ := h
    exact ⟨f0, f1, f2, rfl, ⟨by rw [a1]; simp, by rw [b1]; simp, by rw [c1]; simp⟩, ⟨a2, b2, c2⟩, a3, b3, c3⟩
theorem met_meta_fields : ∃ f0 f1 f2 f3 f4 : Field, (Try.prog.fieldsOf 28).toList = [f0, f1, f2, f3, f4] ∧ (f0.name ≠ "_" ∧ f1.name ≠ "_" ∧ f2.name ≠ "_" ∧ f3.name ≠ "_" ∧ f4.name ≠ "_")
    ∧ (f0.type = 26 ∧ f1.type = 3 ∧ f2.type = 3 ∧ f3.type = 3 ∧ f4.type = 3) ∧ f0.offset = 0 ∧ f1.offset = 9 ∧ f2.offset = 10 ∧ f3.offset = 11 ∧ f4.offset = 12 := by
  have h : (Try.prog.fieldsOf 28).toList.map (fun f => (f.name, f.type, f.offset)) = [("Slots", 26, 0), ("Active", 3, 9), ("Floor", 3, 10), ("Cursor", 3, 11), ("Intent", 3, 12)] := by kernel_rfl
  revert h
  generalize (Try.prog.fieldsOf 28).toList = l
  intro h
  have hl : l.length = 5 := by simpa using congrArg List.length h
  match l, hl, h with
  | [f0, f1, f2, f3, f4], _, h =>
    simp only [List.map_cons, List.map_nil, List.cons.injEq, Prod.mk.injEq, and_true] at h
    obtain ⟨⟨a1, a2, a3⟩, ⟨b1, b2, b3⟩, ⟨c1, c2, c3⟩, ⟨d1, d2, d3⟩, e1, e2, e3⟩ := h
    exact ⟨f0, f1, f2, f3, f4, rfl, ⟨by rw [a1]; simp, by rw [b1]; simp, by rw [c1]; simp, by rw [d1]; simp, by rw [e1]; simp⟩, ⟨a2, b2, c2, d2, e2⟩, a3, b3, c3, d3, e3⟩
theorem met_slot_same (D : Nat) (x : Sl) (u : World) : (Op.equalIn (D + 2) 25 (.agg (slc x).toArray) (.agg (slc x).toArray)).run Try.prog u = .ok true u := by
  refine (run_equalIn_struct u (D + 1) 25 _ _ (by kernel_rfl) (by kernel_rfl)).trans ?_
  obtain ⟨f0, f1, f2, hf, ⟨n0, n1, n2⟩, ⟨t0, t1, t2⟩, o0, o1, o2⟩ := met_slot_fields
  rw [hf]
  have p0 : (part 3 (slc x).toArray 0).run Try.prog u = .ok (.int .i64 x.s) u := run_part_int met_agg_int _ 0 _ (by rfl) u
  have p1 : (part 3 (slc x).toArray 1).run Try.prog u = .ok (.int .i64 x.v) u := run_part_int met_agg_int _ 1 _ (by rfl) u
  have p2 : (part 3 (slc x).toArray 2).run Try.prog u = .ok (.int .i64 x.b) u := run_part_int met_agg_int _ 2 _ (by rfl) u
  have e0 := met_int_same D x.s u
  have e1 := met_int_same D x.v u
  have e2 := met_int_same D x.b u
  generalize D + 1 = E at *
  simp only [Op.eqFields, n0, n1, n2, ne_eq, not_false_eq_true, if_true, t0, t1, t2, o0, o1, o2, Sem.run_bind, p0, p1, p2, Result.andThen_ok, e0, e1, e2, Bool.not_true, Bool.false_eq_true, if_false, Sem.run_pure]
theorem met_slots_same (D : Nat) (m : Mt) (u : World) : (Op.equalIn (D + 3) 26 (.agg (slots m).toArray) (.agg (slots m).toArray)).run Try.prog u = .ok true u := by
  obtain ⟨i, hi⟩ : ∃ i, Try.prog.info? 25 = some i := info_of_underlying Try.underlying25
  refine (run_equalIn_array u (D + 2) (n := 3) _ _ Try.underlying26 hi).trans ?_
  rw [show Try.prog.cellsOf 25 = 3 by kernel_rfl, show List.range 3 = [0, 1, 2] from rfl]
  have p0 := met_part_agg met_agg_slot met_size_slot (slots m).toArray 0 u
  have p1 := met_part_agg met_agg_slot met_size_slot (slots m).toArray 3 u
  have p2 := met_part_agg met_agg_slot met_size_slot (slots m).toArray 6 u
  rw [show (slots m).toArray.extract 0 (0 + 3) = (slc m.a).toArray by apply Array.ext'; simp [slots, slc]] at p0
  rw [show (slots m).toArray.extract 3 (3 + 3) = (slc m.b).toArray by apply Array.ext'; simp [slots, slc]] at p1
  rw [show (slots m).toArray.extract 6 (6 + 3) = (slc m.c).toArray by apply Array.ext'; simp [slots, slc]] at p2
  have e0 := met_slot_same D m.a u
  have e1 := met_slot_same D m.b u
  have e2 := met_slot_same D m.c u
  generalize D + 2 = E at *
  simp only [Op.eqItems, Nat.zero_mul, Nat.one_mul, Nat.reduceMul, Sem.run_bind, p0, p1, p2, Result.andThen_ok, e0, e1, e2, Bool.not_true, Bool.false_eq_true, if_false, Sem.run_pure]
theorem met_same (D : Nat) (m : Mt) (u : World) : (Op.equalIn (D + 4) 28 (.agg (mcs m).toArray) (.agg (mcs m).toArray)).run Try.prog u = .ok true u := by
  refine (run_equalIn_struct u (D + 3) 28 _ _ (by kernel_rfl) (by kernel_rfl)).trans ?_
  obtain ⟨f0, f1, f2, f3, f4, hf, ⟨n0, n1, n2, n3, n4⟩, ⟨t0, t1, t2, t3, t4⟩, o0, o1, o2, o3, o4⟩ := met_meta_fields
  rw [hf]
  have p0 := met_part_agg met_agg_slots met_size_slots (mcs m).toArray 0 u
  rw [show (mcs m).toArray.extract 0 (0 + 9) = (slots m).toArray by apply Array.ext'; simp [mcs, slots, slc]] at p0
  have p1 : (part 3 (mcs m).toArray 9).run Try.prog u = .ok (.int .i64 m.act) u := run_part_int met_agg_int _ 9 _ (by rfl) u
  have p2 : (part 3 (mcs m).toArray 10).run Try.prog u = .ok (.int .i64 m.flo) u := run_part_int met_agg_int _ 10 _ (by rfl) u
  have p3 : (part 3 (mcs m).toArray 11).run Try.prog u = .ok (.int .i64 m.cur) u := run_part_int met_agg_int _ 11 _ (by rfl) u
  have p4 : (part 3 (mcs m).toArray 12).run Try.prog u = .ok (.int .i64 m.int) u := run_part_int met_agg_int _ 12 _ (by rfl) u
  have e0 := met_slots_same D m u
  have e1 := met_int_same (D + 2) m.act u
  have e2 := met_int_same (D + 2) m.flo u
  have e3 := met_int_same (D + 2) m.cur u
  have e4 := met_int_same (D + 2) m.int u
  generalize D + 3 = E at *
  simp only [Op.eqFields, n0, n1, n2, n3, n4, ne_eq, not_false_eq_true, if_true, t0, t1, t2, t3, t4, o0, o1, o2, o3, o4, Sem.run_bind, p0, p1, p2, p3, p4, Result.andThen_ok, e0, e1, e2, e3, e4, Bool.not_true, Bool.false_eq_true, if_false, Sem.run_pure]
theorem met_eq_slot (x : Sl) (u : World) : (Op.equalIn 10000 25 (.agg (slc x).toArray) (.agg (slc x).toArray)).run Try.prog u = .ok true u := met_slot_same 9998 x u
theorem met_eq_meta (m : Mt) (u : World) : (Op.equalIn 10000 28 (.agg (mcs m).toArray) (.agg (mcs m).toArray)).run Try.prog u = .ok true u := met_same 9996 m u
end Go.Proofs.Ytbpdnaiackfdmaa
