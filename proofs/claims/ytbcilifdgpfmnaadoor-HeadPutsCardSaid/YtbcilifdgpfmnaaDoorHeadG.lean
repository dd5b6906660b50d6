/- Heads held against themselves. -/
import Derived.Test.YtbcilifdgpfmnaaDoorHeadF
import Derived.Test.YtbcilifdgpfmnaaDoorShaL
namespace Go.Proofs.YtbcilifdgpfmnaaDoor
open Go.RowKit HeadMath NumMath
set_option linter.unusedVariables false
set_option maxRecDepth 100000

theorem hd_part_agg {P : Program} {e : TypeId} {sz : Nat} (hg : ∀ w, (isAgg e).run P w = .ok true w) (hs : ∀ w, (sizeOf e).run P w = .ok sz w) (xs : Array Value) (i : Nat) (w : World) : (part e xs i).run P w = .ok (.agg (xs.extract i (i + sz))) w := by
  simp [part, hg, hs]
theorem hdv_ex0 (a b c n : Int) (H : List UInt8) : (hdv a b c n H).toArray.extract 0 3 = #[.int .i64 a, .int .i64 b, .int .i64 c] := by
  apply Array.ext'
  simp [hdv]
theorem hdv_ex4 (a b c n : Int) (H : List UInt8) (hH : H.length = 32) : (hdv a b c n H).toArray.extract 4 36 = (bytes H).toArray := by
  apply Array.ext'
  simp [hdv, List.take_of_length_le, bytes_length, hH]
theorem ver_same (a b c : Int) (u : World) : (Op.equalIn 9999 23 (.agg #[.int .i64 a, .int .i64 b, .int .i64 c]) (.agg #[.int .i64 a, .int .i64 b, .int .i64 c])).run Tryd.prog u = .ok true u := by
  have h := run_equal_ints (P := Tryd.prog) 9997 23 3 3 .i64 [a, b, c] [a, b, c] u Tryd.underlying23 Tryd.underlying3 hd_size_int hd_agg_int rfl rfl
  simpa using h
theorem hash_same (H : List UInt8) (hH : H.length = 32) (u : World) : (Op.equalIn 9999 25 (.agg (bytes H).toArray) (.agg (bytes H).toArray)).run Tryd.prog u = .ok true u := by
  have h := run_equal_ints (P := Tryd.prog) 9997 25 5 32 .u8 (H.map fun b => (b.toNat : Int)) (H.map fun b => (b.toNat : Int)) u Tryd.underlying25 Tryd.underlying5 size_byte agg_byte (by simpa using hH) (by simpa using hH)
  rw [← bytes_ints] at h
  simpa using h
theorem hd_agg_ver : ∀ w, (isAgg 23).run Tryd.prog w = .ok true w := fun w => by kernel_rfl
theorem hd_agg_hash : ∀ w, (isAgg 25).run Tryd.prog w = .ok true w := fun w => by kernel_rfl
theorem hd_size_ver : ∀ w, (sizeOf 23).run Tryd.prog w = .ok 3 w := fun w => by kernel_rfl
theorem hd_size_hash : ∀ w, (sizeOf 25).run Tryd.prog w = .ok 32 w := fun w => by kernel_rfl
theorem int_same (n : Int) (u : World) : (Op.equalIn 9999 3 (.int .i64 n) (.int .i64 n)).run Tryd.prog u = .ok true u :=
  (run_equalIn_int u 9998 3 .i64 .i64 n n Tryd.underlying3).trans (by rw [beq_self_eq_true])
theorem head_fields : ∃ f0 f1 f2 : Field, (Tryd.prog.fieldsOf 27).toList = [f0, f1, f2] ∧ (f0.name ≠ "_" ∧ f1.name ≠ "_" ∧ f2.name ≠ "_") ∧ (f0.type = 23 ∧ f1.type = 3 ∧ f2.type = 25) ∧ f0.offset = 0 ∧ f1.offset = 3 ∧ f2.offset = 4 := by
  have h : (Tryd.prog.fieldsOf 27).toList.map (fun f => (f.name, f.type, f.offset)) = [("Version", 23, 0), ("Length", 3, 3), ("Hash", 25, 4)] := by kernel_rfl
  revert h
  generalize (Tryd.prog.fieldsOf 27).toList = l
  intro h
  have hl : l.length = 3 := by simpa using congrArg List.length h
  match l, hl, h with
  | [f0, f1, f2], _, h =>
    simp only [List.map_cons, List.map_nil, List.cons.injEq, Prod.mk.injEq, and_true] at h
    obtain ⟨⟨a1, a2, a3⟩, ⟨b1, b2, b3⟩, c1, c2, c3⟩ := h
    exact ⟨f0, f1, f2, rfl, ⟨by rw [a1]; simp, by rw [b1]; simp, by rw [c1]; simp⟩, ⟨a2, b2, c2⟩, a3, b3, c3⟩
theorem head_eq (xs ys : Array Value) (u : World) (v0 v1 v2 v3 v4 v5 : Value) (p0 : (part 23 xs 0).run Tryd.prog u = .ok v0 u) (p1 : (part 3 xs 3).run Tryd.prog u = .ok v1 u) (p2 : (part 25 xs 4).run Tryd.prog u = .ok v2 u)
    (p3 : (part 23 ys 0).run Tryd.prog u = .ok v3 u) (p4 : (part 3 ys 3).run Tryd.prog u = .ok v4 u) (p5 : (part 25 ys 4).run Tryd.prog u = .ok v5 u)
    (e0 : (Op.equalIn 9999 23 v0 v3).run Tryd.prog u = .ok true u) (e1 : (Op.equalIn 9999 3 v1 v4).run Tryd.prog u = .ok true u) (e2 : (Op.equalIn 9999 25 v2 v5).run Tryd.prog u = .ok true u) :
    (Op.equalIn 10000 27 (.agg xs) (.agg ys)).run Tryd.prog u = .ok true u := by
  refine (run_equalIn_struct u 9999 27 xs ys (by kernel_rfl) (by kernel_rfl)).trans ?_
  obtain ⟨f0, f1, f2, hf, ⟨n0, n1, n2⟩, ⟨t0, t1, t2⟩, o0, o1, o2⟩ := head_fields
  rw [hf]
  generalize 9999 = D at *
  simp only [Op.eqFields, n0, n1, n2, ne_eq, not_false_eq_true, if_true, t0, t1, t2, o0, o1, o2, Sem.run_bind, p0, p1, p2, p3, p4, p5, Result.andThen_ok, e0, e1, e2, Bool.not_true, Bool.false_eq_true, if_false, Sem.run_pure]
theorem head_same (a b c n : Int) (H : List UInt8) (hH : H.length = 32) (u : World) : (Op.equalIn 10000 27 (.agg (hdv a b c n H).toArray) (.agg (hdv a b c n H).toArray)).run Tryd.prog u = .ok true u := by
  have p0 := hd_part_agg hd_agg_ver hd_size_ver (hdv a b c n H).toArray 0 u
  have p1 : (part 3 (hdv a b c n H).toArray 3).run Tryd.prog u = .ok (.int .i64 n) u := run_part_int hd_agg_int _ 3 _ (by simp [hdv]) u
  have p2 := hd_part_agg hd_agg_hash hd_size_hash (hdv a b c n H).toArray 4 u
  rw [hdv_ex0] at p0
  rw [hdv_ex4 a b c n H hH] at p2
  exact head_eq _ _ u _ _ _ _ _ _ p0 p1 p2 p0 p1 p2 (ver_same a b c u) (int_same n u) (hash_same H hH u)
theorem rhead_fields : ∃ f0 f1 f2 : Field, (Tryd.prog.fieldsOf 29).toList = [f0, f1, f2] ∧ (f0.name ≠ "_" ∧ f1.name ≠ "_" ∧ f2.name ≠ "_") ∧ (f0.type = 23 ∧ f1.type = 3 ∧ f2.type = 25) ∧ f0.offset = 0 ∧ f1.offset = 3 ∧ f2.offset = 4 := by
  have h : (Tryd.prog.fieldsOf 29).toList.map (fun f => (f.name, f.type, f.offset)) = [("Version", 23, 0), ("Length", 3, 3), ("Hash", 25, 4)] := by kernel_rfl
  revert h
  generalize (Tryd.prog.fieldsOf 29).toList = l
  intro h
  have hl : l.length = 3 := by simpa using congrArg List.length h
  match l, hl, h with
  | [f0, f1, f2], _, h =>
    simp only [List.map_cons, List.map_nil, List.cons.injEq, Prod.mk.injEq, and_true] at h
    obtain ⟨⟨a1, a2, a3⟩, ⟨b1, b2, b3⟩, c1, c2, c3⟩ := h
    exact ⟨f0, f1, f2, rfl, ⟨by rw [a1]; simp, by rw [b1]; simp, by rw [c1]; simp⟩, ⟨a2, b2, c2⟩, a3, b3, c3⟩
theorem rhead_eq (xs ys : Array Value) (u : World) (v0 v1 v2 v3 v4 v5 : Value) (p0 : (part 23 xs 0).run Tryd.prog u = .ok v0 u) (p1 : (part 3 xs 3).run Tryd.prog u = .ok v1 u) (p2 : (part 25 xs 4).run Tryd.prog u = .ok v2 u)
    (p3 : (part 23 ys 0).run Tryd.prog u = .ok v3 u) (p4 : (part 3 ys 3).run Tryd.prog u = .ok v4 u) (p5 : (part 25 ys 4).run Tryd.prog u = .ok v5 u)
    (e0 : (Op.equalIn 9999 23 v0 v3).run Tryd.prog u = .ok true u) (e1 : (Op.equalIn 9999 3 v1 v4).run Tryd.prog u = .ok true u) (e2 : (Op.equalIn 9999 25 v2 v5).run Tryd.prog u = .ok true u) :
    (Op.equalIn 10000 29 (.agg xs) (.agg ys)).run Tryd.prog u = .ok true u := by
  refine (run_equalIn_struct u 9999 29 xs ys (by kernel_rfl) (by kernel_rfl)).trans ?_
  obtain ⟨f0, f1, f2, hf, ⟨n0, n1, n2⟩, ⟨t0, t1, t2⟩, o0, o1, o2⟩ := rhead_fields
  rw [hf]
  generalize 9999 = D at *
  simp only [Op.eqFields, n0, n1, n2, ne_eq, not_false_eq_true, if_true, t0, t1, t2, o0, o1, o2, Sem.run_bind, p0, p1, p2, p3, p4, p5, Result.andThen_ok, e0, e1, e2, Bool.not_true, Bool.false_eq_true, if_false, Sem.run_pure]
theorem rhead_same (a b c n : Int) (H : List UInt8) (hH : H.length = 32) (u : World) : (Op.equalIn 10000 29 (.agg (hdv a b c n H).toArray) (.agg (hdv a b c n H).toArray)).run Tryd.prog u = .ok true u := by
  have p0 := hd_part_agg hd_agg_ver hd_size_ver (hdv a b c n H).toArray 0 u
  have p1 : (part 3 (hdv a b c n H).toArray 3).run Tryd.prog u = .ok (.int .i64 n) u := run_part_int hd_agg_int _ 3 _ (by simp [hdv]) u
  have p2 := hd_part_agg hd_agg_hash hd_size_hash (hdv a b c n H).toArray 4 u
  rw [hdv_ex0] at p0
  rw [hdv_ex4 a b c n H hH] at p2
  exact rhead_eq _ _ u _ _ _ _ _ _ p0 p1 p2 p0 p1 p2 (ver_same a b c u) (int_same n u) (hash_same H hH u)
end Go.Proofs.YtbcilifdgpfmnaaDoor
