/- append(nil, make([]T, n)...), T of more than one cell. -/
import Derived.Test.YtlcmnpbbfnfcmaaGreatB5
namespace Go.Proofs.YtlcmnpbbfnfcmaaGreat
open Go.RowKit
section
variable {P : Program}
theorem run_append_madeM (w : World) (t u ty e : TypeId) (i : TypeInfo) (z : Value) (s : Nat) (k : IntKind) (ht : P.underlying t = some (.slice e)) (hu : P.underlying u = some (.int k)) (hi : P.info? e = some i) (hz : i.zero = some z) (hs : i.size = s)
    (n : Nat) (h0 : 0 < n) (hs0 : 0 < s) (hn : n ≤ 1099511627776) (hb : i.bytes ≤ 64) :
    (Builtin.append_ #[t, u] ty #[.slice none 0 0, .int .i64 (n : Int)]).run P w =
      .ok (.slice (some ⟨w.heap.size, 0, none⟩) n (grownCap w n 0 e)) (w.drew.alloc (.cells (Builtin.zeroCells z.cells n ++ Builtin.zeroCells z.cells (grownCap w n 0 e - n)) e)) := by
  have hn0 : n ≠ 0 := by omega
  have hns : n * s ≠ 0 := Nat.mul_ne_zero hn0 (by omega)
  have hw : IntKind.i64.wrap (n : Int) = (n : Int) := by rw [IntKind.wrap_i64]; omega
  have hpos : ¬ (n : Int) < 0 := by omega
  have h63' : ¬ (9223372036854775807 < (n : Int)) := by omega
  have hb1 : n * i.bytes ≤ 1099511627776 * 64 := Nat.mul_le_mul hn hb
  have hb2 : ¬ (281474976710656 < (n : Int) * (i.bytes : Int)) := by
    have : ((n * i.bytes : Nat) : Int) ≤ 281474976710656 := by omega
    rw [Int.natCast_mul] at this
    omega
  have h48' : ¬ (281474976710656 < Builtin.nextslicecap n 0 * i.bytes) := by rw [nextslicecap_zero h0]; omega
  simp [Builtin.append_, run_underlying ht, run_underlying hu, asInt, asIntOf, sizeOf, typeInfo, zeroValue, hi, hz, hs, hw, hpos, hb2, Builtin.lenOf, hn0, hns, h63', h48', Question.forced, run_firstCells_none, newRow, grownCap]
theorem wpAppendMadeM {ops : Array Oper} {rest : List Oper} {o : Oper} {a : Act} {w : World} {Q : Exit → Act → World → Prop} {n s : Nat} {T U e : TypeId} (k : IntKind)
    (hT : P.underlying T = some (.slice e)) (hU : P.underlying U = some (.int k)) (he : Many P e s) (h0 : 0 < n) (hs0 : 0 < s) (hn : n ≤ 1099511627776)
    (ho : appendOf o a = some (T, U, .slice none 0 0, .int .i64 (n : Int)))
    (kk : ∀ c w', n ≤ c → w'.ownsRow w.heap.size e s (.slice (some ⟨w.heap.size, 0, none⟩) 0 c) 0 [] → Below w.heap.size w w' → wpList P ops Q rest (a.put o.dst (.slice (some ⟨w.heap.size, 0, none⟩) n c)) w') : wpList P ops Q (o :: rest) a w := by
  obtain ⟨hg, x, y, hop, hx, hy⟩ := appendOf_spec ho
  obtain ⟨i, z, hi, hz, h2, h3, h4⟩ := he.row
  refine wpList_plain hg fun K hK => ?_
  have hr := run_append_madeM (P := P) w T U o.type e i z s k hT hU hi hz h2 n h0 hs0 hn h4
  unfold Oper.wp execOp
  simp only [hop, resolve, invoke, builtin, Sem.run_bind, Sem.run_pure, Result.andThen_ok, List.map_toArray, List.map_cons, List.map_nil, hx, hy, hr]
  have hge := grownCap_ge w n 0 e
  have hm : n ≤ maxLen := by unfold maxLen; omega
  have hle := grownCap_le_maxLen w n 0 e hm
  refine hK _ _ (kk _ _ hge ⟨by simp, .inr ⟨w.heap.size, _, _, rfl, Nat.le_refl _, heap_alloc_new w.drew _, Nat.zero_le _, hle, ?_, by simp⟩⟩ (((Below.refl _ _).drew).alloc (Nat.le_refl _) _))
  rw [Array.size_append, size_zeroCells, size_zeroCells, h3, ← Nat.add_mul]
  congr 1
  omega
end
end Go.Proofs.YtlcmnpbbfnfcmaaGreat
