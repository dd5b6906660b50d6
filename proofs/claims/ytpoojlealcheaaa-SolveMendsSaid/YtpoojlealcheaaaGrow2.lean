/- append(s, make([]T, m)...), s a slice of one's own. -/
import Derived.Test.YtpoojlealcheaaaB3
namespace Go.Proofs.Ytpoojlealcheaaa
open Go.RowKit
section
variable {P : Program}
theorem zeroCells_one (v : Value) (m : Nat) : Builtin.zeroCells #[v] m = (List.replicate m v).toArray := by
  apply Array.ext'
  simp only [Builtin.zeroCells, Array.toList_map, Array.toList_range]
  apply List.ext_getElem
  · simp
  · intro i h1 h2
    simp [Nat.mod_one]
theorem run_append_made_own (w : World) (base : Nat) (t u ty e : TypeId) (i : TypeInfo) (z : Value) (k : IntKind) (ht : P.underlying t = some (.slice e)) (hu : P.underlying u = some (.int k)) (hi : P.info? e = some i) (hz : i.zero = some z) (hs : i.size = 1)
    (hzc : z.cells = #[z]) (h1 : z.oneCell' = true) (v : Value) (n : Nat) (xs : List Value) (hown : w.ownsRow base e 1 v n xs) (m : Nat) (h0 : 0 < m) (hn : n + m ≤ 1099511627776) (hb : i.bytes ≤ 64) (hbase : base ≤ w.heap.size) :
    ∃ v' w', (Builtin.append_ #[t, u] ty #[v, .int .i64 (m : Int)]).run P w = .ok v' w' ∧ w'.ownsRow base e 1 v' (n + m) (xs ++ List.replicate m z) ∧ w.grownBy w' v.ownBlock := by
  have hm0 : m ≠ 0 := by omega
  have hw : IntKind.i64.wrap (m : Int) = (m : Int) := by rw [IntKind.wrap_i64]; omega
  have hpos : ¬ (m : Int) < 0 := by omega
  have hb1 : m * i.bytes ≤ 1099511627776 * 64 := Nat.mul_le_mul (by omega) hb
  have hb2 : ¬ (281474976710656 < (m : Int) * (i.bytes : Int)) := by
    have : ((m * i.bytes : Nat) : Int) ≤ 281474976710656 := by omega
    rw [Int.natCast_mul] at this
    omega
  have hlen : (xs ++ List.replicate m z).length = n + m := by
    have h2 := hown.1
    rw [List.length_append, List.length_replicate]
    omega
  have hml : n + m ≤ maxLen := by unfold maxLen; omega
  have grown : ∀ (old : Nat), old < n + m → ∀ (row : Option Nat),
      (w.drew.alloc (.cells (xs.toArray ++ (List.replicate m z).toArray ++ Builtin.zeroCells z.cells (grownCap w (n + m) old e - (n + m))) e)).ownsRow base e 1
        (.slice (some ⟨w.heap.size, 0, none⟩) (n + m) (grownCap w (n + m) old e)) (n + m) (xs ++ List.replicate m z) ∧
      w.grownBy (w.drew.alloc (.cells (xs.toArray ++ (List.replicate m z).toArray ++ Builtin.zeroCells z.cells (grownCap w (n + m) old e - (n + m))) e)) row := by
    intro old ho row
    have hge := grownCap_ge w (n + m) old e
    have hcm : grownCap w (n + m) old e ≤ maxLen := grownCap_le_maxLen w (n + m) old e hml
    have hxl : xs.length = n := by have := hown.1; omega
    refine ⟨⟨by rw [hlen]; omega, .inr ⟨w.heap.size, _, _, rfl, hbase, heap_alloc_new w.drew _, hge, hcm, ?_, ?_⟩⟩, ⟨rfl, rfl, rfl, by simp, fun q hq _ => heap_alloc_old w.drew _ hq⟩⟩
    · simp only [Array.size_append, List.size_toArray, size_zeroCells, hzc, List.length_replicate, hxl]
      simp
      omega
    · simp only [Array.toList_append, List.append_assoc, Nat.mul_one]
      rw [← List.append_assoc, ← hlen]
      exact List.take_left
  rcases hown.2 with ⟨rfl, rfl⟩ | ⟨g, cap, cur, rfl, hbg, hg, hnc, hcm, hcs, htake⟩
  · have hx : xs = [] := List.eq_nil_of_length_eq_zero (by simpa using hown.1)
    subst hx
    have hr := run_append_made (P := P) w t u ty e i z k ht hu hi hz hs m h0 (by omega) hb
    rw [hzc, zeroCells_one] at hr
    have hgr := grown 0 (by omega) (Value.ownBlock (.slice none 0 0))
    simp only [Nat.zero_add, List.nil_append, Array.empty_append, hzc] at hgr ⊢
    exact ⟨_, _, hr, hgr.1, hgr.2⟩
  · have hxl : xs.length = n := by have := hown.1; omega
    have hcs1 : cur.size = cap := by omega
    have h63n : ¬ ((9223372036854775807 : Int) < (n : Int) + (m : Int)) := by omega
    by_cases hroom : n + m ≤ cap
    · have hst := run_storeCells_at P g n e (List.replicate m z) 0 cur w hg (by simp; omega) (fun u hu => by rw [(List.mem_replicate.1 hu).2]; exact h1)
      simp only [Nat.add_zero] at hst
      refine ⟨.slice (some ⟨g, 0, none⟩) (n + m) cap, w.setRow g (cur.toList.take n ++ List.replicate m z ++ cur.toList.drop (n + m)).toArray, ?_, ⟨by rw [hlen]; omega, .inr ⟨g, cap, _, rfl, hbg, setRow_heap w g cur _ e _ hg, hroom, hcm, ?_, ?_⟩⟩, ⟨rfl, rfl, rfl, by simp, fun k _ hk => setRow_other w g k _ (fun e => hk (by simp [Value.ownBlock, e]))⟩⟩
      · simp [Builtin.append_, run_underlying ht, run_underlying hu, asInt, asIntOf, sizeOf, typeInfo, zeroValue, hi, hz, hs, hw, hpos, hb2, hm0, hroom, hzc, zeroCells_one, Addr.add_lit, hst]
      · simp only [List.size_toArray, List.length_append, List.length_take, List.length_drop, List.length_replicate, Array.length_toList]
        omega
      · rw [Nat.mul_one] at htake
        rw [htake, Nat.mul_one, ← hlen]
        exact List.take_left
    · have holds : ∀ j u, xs[j]? = some u → w.cell? ((⟨g, 0, none⟩ : Addr).add j) = some u := hown.cells (g := g) rfl
      have hf := run_firstCells_some (P := P) w.drew i.size n ⟨g, 0, none⟩ n cap xs (by rw [hs]; omega) (by simpa using holds)
      have hb3 : (n + m) * i.bytes ≤ 1099511627776 * 64 := Nat.mul_le_mul hn hb
      have h48 : ¬ (281474976710656 < Builtin.nextslicecap (n + m) cap * i.bytes) := by
        have := growslice_fits (need := n + m) (old := cap) (bytes := i.bytes) (by omega) (by omega)
        omega
      have hgr := grown cap (by omega) (Value.ownBlock (.slice (some ⟨g, 0, none⟩) n cap))
      refine ⟨_, _, ?_, hgr.1, hgr.2⟩
      simp [Builtin.append_, run_underlying ht, run_underlying hu, asInt, asIntOf, sizeOf, typeInfo, zeroValue, hi, hz, hs, hw, hpos, hb2, hm0, hroom, hzc, zeroCells_one, h63n, h48, Question.forced, newRow, grownCap]
      rw [hs] at hf
      rw [hf]
      rfl
/-- append(s, make([]T, m)...), the world behind under a letter. -/
theorem wpAppendMadeOwnK {ops : Array Oper} {rest : List Oper} {o : Oper} {a : Act} {w : World} {Q : Exit → Act → World → Prop} {base n m : Nat} {T U e : TypeId} {v zv : Value} {xs : List Value} (k : IntKind)
    (hown : w.ownsRow base e 1 v n xs) (hT : P.underlying T = some (.slice e)) (hU : P.underlying U = some (.int k)) (hz : (P.info? e).map (fun i => (i.zero, i.size, i.bytes)) = some (some zv, 1, 8) ∨ (P.info? e).map (fun i => (i.zero, i.size, i.bytes)) = some (some zv, 1, 1)) (hzc : zv.cells = #[zv]) (h1 : zv.oneCell' = true)
    (h0 : 0 < m) (hn : Big (n + m ≤ 1099511627776)) (hbase : base ≤ w.heap.size) (ho : appendOf o a = some (T, U, v, .int .i64 (m : Int)))
    (kk : ∀ v' w', w'.ownsRow base e 1 v' (n + m) (xs ++ List.replicate m zv) → w.grownBy w' v.ownBlock → wpList P ops Q rest (a.put o.dst v') w') : wpList P ops Q (o :: rest) a w := by
  obtain ⟨hg, x, y, hop, hx, hy⟩ := appendOf_spec ho
  cases hq : P.info? e with
  | none => rw [hq] at hz; rcases hz with h | h <;> cases h
  | some i =>
    rw [hq] at hz
    have hi : i.zero = some zv ∧ i.size = 1 ∧ i.bytes ≤ 64 := by
      rcases hz with h | h <;> simp only [Option.map_some, Option.some.injEq, Prod.mk.injEq] at h <;> exact ⟨h.1, h.2.1, by omega⟩
    obtain ⟨v', w', hr, h2, h3⟩ := run_append_made_own (P := P) w base T U o.type e i zv k hT hU hq hi.1 hi.2.1 hzc h1 v n xs hown m h0 hn.out hi.2.2 hbase
    refine wpList_plain hg fun K hK => ?_
    unfold Oper.wp execOp
    simp only [hop, resolve, invoke, builtin, Sem.run_bind, Sem.run_pure, Result.andThen_ok, List.map_toArray, List.map_cons, List.map_nil, hx, hy, hr]
    exact hK _ _ (kk _ _ h2 h3)
end
end Go.Proofs.Ytpoojlealcheaaa
