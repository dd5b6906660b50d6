/- append(b, x) where b began as []byte(s): a row whose frozen range lies behind its cells. -/
import Derived.Test.YtmphjmbnfaimiaaDoorSlice
import Derived.Laws.IdiomCopy
namespace Go.Proofs.YtmphjmbnfaimiaaDoor
open Go.RowKit
set_option linter.unusedVariables false

/-- A slice of n cells of the call's own; nothing of its row is frozen. -/
structure OwnsT (w : World) (base : Nat) (e : TypeId) (v : Value) (n : Nat) (xs : List Value) : Prop where
  out : ∃ g cap cur fz, v = .slice (some ⟨g, 0, none⟩) n cap ∧ base ≤ g ∧ w.heap[g]? = some (.cells cur e fz) ∧ (cur.size ≤ fz.1 ∨ fz.2 = 0) ∧ xs.length = n ∧ n ≤ cap ∧ cap ≤ maxLen ∧ cur.size = cap ∧ cur.toList.take n = xs
theorem OwnsT.heap {w w' : World} {base : Nat} {e : TypeId} {v : Value} {n : Nat} {xs : List Value} (h : OwnsT w base e v n xs) (hb : ∀ g, v.ownBlock = some g → w'.heap[g]? = w.heap[g]?) : OwnsT w' base e v n xs := by
  obtain ⟨g, cap, cur, fz, h1, h2, h3, h4⟩ := h.out
  exact ⟨g, cap, cur, fz, h1, h2, (hb g (by rw [h1]; rfl)).trans h3, h4⟩
theorem OwnsT.lt {w : World} {base : Nat} {e : TypeId} {v : Value} {n : Nat} {xs : List Value} (h : OwnsT w base e v n xs) : ∀ g, v.ownBlock = some g → base ≤ g ∧ g < w.heap.size := by
  obtain ⟨g, cap, cur, fz, h1, h2, h3, _⟩ := h.out
  intro k hk
  rw [h1] at hk
  cases hk
  exact ⟨h2, (Array.getElem?_eq_some_iff.1 h3).1⟩
theorem OwnsT.below {w w' : World} {base : Nat} {e : TypeId} {v : Value} {n : Nat} {xs : List Value} (h : OwnsT w base e v n xs) (hb : Below w.heap.size w w') : OwnsT w' base e v n xs :=
  h.heap fun g hg => hb.block g (h.lt g hg).2
theorem OwnsT.alloc {w : World} {base : Nat} {e : TypeId} {v : Value} {n : Nat} {xs : List Value} (h : OwnsT w base e v n xs) (o : Obj) : OwnsT (w.alloc o) base e v n xs := h.below (alloc_below w o)
theorem OwnsT.lies {w : World} {base : Nat} {e : TypeId} {v : Value} {n : Nat} {xs : List Value} (h : OwnsT w base e v n xs) : ∃ g cap, v = .slice (some ⟨g, 0, none⟩) n cap ∧ base ≤ g ∧ n ≤ cap ∧ Lies w w.heap.size (some ⟨g, 0, none⟩) xs := by
  obtain ⟨g, cap, cur, fz, h1, h2, h3, h4, h5, h6, h7, h8, h9⟩ := h.out
  refine ⟨g, cap, h1, h2, h6, fun _ => ⟨g, 0, rfl, (Array.getElem?_eq_some_iff.1 h3).1, fun j u hj => ?_⟩⟩
  have hjn : j < n := by rw [← h5]; exact (List.getElem?_eq_some_iff.1 hj).1
  rw [← h9, List.getElem?_take_of_lt hjn] at hj
  rw [Nat.zero_add]
  simp only [World.cell?, h3]
  simpa using hj
theorem grown_small (w : World) (n : Nat) (e : TypeId) (h : n ≤ maxLen) : grownCap w n 0 e ≤ maxLen ∧ n ≤ grownCap w n 0 e := ⟨grownCap_le_maxLen w n 0 e h, grownCap_ge w n 0 e⟩
/-- What []byte(s) lays. -/
theorem conv_ownsT {P : Program} (s : ByteArray) (w : World) (src dst e : TypeId) (hs : P.underlying src = some .string) (hd : P.underlying dst = some (.slice e)) (he : P.underlying e = some (.int .u8)) (hl : s.size ≤ 1000000) :
    ∃ v w', (convert src dst (.string s)).run P w = .ok v w' ∧ OwnsT w' w.heap.size e v s.size (bytes s.data.toList) ∧ Below w.heap.size w w' := by
  have hc := grown_small w s.size e (by unfold maxLen; omega)
  refine ⟨_, _, run_bytes_of_string w src dst e s hs hd he, ⟨w.heap.size, _, _, _, rfl, Nat.le_refl _, heap_alloc_new w.drew _, Or.inl (Nat.le_refl _), ?_, hc.2, hc.1, ?_, ?_⟩, ((Below.refl _ _).drew).alloc (Nat.le_refl _) _⟩
  · rw [bytes_length, size_list]
  · rw [bytesRow, Array.size_append, Array.size_map, Array.size_replicate]
    have : s.data.size = s.size := rfl
    omega
  · rw [bytesRow, Array.toList_append, List.take_append_of_le_length (by simp), List.take_of_length_le (by simp), Array.toList_map]
    rfl
section
variable {P : Program}
/-- append(v, u). -/
theorem OwnsT.wpAppend1 {ops : Array Oper} {rest : List Oper} {o : Oper} {a : Act} {w : World} {Q : Exit → Act → World → Prop} {base n : Nat} {T e : TypeId} {v u : Value} {xs : List Value} {b : Nat}
    (hown : OwnsT w base e v n xs) (hT : P.underlying T = some (.slice e)) (he : One P e) (hs : w.cell? ⟨b, 0, none⟩ = some u) (h1 : u.oneCell' = true) (hn : Big (n + 1 ≤ 1099511627776)) (hbase : base ≤ w.heap.size)
    (ho : appendOf o a = some (T, T, v, .slice (some ⟨b, 0, none⟩) 1 1))
    (k : ∀ v' w', OwnsT w' base e v' (n + 1) (xs ++ [u]) → w.grownBy w' v.ownBlock → wpList P ops Q rest (a.put o.dst v') w') : wpList P ops Q (o :: rest) a w := by
  obtain ⟨hg, x, y, hop, hx, hy⟩ := appendOf_spec ho
  obtain ⟨i, z, hi, hz, h2, h3, h4⟩ := he.row
  obtain ⟨g, cap, cur, fz, rfl, hbg, hcur, hfz, hxl, hnc, hcm, hcs, htk⟩ := hown.out
  have hnews : ∀ j v, [u][j]? = some v → w.cell? ((⟨b, 0, none⟩ : Addr).add j) = some v := fun j v hj => by
    match j, hj with
    | 0, hj => cases hj; exact hs
    | j + 1, hj => simp at hj
  have key : ∃ v' w', (Builtin.append_ #[T, T] o.type #[.slice (some ⟨g, 0, none⟩) n cap, .slice (some ⟨b, 0, none⟩) 1 1]).run P w = .ok v' w' ∧ OwnsT w' base e v' (n + 1) (xs ++ [u]) ∧ w.grownBy w' (some g) := by
    by_cases hroom : n + 1 ≤ cap
    · have hf := run_firstCells_some (P := P) w i.size 1 ⟨b, 0, none⟩ 1 1 [u] (by rw [h2]; rfl) hnews
      rw [h2] at hf
      have hst := run_storeCells_cells (P := P) g n [u] 0 w (fun j hj => by
        have : j = 0 := by simpa using hj
        subst this
        simp only [World.cell?, hcur]
        simp; omega) (fun j hj => by
        have : j = 0 := by simpa using hj
        subst this
        unfold World.frozen?
        rw [hcur]
        simp only [Nat.add_zero, Bool.and_eq_false_iff, decide_eq_false_iff_not]
        rcases hfz with h | h
        · left; omega
        · right; omega) (fun q hq => by
        have : q = u := by simpa using hq
        rw [this]; exact h1)
      simp only [Nat.add_zero, World.setCells] at hst
      refine ⟨.slice (some ⟨g, 0, none⟩) (n + 1) cap, w.setCell ⟨g, n, none⟩ u, ?_, ⟨g, cap, cur.setIfInBounds n u, fz, rfl, hbg, ?_, ?_, ?_, hroom, hcm, ?_, ?_⟩, ⟨rfl, rfl, rfl, by simp [World.setCell], fun k hk hne => heap_setCell_other w ⟨g, n, none⟩ k u (fun e => hne (by rw [e]))⟩⟩
      · simp [Builtin.append_, run_underlying hT, sizeOf, typeInfo, hi, Builtin.lenOf, hroom, hf, Addr.add_lit, h2, hst]
      · unfold World.setCell
        simp only [Array.getElem?_modify, hcur]
        simp
      · simpa using hfz
      · rw [List.length_append, hxl]; rfl
      · simpa using hcs
      · rw [Array.toList_setIfInBounds, ← htk, List.take_add_one, List.getElem?_set_self (by rw [Array.length_toList]; omega), List.take_set_of_le (Nat.le_refl _)]
        rfl
    · have holds : ∀ j q, xs[j]? = some q → w.cell? ((⟨g, 0, none⟩ : Addr).add j) = some q := fun j q hj => by
        have hjn : j < n := by rw [← hxl]; exact (List.getElem?_eq_some_iff.1 hj).1
        rw [← htk, List.getElem?_take_of_lt hjn] at hj
        rw [Addr.add_lit]
        simp only [World.cell?, hcur]
        simpa using hj
      have hb := hn.out
      have hr := run_append_grow (P := P) w T o.type e i z hT hi hz ⟨g, 0, none⟩ n cap xs (by rw [hxl, h2, Nat.mul_one]) holds ⟨b, 0, none⟩ 1 1 [u] (by rw [h2]; rfl) hnews (by omega) (by omega) (growslice_fits (by omega) (Nat.le_trans (Nat.mul_le_mul hb h4) (by omega)))
      have hge := grownCap_ge w (n + 1) cap e
      have hcm2 := grownCap_le_maxLen w (n + 1) cap e (by unfold maxLen; omega)
      refine ⟨_, _, hr, ⟨w.heap.size, _, _, (0, 0), rfl, hbase, heap_alloc_new w.drew _, Or.inr rfl, by rw [List.length_append, hxl]; rfl, hge, hcm2, ?_, ?_⟩, ⟨rfl, rfl, rfl, by simp, fun k hk _ => heap_alloc_old w.drew _ hk⟩⟩
      · simp only [Array.size_append, List.size_toArray, size_zeroCells, h3, hxl, List.length_singleton]
        omega
      · simp only [Array.toList_append, List.append_assoc]
        rw [← List.append_assoc, show n + 1 = (xs ++ [u]).length from by rw [List.length_append, hxl]; rfl]
        exact List.take_left
  obtain ⟨v', w', hr, h5, h6⟩ := key
  refine wpList_plain hg fun K hK => ?_
  unfold Oper.wp execOp
  simp only [hop, resolve, invoke, builtin, Sem.run_bind, Sem.run_pure, Result.andThen_ok, List.map_toArray, List.map_cons, List.map_nil, hx, hy, hr]
  exact hK _ _ (k _ _ h5 h6)
end
end Go.Proofs.YtmphjmbnfaimiaaDoor
