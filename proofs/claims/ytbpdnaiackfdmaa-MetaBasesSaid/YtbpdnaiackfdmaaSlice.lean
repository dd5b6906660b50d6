/- append onto a slice of one's own, copy into a block of one's own: at the walk's list, what the operation is in one closed premise, the world behind under a letter. -/
import Derived.Test.YtbpdnaiackfdmaaRow
import Derived.Maps.AppendAt
import Derived.Laws.MakeOwn
import Derived.Laws.OwnMore
import Derived.Laws.CopyRow
namespace Go.Proofs.Ytbpdnaiackfdmaa
open Go.RowKit

def appendOf (o : Oper) (a : Act) : Option (TypeId × TypeId × Value × Value) :=
  match o.guard, o.op with
  | none, .call c => match c.callee, c.args.toList, c.argTypes.toList with
    | .builtin .append, [x, y], [t, t'] => some (t, t', a.eval x, a.eval y)
    | _, _, _ => none
  | _, _ => none
theorem appendOf_spec {o : Oper} {a : Act} {t t' : TypeId} {u v : Value} (h : appendOf o a = some (t, t', u, v)) :
    o.guard = none ∧ ∃ x y, o.op = .call { callee := .builtin .append, args := #[x, y], argTypes := #[t, t'] } ∧ a.eval x = u ∧ a.eval y = v := by
  unfold appendOf at h
  split at h
  · rename_i c hg ho
    split at h
    · rename_i x y s s' h1 h2 h3
      simp only [Option.some.injEq, Prod.mk.injEq] at h
      refine ⟨hg, x, y, ?_, h.2.2.1, h.2.2.2⟩
      rw [ho]
      congr 1
      cases c with
      | mk cal ar at' =>
        simp only at h1 h2 h3
        have e2 : ar = #[x, y] := by rw [← Array.toArray_toList (xs := ar), h2]
        have e3 : at' = #[s, s'] := by rw [← Array.toArray_toList (xs := at'), h3]
        simp [h1, e2, e3, h.1, h.2.1]
    · cases h
  · cases h
def copyOf (o : Oper) (a : Act) : Option (TypeId × TypeId × Value × Value) :=
  match o.guard, o.op with
  | none, .call c => match c.callee, c.args.toList, c.argTypes.toList with
    | .builtin .copy, [x, y], [t, t'] => some (t, t', a.eval x, a.eval y)
    | _, _, _ => none
  | _, _ => none
theorem copyOf_spec {o : Oper} {a : Act} {t t' : TypeId} {u v : Value} (h : copyOf o a = some (t, t', u, v)) :
    o.guard = none ∧ ∃ x y, o.op = .call { callee := .builtin .copy, args := #[x, y], argTypes := #[t, t'] } ∧ a.eval x = u ∧ a.eval y = v := by
  unfold copyOf at h
  split at h
  · rename_i c hg ho
    split at h
    · rename_i x y s s' h1 h2 h3
      simp only [Option.some.injEq, Prod.mk.injEq] at h
      refine ⟨hg, x, y, ?_, h.2.2.1, h.2.2.2⟩
      rw [ho]
      congr 1
      cases c with
      | mk cal ar at' =>
        simp only at h1 h2 h3
        have e2 : ar = #[x, y] := by rw [← Array.toArray_toList (xs := ar), h2]
        have e3 : at' = #[s, s'] := by rw [← Array.toArray_toList (xs := at'), h3]
        simp [h1, e2, e3, h.1, h.2.1]
    · cases h
  · cases h

/-- A fact with a great numeral: 'contradiction', which opens every definition, is kept from it. -/
structure Big (p : Prop) : Prop where
  out : p

/-- A type of one cell, of some bytes. -/
structure One (P : Program) (e : TypeId) : Prop where
  row : ∃ i z, P.info? e = some i ∧ i.zero = some z ∧ i.size = 1 ∧ z.cells.size = 1 ∧ i.bytes ≤ 64

section
variable {P : Program}
theorem One.of {e : TypeId} (h : ((P.info? e).map fun i => (i.zero.map fun z => z.cells.size) == some 1 && i.size == 1 && decide (i.bytes ≤ 64)) = some true) : One P e := by
  generalize hq : P.info? e = q at h
  match q with
  | none => cases h
  | some i =>
    simp only [Option.map_some, Option.some.injEq, Bool.and_eq_true, beq_iff_eq, decide_eq_true_eq] at h
    obtain ⟨⟨h1, h2⟩, h3⟩ := h
    generalize hz : i.zero = zz at h1
    match zz with
    | none => cases h1
    | some z =>
      simp only [Option.map_some, Option.some.injEq] at h1
      exact ⟨i, z, hq, hz, h2, h1, h3⟩

/-- append(v, l...): v a slice of one's own, l what lies at an address. -/
theorem wpAppendK {ops : Array Oper} {rest : List Oper} {o : Oper} {a : Act} {w : World} {Q : Exit → Act → World → Prop} {base n m : Nat} {T e : TypeId} {v : Value} {xs news : List Value} {p : Option Addr} (c : Nat)
    (hown : w.ownsRow base e 1 v n xs) (hT : P.underlying T = some (.slice e)) (he : One P e) (hs : Lies w w.heap.size p news) (hl : news.length = m) (hm : 0 < m) (h1 : news.all (·.oneCell') = true) (hn : Big (n + m ≤ 1099511627776)) (hbase : base ≤ w.heap.size)
    (ho : appendOf o a = some (T, T, v, .slice p m c))
    (k : ∀ v' w', w'.ownsRow base e 1 v' (n + m) (xs ++ news) → w.grownBy w' v.ownBlock → (v'.ownBlock = v.ownBlock ∨ v'.ownBlock = some w.heap.size) → wpList P ops Q rest (a.put o.dst v') w') : wpList P ops Q (o :: rest) a w := by
  obtain ⟨hg, x, y, hop, hx, hy⟩ := appendOf_spec ho
  obtain ⟨i, z, hi, hz, h2, h3, h4⟩ := he.row
  obtain ⟨b, off, rfl, hb, hc⟩ := hs (by omega)
  refine wpList_append_own_at w hg x y T hop base e i z 1 i.bytes hT hi hz h2 rfl h3 (by omega) v n xs hx hown ⟨b, off, none⟩ m c news hy (by omega) ?_ (fun u hu => (List.all_eq_true.1 h1) u hu) ?_ ?_ hbase fun v' w' g1 g2 _ g4 => k v' w' g1 g2 g4
  · intro j u hj
    rw [Addr.add_mid]
    exact hc j u hj
  · have := hn.out; unfold maxLen; omega
  · exact Nat.le_trans (Nat.mul_le_mul hn.out h4) (by omega)

/-- append(v, u). -/
theorem wpAppend1K {ops : Array Oper} {rest : List Oper} {o : Oper} {a : Act} {w : World} {Q : Exit → Act → World → Prop} {base n : Nat} {T e : TypeId} {v u : Value} {xs : List Value} {p : Option Addr}
    (hown : w.ownsRow base e 1 v n xs) (hT : P.underlying T = some (.slice e)) (he : One P e) (hs : Lies w w.heap.size p [u]) (h1 : u.oneCell' = true) (hn : Big (n + 1 ≤ 1099511627776)) (hbase : base ≤ w.heap.size)
    (ho : appendOf o a = some (T, T, v, .slice p 1 1))
    (k : ∀ v' w', w'.ownsRow base e 1 v' (n + 1) (xs ++ [u]) → w.grownBy w' v.ownBlock → (v'.ownBlock = v.ownBlock ∨ v'.ownBlock = some w.heap.size) → wpList P ops Q rest (a.put o.dst v') w') : wpList P ops Q (o :: rest) a w :=
  wpAppendK 1 hown hT he hs rfl Nat.one_pos (by simp [h1]) hn hbase ho k

theorem run_copy_string (w : World) (dT sT ty elem : TypeId) (b o dLen dCap : Nat) (s : ByteArray) (hu : P.underlying dT = some (.slice elem)) (hs : (P.info? elem).map (·.size) = some 1)
    (hc : w.there b o (Nat.min s.size dLen)) :
    (Builtin.copy_ #[dT, sT] ty #[.slice (some ⟨b, o, none⟩) dLen dCap, .string s]).run P w = .ok (goInt (Nat.min s.size dLen)) (w.setCells b o (bytes (s.data.toList.take (Nat.min s.size dLen)))) := by
  have hl : (bytes (s.data.toList.take (Nat.min s.size dLen))).length = Nat.min s.size dLen := by
    rw [bytes_length, List.length_take, size_list]
    exact Nat.min_eq_left (Nat.min_le_left _ _)
  have hst := run_storeCells_cells (P := P) b o (bytes (s.data.toList.take (Nat.min s.size dLen))) 0 w (fun j hj => by simpa using (hc j (by omega)).1) (fun j hj => by simpa using (hc j (by omega)).2)
    (fun v hv => by simp only [bytes, List.mem_map] at hv; obtain ⟨c, _, rfl⟩ := hv; rfl)
  cases hq : P.info? elem with
  | none => simp [hq] at hs
  | some i =>
    have hi : i.size = 1 := by simpa [hq] using hs
    simp only [Nat.add_zero, bytes, List.map_take] at hst
    simp [Builtin.copy_, run_underlying hu, Builtin.lenOf, Builtin.firstCells, sizeOf, typeInfo, hq, hst, bytes, List.map_take]

/-- copy(d, s): d a part of a block of one's own, s a text. -/
theorem Row.wpCopyK {ops : Array Oper} {rest : List Oper} {o : Oper} {a : Act} {w : World} {Q : Exit → Act → World → Prop} {g i dLen n : Nat} {t T e : TypeId} {x y z : List Value} {s : ByteArray} (h : Row w g t (x ++ y ++ z)) (hx0 : x.length = i) (T' : TypeId) (dCap : Nat)
    (hT : P.underlying T = some (.slice e)) (he : One P e) (hn : Nat.min s.size dLen = n) (hy : y.length = n) (ho : copyOf o a = some (T, T', .slice (some ⟨g, i, none⟩) dLen dCap, .string s))
    (k : ∀ w', Row w' g t (x ++ bytes (s.data.toList.take n) ++ z) → Only g w w' → w'.heap.size = w.heap.size → wpList P ops Q rest (a.put o.dst (.int .i64 (n : Int))) w') : wpList P ops Q (o :: rest) a w := by
  obtain ⟨hg, p, q, ho, hp, hq⟩ := copyOf_spec ho
  obtain ⟨ie, ze, hi, hz, h2, h3, h4⟩ := he.row
  refine wpList_plain hg fun K hK => ?_
  have hr := run_copy_string (P := P) w T T' o.type e g i dLen dCap s hT (by rw [hi]; simp [h2]) (by rw [hn]; exact h.there i n hx0 hy)
  unfold Oper.wp execOp
  simp only [ho, resolve, invoke, builtin, Sem.run_bind, Sem.run_pure, Result.andThen_ok, List.map_toArray, List.map_cons, List.map_nil, hp, hq, hr]
  rw [hn]
  have hl : (bytes (s.data.toList.take n)).length = n := by
    rw [bytes_length, List.length_take, size_list, ← hn]
    exact Nat.min_eq_left (Nat.min_le_left _ _)
  exact hK _ _ (k _ (Row.setCells _ h (by rw [hy, hl]) i hx0) (Only.setCells _ i (Only.refl g w)) (World.size_setCells _ _ _ _))
end

section
variable {P : Program}
/-- copy(d, s): d a part of a block of one's own, s what lies at an address. -/
theorem Row.wpCopyLK {ops : Array Oper} {rest : List Oper} {o : Oper} {a : Act} {w : World} {Q : Exit → Act → World → Prop} {g i dLen m : Nat} {t T e : TypeId} {x y z news : List Value} {p : Option Addr} (h : Row w g t (x ++ y ++ z)) (hx0 : x.length = i) (T' : TypeId) (dCap sCap : Nat)
    (hT : P.underlying T = some (.slice e)) (he : One P e) (hs : Lies w w.heap.size p news) (hl : news.length = m) (hm : 0 < m) (hd : m ≤ dLen) (hy : y.length = m) (h1 : news.all (·.oneCell') = true)
    (ho : copyOf o a = some (T, T', .slice (some ⟨g, i, none⟩) dLen dCap, .slice p m sCap))
    (k : ∀ w', Row w' g t (x ++ news ++ z) → Only g w w' → w'.heap.size = w.heap.size → wpList P ops Q rest (a.put o.dst (.int .i64 (m : Int))) w') : wpList P ops Q (o :: rest) a w := by
  obtain ⟨ie, ze, hi, hz, h2, h3, h4⟩ := he.row
  obtain ⟨b, off, rfl, hb, hc⟩ := hs (by omega)
  obtain ⟨hg, p', q', hop, hp, hq⟩ := copyOf_spec ho
  refine wpList_plain hg fun K hK => ?_
  have hr := run_copy_row (P := P) w T T' o.type e g i dLen dCap ⟨b, off, none⟩ m sCap (x ++ y ++ z).toArray t news hT (by rw [hi]; simp [h2]) h (by rw [hl]; exact (Nat.min_eq_left hd).symm) (fun j u hj => by rw [Addr.add_mid]; exact hc j u hj)
    (by simp only [List.size_toArray, List.length_append]; omega) (fun v hv => (List.all_eq_true.1 h1) v hv)
  have hcur : ((x ++ y ++ z).toArray.toList.take i ++ news ++ (x ++ y ++ z).toArray.toList.drop (i + news.length)).toArray = (x ++ news ++ z).toArray := by
    congr 1
    have e1 : (x ++ y ++ z).toArray.toList = x ++ (y ++ z) := by simp
    rw [e1, List.take_left' hx0, show i + news.length = i + y.length by omega, ← hx0, ← List.drop_drop, List.drop_left, List.drop_left]
  rw [hcur, hl] at hr
  unfold Oper.wp execOp
  simp only [hop, resolve, invoke, builtin, Sem.run_bind, Sem.run_pure, Result.andThen_ok, List.map_toArray, List.map_cons, List.map_nil, hp, hq, hr]
  exact hK _ _ (k _ (h.put _) ((Only.refl g w).putRow g _ (Or.inl rfl)) (by simp))
end

/-- A block of one's own as a slice that may be appended to. -/
theorem Row.owns {w : World} {g base n cap : Nat} {e : TypeId} {xs ys : List Value} (h : Row w g e (xs ++ ys)) (hb : base ≤ g) (hx : xs.length = n) (hy : ys.length = cap - n) (hn : n ≤ cap) (hcap : cap ≤ maxLen) : w.ownsRow base e 1 (.slice (some ⟨g, 0, none⟩) n cap) n xs :=
  ⟨by omega, .inr ⟨g, cap, _, rfl, hb, h, hn, hcap, by simp; omega, by simp [← hx]⟩⟩

theorem own_below {w w' : World} {base : Nat} {e : TypeId} {s : Nat} {v : Value} {n : Nat} {xs : List Value} (h : w.ownsRow base e s v n xs) (hb : Below w.heap.size w w') : w'.ownsRow base e s v n xs := by
  refine ⟨h.1, ?_⟩
  rcases h.2 with h | ⟨g, cap, cur, h1, h2, h3, h4⟩
  · exact .inl h
  · exact .inr ⟨g, cap, cur, h1, h2, (hb.block g (Array.getElem?_eq_some_iff.1 h3).1).trans h3, h4⟩
/-- The block of a slice of one's own, known whole. -/
theorem own_row {w : World} {base g n cap : Nat} {e : TypeId} {xs : List Value} (h : w.ownsRow base e 1 (.slice (some ⟨g, 0, none⟩) n cap) n xs) : base ≤ g ∧ ∃ ys, Row w g e (xs ++ ys) := by
  rcases h.2 with ⟨h1, _⟩ | ⟨g', cap', cur, h1, h2, h3, h4, h5, h6, h7⟩
  · cases h1
  · cases h1
    refine ⟨h2, cur.toList.drop n, ?_⟩
    rw [Nat.mul_one] at h7
    rw [← h7, List.take_append_drop]
    exact h3

/-! make([]T, n, c), T of one cell. -/
def makeOf (o : Oper) (a : Act) : Option (TypeId × Value × Value) := match o.guard, o.op with | none, .makeSlice t x y => some (t, a.eval x, a.eval y) | _, _ => none
theorem makeOf_spec {o : Oper} {a : Act} {t : TypeId} {u v : Value} (h : makeOf o a = some (t, u, v)) : o.guard = none ∧ ∃ x y, o.op = .makeSlice t x y ∧ a.eval x = u ∧ a.eval y = v := by
  unfold makeOf at h
  split at h
  · rename_i t' x y hg ho
    simp only [Option.some.injEq, Prod.mk.injEq] at h
    exact ⟨hg, x, y, by rw [ho, h.1], h.2.1, h.2.2⟩
  · cases h
theorem wpMakeK {P : Program} {ops : Array Oper} {rest : List Oper} {o : Oper} {a : Act} {w : World} {Q : Exit → Act → World → Prop} (T e : TypeId) (zv : Value) (n c : Nat) (hT : P.underlying T = some (.slice e)) (hz : (P.info? e).map (fun i => (i.zero, i.size, i.bytes)) = some (some zv, 1, 8) ∨ (P.info? e).map (fun i => (i.zero, i.size, i.bytes)) = some (some zv, 1, 1)) (hzc : zv.cells = #[zv])
    (hn : n ≤ c) (hc : c ≤ 1099511627776) (ho : makeOf o a = some (T, .int .i64 (n : Int), .int .i64 (c : Int)))
    (k : ∀ w', Row w' w.heap.size e (List.replicate c zv) → Below w.heap.size w w' → w'.heap.size = w.heap.size + 1 → wpList P ops Q rest (a.put o.dst (.slice (some ⟨w.heap.size, 0, none⟩) n c)) w') : wpList P ops Q (o :: rest) a w := by
  obtain ⟨hg, x, y, hop, hx, hy⟩ := makeOf_spec ho
  cases hq : P.info? e with
  | none => rw [hq] at hz; rcases hz with h | h <;> cases h
  | some i =>
    rw [hq] at hz
    have hi : i.zero = some zv ∧ i.size = 1 ∧ i.bytes ≤ 8 := by
      rcases hz with h | h <;> simp only [Option.map_some, Option.some.injEq, Prod.mk.injEq] at h <;> exact ⟨h.1, h.2.1, by omega⟩
    have hb : (i.bytes : Int) * (c : Int) ≤ 281474976710656 := by
      have h1 : i.bytes * c ≤ 8 * 1099511627776 := Nat.mul_le_mul hi.2.2 hc
      have h2 : ((i.bytes * c : Nat) : Int) ≤ 281474976710656 := by omega
      rwa [Int.natCast_mul] at h2
    have hr := run_make (P := P) w T e i zv hT hq hi.1 .i64 .i64 (n : Int) (c : Int) (by omega) (by omega) hb (by omega)
    rw [Int.toNat_natCast, Int.toNat_natCast, hi.2.1, Nat.mul_one, hzc] at hr
    have hm : madeCells #[zv] c = (List.replicate c zv).toArray := by
      apply Array.ext'
      rw [toList_madeCells_one]
    rw [hm] at hr
    refine wpList_plain hg fun K hK => ?_
    unfold Oper.wp execOp
    simp only [hop, hx, hy, Sem.run_bind, hr, Result.andThen_ok]
    exact hK _ _ (k _ (Row.new w e _) ((Below.refl _ _).alloc (Nat.le_refl _) _) (by simp))

/-! A list that is laid over another one, from its head on. -/
def over {α : Type} (L P : List α) (i : Nat) : List α := L.take i ++ P.drop i
section
variable {α : Type}
theorem over_zero (L P : List α) : over L P 0 = P := by simp [over]
theorem over_full (L P : List α) (i : Nat) (h1 : L.length ≤ i) (h2 : P.length ≤ i) : over L P i = L := by rw [over, List.take_of_length_le h1, List.drop_of_length_le h2, List.append_nil]
theorem over_length (L P : List α) (i : Nat) (h : L.length = P.length) : (over L P i).length = P.length := by simp [over]; omega
theorem over_get (L P : List α) (i : Nat) (h : L.length = P.length) (hi : i < P.length) : (over L P i)[i]? = some P[i] := by
  rw [over, List.getElem?_append_right (by simp; omega), List.getElem?_drop, List.getElem?_eq_getElem (by simp; omega)]
  congr 2
  simp
  omega
theorem over_step (L P : List α) (i : Nat) (h : L.length = P.length) (hi : i < L.length) : (over L P i).set i L[i] = over L P (i + 1) := by
  have h1 : (L.take i).length = i := by simp; omega
  rw [over, over, List.take_succ_eq_append_getElem hi, List.set_append_right _ _ (by omega), h1, Nat.sub_self, List.append_assoc, List.drop_eq_getElem_cons (by omega : i < P.length), List.set_cons_zero]
  rfl
end
theorem bytes_set (l : List UInt8) (j : Nat) (c : UInt8) : (bytes l).set j (.int .u8 (c.toNat : Int)) = bytes (l.set j c) := by simp [bytes, List.map_set]

end Go.Proofs.Ytbpdnaiackfdmaa
