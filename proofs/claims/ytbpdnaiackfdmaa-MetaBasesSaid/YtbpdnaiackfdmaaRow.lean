/- A block known whole: reading it and writing it by value, whatever its cells; a relation of worlds in which one old block alone has turned. -/
import Derived.Test.YtbpdnaiackfdmaaKit
import Derived.Laws.Rows
import Derived.Laws.Tables
import Derived.Deep.MidRow
import Derived.Still
namespace Go.RowKit
theorem Below.putRow {B g : Nat} {w0 w : World} (hb : Below B w0 w) (hB : B ≤ g) (cs : Array Value) : Below B w0 (w.setRow g cs) :=
  hb.trans ⟨rfl, rfl, rfl, by simp, fun k hk => setRow_other w g k cs (by omega)⟩
end Go.RowKit
namespace Go.Proofs.Ytbpdnaiackfdmaa
open Go.RowKit

/-! A block that holds just these values, and may be written. -/
def Row (w : World) (g : Nat) (t : TypeId) (l : List Value) : Prop := w.heap[g]? = some (.cells l.toArray t (0, 0))
theorem Row.lt {w : World} {g : Nat} {t : TypeId} {l : List Value} (h : Row w g t l) : g < w.heap.size := (Array.getElem?_eq_some_iff.1 h).1
theorem Row.cell {w : World} {g : Nat} {t : TypeId} {l : List Value} (h : Row w g t l) (j : Nat) : w.cell? ⟨g, j, none⟩ = l[j]? := by
  rw [cell_of_row w g j l.toArray t (0, 0) h]
  simp
theorem Row.frozen {w : World} {g : Nat} {t : TypeId} {l : List Value} (h : Row w g t l) (j : Nat) : w.frozen? ⟨g, j, none⟩ = false := frozen_of_row w g j _ t h
theorem Row.new (w : World) (t : TypeId) (l : List Value) : Row (w.alloc (.cells l.toArray t)) w.heap.size t l := heap_alloc_new w _
theorem Row.alloc {w : World} {g : Nat} {t : TypeId} {l : List Value} (h : Row w g t l) (o : Obj) : Row (w.alloc o) g t l := (Below.heap_alloc w o g h.lt).trans h
theorem Row.drew {w : World} {g : Nat} {t : TypeId} {l : List Value} (h : Row w g t l) : Row w.drew g t l := h
theorem Row.drewN {w : World} {g : Nat} {t : TypeId} {l : List Value} (h : Row w g t l) (n : Nat) : Row (w.drewN n) g t l := h
theorem Row.set {w : World} {g : Nat} {t : TypeId} {l : List Value} (h : Row w g t l) (j : Nat) (v : Value) : Row (w.setCell ⟨g, j, none⟩ v) g t (l.set j v) := by
  unfold Row
  rw [heap_setCell_same w g j _ t v h]
  simp
theorem Row.far {w : World} {g : Nat} {t : TypeId} {l : List Value} (h : Row w g t l) (p : Addr) (v : Value) (hp : g ≠ p.block) : Row (w.setCell p v) g t l := (heap_setCell_other w p g v hp).trans h
theorem Row.below {w w' : World} {B g : Nat} {t : TypeId} {l : List Value} (h : Row w g t l) (hb : Below B w w') (hg : g < B) : Row w' g t l := (hb.block g hg).trans h
theorem Row.step {w w' : World} {g : Nat} {t : TypeId} {l : List Value} (h : Row w g t l) (hb : Below w.heap.size w w') : Row w' g t l := h.below hb h.lt


section
variable {P : Program}
/-- The whole block, by value. -/
theorem Row.load {w : World} {g : Nat} {t : TypeId} {l : List Value} (h : Row w g t l) (ty : TypeId) (d : TypeDesc) (hu : P.underlying ty = some d) (hd : d.isRow = true) (hi : (P.info? ty).map (·.size) = some l.length) :
    (Instr.loadAt ty (.pointer (some ⟨g, 0, none⟩))).run P w = .ok (.agg l.toArray) w := by
  have := run_loadVar_row (P := P) w g t ty l.toArray (0, 0) d h hu (by cases d <;> simp_all) (by simpa using hi)
  simp only [Instr.loadAt, Instr.sureAddr, Sem.run_bind, Sem.run_pure, Result.andThen_ok, this]
/-- A value over the whole block. -/
theorem Row.store {w : World} {g : Nat} {t : TypeId} {l : List Value} (h : Row w g t l) (ty : TypeId) (m : List Value) (hi : (P.info? ty).map (·.size) = some m.length) (hl : l.length = m.length) (h1 : m.all (·.oneCell') = true) :
    (Instr.storeAt ty (.pointer (some ⟨g, 0, none⟩)) (.agg m.toArray)).run P w = .ok () (w.setRow g m.toArray) := by
  have := run_storeVar_row (P := P) w g t ty l.toArray m.toArray h (by simpa using hi) (by simpa using hl) (by simpa using h1)
  simp only [Instr.storeAt, Instr.sureAddr, Sem.run_bind, Sem.run_pure, Result.andThen_ok, this]
/-- The two at the walk's list of operations: 'go_wp2_with (first | refine HR.out.wpLoad TY _ A.underlyingTY rfl HI.out _ rfl rfl rfl ?_ | ..)'. -/
theorem Row.wpLoad {ops : Array Oper} {rest : List Oper} {o : Oper} {a : Act} {w : World} {Q : Exit → Act → World → Prop} {g : Nat} {t : TypeId} {l : List Value} (h : Row w g t l) (ty : TypeId) (d : TypeDesc) (hu : P.underlying ty = some d) (hd : d.isRow = true)
    (hi : (P.info? ty).map (·.size) = some l.length) (x : Operand) (hgd : o.guard = none) (ho : o.op = .load ty x) (hx : a.eval x = .pointer (some ⟨g, 0, none⟩)) (k : wpList P ops Q rest (a.put o.dst (.agg l.toArray)) w) : wpList P ops Q (o :: rest) a w :=
  wpList_load_row hgd ty x ho g hx t l.toArray (0, 0) d h hu (by cases d <;> simp_all) (by simpa using hi) k
theorem Row.wpStore {ops : Array Oper} {rest : List Oper} {o : Oper} {a : Act} {w : World} {Q : Exit → Act → World → Prop} {g : Nat} {t : TypeId} {l : List Value} (h : Row w g t l) (ty : TypeId) (m : List Value)
    (hi : (P.info? ty).map (·.size) = some m.length) (hl : l.length = m.length) (h1 : m.all (·.oneCell') = true) (x y : Operand) (hgd : o.guard = none) (ho : o.op = .store ty x y) (hx : a.eval x = .pointer (some ⟨g, 0, none⟩)) (hy : a.eval y = .agg m.toArray)
    (k : wpList P ops Q rest (a.put o.dst undef) (w.setRow g m.toArray)) : wpList P ops Q (o :: rest) a w :=
  wpList_store_row hgd ty x y ho g m.toArray hx hy t l.toArray h (by simpa using hi) (by simpa using hl) (by simpa using h1) k
/-- A result that lies in a block. -/
theorem Row.result {w : World} {g : Nat} {t : TypeId} {l : List Value} (h : Row w g t l) {fn : Func} {p : Tmp} {ty : TypeId} (hf : fn.results = #[.cell p ty]) (tmps : Array Value) (d : TypeDesc)
    (hp : tmps.getD p undef = .pointer (some ⟨g, 0, none⟩)) (hu : P.underlying ty = some d) (hd : d.isRow = true) (hi : (P.info? ty).map (·.size) = some l.length) :
    (results fn tmps).run P w = .ok (.agg l.toArray) w :=
  results_cell_row hf tmps w g t l.toArray (0, 0) d hp h hu (by cases d <;> simp_all) (by simpa using hi)
end
theorem Row.put {w : World} {g : Nat} {t : TypeId} {l : List Value} (h : Row w g t l) (m : List Value) : Row (w.setRow g m.toArray) g t m := setRow_heap w g _ _ t _ h
theorem Row.putFar {w : World} {g : Nat} {t : TypeId} {l : List Value} (h : Row w g t l) (k : Nat) (cs : Array Value) (hne : g ≠ k) : Row (w.setRow k cs) g t l := (setRow_other w k g cs hne).trans h
/-- Of what was there block g alone may have turned. -/
def Only (g : Nat) (w w' : World) : Prop := w'.os = w.os ∧ w'.tape = w.tape ∧ w'.output = w.output ∧ w.heap.size ≤ w'.heap.size ∧ ∀ k, k < w.heap.size → k ≠ g → w'.heap[k]? = w.heap[k]?
theorem Only.refl (g : Nat) (w : World) : Only g w w := ⟨rfl, rfl, rfl, Nat.le_refl _, fun _ _ _ => rfl⟩
theorem Only.size {g : Nat} {w w' : World} (h : Only g w w') : w.heap.size ≤ w'.heap.size := h.2.2.2.1
theorem Only.trans {g : Nat} {a b c : World} (h : Only g a b) (k : Only g b c) : Only g a c :=
  ⟨k.1.trans h.1, k.2.1.trans h.2.1, k.2.2.1.trans h.2.2.1, Nat.le_trans h.size k.size, fun i hi hne => (k.2.2.2.2 i (Nat.lt_of_lt_of_le hi h.size) hne).trans (h.2.2.2.2 i hi hne)⟩
theorem Only.of_below {g : Nat} {w w' : World} (h : Below w.heap.size w w') : Only g w w' := ⟨h.os, h.tape, h.output, h.size, fun k hk _ => h.block k hk⟩
theorem Only.step {g : Nat} {a b c : World} (h : Only g a b) (k : Below b.heap.size b c) : Only g a c := h.trans (Only.of_below k)
theorem Only.drew {g : Nat} {a b : World} (h : Only g a b) : Only g a b.drew := h
theorem Only.drewN {g : Nat} {a b : World} (h : Only g a b) (n : Nat) : Only g a (b.drewN n) := h.trans ⟨rfl, rfl, rfl, Nat.le_refl _, fun _ _ _ => rfl⟩
theorem Only.alloc {g : Nat} {a b : World} (h : Only g a b) (o : Obj) : Only g a (b.alloc o) := h.step ((Below.refl _ _).alloc (Nat.le_refl _) _)
theorem Only.setCell {g : Nat} {a b : World} (h : Only g a b) (p : Addr) (v : Value) (hp : p.block = g ∨ a.heap.size ≤ p.block) : Only g a (b.setCell p v) :=
  ⟨h.1, h.2.1, h.2.2.1, Nat.le_trans h.size (by simp [World.setCell]), fun k hk hne => (Below.heap_setCell _ _ _ _ (by rcases hp with hp | hp <;> omega)).trans (h.2.2.2.2 k hk hne)⟩
theorem Only.putRow {g : Nat} {a b : World} (h : Only g a b) (k : Nat) (cs : Array Value) (hk : k = g ∨ a.heap.size ≤ k) : Only g a (b.setRow k cs) :=
  ⟨h.1, h.2.1, h.2.2.1, Nat.le_trans h.size (by simp), fun i hi hne => (setRow_other _ _ _ _ (by rcases hk with hk | hk <;> omega)).trans (h.2.2.2.2 i hi hne)⟩
/-- Of a block that is new there nothing old has turned. -/
theorem Only.below {g B : Nat} {w w' : World} (h : Only g w w') (hg : B ≤ g) (hB : B ≤ w.heap.size) : Below B w w' := ⟨h.1, h.2.1, h.2.2.1, h.size, fun k hk => h.2.2.2.2 k (by omega) (by omega)⟩
theorem Row.only {w w' : World} {g k : Nat} {t : TypeId} {l : List Value} (h : Row w g t l) (ho : Only k w w') (hne : g ≠ k) : Row w' g t l := (ho.2.2.2.2 g h.lt hne).trans h
theorem Lies.only {w w' : World} {B g : Nat} {a : Option Addr} {xs : List Value} (h : Lies w B a xs) (ho : Only g w w') (hB : B ≤ w.heap.size) (hg : B ≤ g) : Lies w' B a xs :=
  h.below (ho.below hg hB)


/-! A part of a block, by value. -/
theorem Row.mid {w : World} {g : Nat} {t : TypeId} {x y z : List Value} (h : Row w g t (x ++ y ++ z)) (o : Nat) (ho : x.length = o) : w.rangeAt g o y := by
  intro j v hv
  have hj : j < y.length := (List.getElem?_eq_some_iff.1 hv).1
  rw [h.cell, ← ho, List.append_assoc, List.getElem?_append_right (by omega), Nat.add_sub_cancel_left, List.getElem?_append_left hj, hv]
theorem Row.there {w : World} {g : Nat} {t : TypeId} {x y z : List Value} (h : Row w g t (x ++ y ++ z)) (o n : Nat) (ho : x.length = o) (hn : y.length = n) : w.there g o n := by
  intro j hj
  refine ⟨?_, h.frozen _⟩
  rw [h.cell, List.getElem?_eq_getElem (by simp; omega)]
  rfl
theorem Row.setCells {g : Nat} {t : TypeId} {z : List Value} : ∀ (vs : List Value) {w : World} {x y : List Value}, Row w g t (x ++ y ++ z) → y.length = vs.length → ∀ o, x.length = o → Row (w.setCells g o vs) g t (x ++ vs ++ z)
  | [], w, x, y, h, hy, o, _ => by
    have : y = [] := List.eq_nil_of_length_eq_zero hy
    subst this
    exact h
  | v :: r, w, x, y, h, hy, o, ho => by
    match y, hy with
    | u :: ys, hy =>
      have h1 := h.set o v
      have e : (x ++ u :: ys ++ z).set o v = (x ++ [v]) ++ ys ++ z := by
        rw [List.append_assoc, List.set_append_right _ _ (by omega), ← ho, Nat.sub_self]
        simp
      rw [e] at h1
      have h2 := Row.setCells r h1 (by simpa using hy) (o + 1) (by simp [ho])
      have e2 : x ++ [v] ++ r ++ z = x ++ v :: r ++ z := by simp
      rw [e2] at h2
      exact h2
theorem Only.setCells {g : Nat} : ∀ (vs : List Value) (o : Nat) {a b : World}, Only g a b → Only g a (b.setCells g o vs)
  | [], _, _, _, h => h
  | v :: r, o, _, _, h => Only.setCells r (o + 1) (h.setCell ⟨g, o, none⟩ v (Or.inl rfl))
theorem Row.farCells {g k : Nat} {t : TypeId} {l : List Value} : ∀ (vs : List Value) (o : Nat) {w : World}, Row w g t l → g ≠ k → Row (w.setCells k o vs) g t l
  | [], _, _, h, _ => h
  | v :: r, o, _, h, hne => Row.farCells r (o + 1) (h.far ⟨k, o, none⟩ v hne) hne
section
variable {P : Program}
theorem Row.wpLoadMid {ops : Array Oper} {rest : List Oper} {o : Oper} {a : Act} {w : World} {Q : Exit → Act → World → Prop} {g i : Nat} {t : TypeId} {x y z : List Value} (h : Row w g t (x ++ y ++ z)) (hx0 : x.length = i) (ty : TypeId) (d : TypeDesc) (hu : P.underlying ty = some d) (hd : d.isRow = true)
    (hi : (P.info? ty).map (·.size) = some y.length) (p : Operand) (hgd : o.guard = none) (ho : o.op = .load ty p) (hx : a.eval p = .pointer (some ⟨g, i, none⟩)) (k : wpList P ops Q rest (a.put o.dst (.agg y.toArray)) w) : wpList P ops Q (o :: rest) a w :=
  wpList_load_mid hgd ty p ho g i hx y d (h.mid i hx0) hu hd hi k
theorem Row.wpStoreMid {ops : Array Oper} {rest : List Oper} {o : Oper} {a : Act} {w : World} {Q : Exit → Act → World → Prop} {g i : Nat} {t : TypeId} {x y z : List Value} (h : Row w g t (x ++ y ++ z)) (hx0 : x.length = i) (ty : TypeId) (m : List Value) (hm : y.length = m.length)
    (hi : (P.info? ty).map (·.size) = some m.length) (h1 : m.all (·.oneCell') = true) (p q : Operand) (hgd : o.guard = none) (ho : o.op = .store ty p q) (hx : a.eval p = .pointer (some ⟨g, i, none⟩)) (hy : a.eval q = .agg m.toArray)
    (k : wpList P ops Q rest (a.put o.dst undef) (w.setCells g i m)) : wpList P ops Q (o :: rest) a w :=
  wpList_store_mid hgd ty p q ho g i m.toArray hx hy (by simpa using h.there i m.length hx0 hm) (by simpa using hi) (by simpa using h1) (by simpa using k)
end

section
variable {P : Program}
/-- A variable's zero value, its cells under a letter. -/
theorem wpAllocZero {ops : Array Oper} {rest : List Oper} {o : Oper} {a : Act} {w : World} {Q : Exit → Act → World → Prop} (Z : List Value) (ty : TypeId) (hz : ∀ u, (zeroValue ty).run P u = .ok (.agg Z.toArray) u) (hgd : o.guard = none) (ho : o.op = .alloc ty)
    (k : wpList P ops Q rest (a.put o.dst (.pointer (some ⟨w.heap.size, 0, none⟩))) (w.alloc (.cells Z.toArray ty))) : wpList P ops Q (o :: rest) a w :=
  wpList_plain hgd fun _ hK => by
    have h := hz w
    unfold Oper.wp execOp
    simp only [ho, Instr.alloc, Sem.run_bind, h, Result.andThen_ok, newVar, Value.cells]
    simp [go_sem]
    exact hK _ _ k
/-! The same with the world behind under a letter: what is known of it stands in the three facts that come with it. What the operation is stands in ONE closed premise ('rfl'). -/
def boxOf (o : Oper) (a : Act) : Option (TypeId × Value) := match o.guard, o.op with | none, .box ty x => some (ty, a.eval x) | _, _ => none
def allocOf (o : Oper) : Option TypeId := match o.guard, o.op with | none, .alloc ty => some ty | _, _ => none
def loadOf (o : Oper) (a : Act) : Option (TypeId × Value) := match o.guard, o.op with | none, .load ty x => some (ty, a.eval x) | _, _ => none
def storeOf (o : Oper) (a : Act) : Option (TypeId × Value × Value) := match o.guard, o.op with | none, .store ty x y => some (ty, a.eval x, a.eval y) | _, _ => none
theorem boxOf_spec {o : Oper} {a : Act} {ty : TypeId} {v : Value} (h : boxOf o a = some (ty, v)) : o.guard = none ∧ ∃ x, o.op = .box ty x ∧ a.eval x = v := by
  unfold boxOf at h
  split at h
  · rename_i x hg ho
    simp only [Option.some.injEq, Prod.mk.injEq] at h
    exact ⟨hg, _, by rw [ho, h.1], h.2⟩
  · cases h
theorem allocOf_spec {o : Oper} {ty : TypeId} (h : allocOf o = some ty) : o.guard = none ∧ o.op = .alloc ty := by
  unfold allocOf at h
  split at h
  · rename_i hg ho
    simp only [Option.some.injEq] at h
    exact ⟨hg, by rw [ho, h]⟩
  · cases h
theorem loadOf_spec {o : Oper} {a : Act} {ty : TypeId} {v : Value} (h : loadOf o a = some (ty, v)) : o.guard = none ∧ ∃ x, o.op = .load ty x ∧ a.eval x = v := by
  unfold loadOf at h
  split at h
  · rename_i x hg ho
    simp only [Option.some.injEq, Prod.mk.injEq] at h
    exact ⟨hg, _, by rw [ho, h.1], h.2⟩
  · cases h
theorem storeOf_spec {o : Oper} {a : Act} {ty : TypeId} {u v : Value} (h : storeOf o a = some (ty, u, v)) : o.guard = none ∧ ∃ x y, o.op = .store ty x y ∧ a.eval x = u ∧ a.eval y = v := by
  unfold storeOf at h
  split at h
  · rename_i x y hg ho
    simp only [Option.some.injEq, Prod.mk.injEq] at h
    exact ⟨hg, _, _, by rw [ho, h.1], h.2.1, h.2.2⟩
  · cases h

/-- What a type's value takes, out of one closed fact on its row of the table. -/
structure Fits (P : Program) (ty : TypeId) (n : Nat) : Prop where
  row : ∃ d, P.underlying ty = some d ∧ d.isRow = true
  size : (P.info? ty).map (·.size) = some n

theorem wpAllocK {ops : Array Oper} {rest : List Oper} {o : Oper} {a : Act} {w : World} {Q : Exit → Act → World → Prop} (Z : List Value) (ty : TypeId) (hz : ∀ u, (zeroValue ty).run P u = .ok (.agg Z.toArray) u) (ho : allocOf o = some ty)
    (k : ∀ w', Row w' w.heap.size ty Z → Below w.heap.size w w' → w'.heap.size = w.heap.size + 1 → wpList P ops Q rest (a.put o.dst (.pointer (some ⟨w.heap.size, 0, none⟩))) w') : wpList P ops Q (o :: rest) a w := by
  obtain ⟨hg, ho⟩ := allocOf_spec ho
  exact wpAllocZero Z ty hz hg ho (k _ (Row.new w ty Z) ((Below.refl _ _).alloc (Nat.le_refl _) _) (by simp))
theorem wpBoxK {ops : Array Oper} {rest : List Oper} {o : Oper} {a : Act} {w : World} {Q : Exit → Act → World → Prop} (l : List Value) (ty : TypeId) (hb : boxOf o a = some (ty, .agg l.toArray))
    (k : ∀ w', Row w' w.heap.size ty l → Below w.heap.size w w' → w'.heap.size = w.heap.size + 1 → wpList P ops Q rest (a.put o.dst (.pointer (some ⟨w.heap.size, 0, none⟩))) w') : wpList P ops Q (o :: rest) a w := by
  obtain ⟨hgd, x, ho, hx⟩ := boxOf_spec hb
  exact wpList_plain hgd fun _ hK => by
    unfold Oper.wp execOp
    simp only [ho, hx, Instr.box, newVar, Value.cells]
    simp [go_sem]
    exact hK _ _ (k _ (Row.new w ty l) ((Below.refl _ _).alloc (Nat.le_refl _) _) (by simp))
theorem Row.wpLoadK {ops : Array Oper} {rest : List Oper} {o : Oper} {a : Act} {w : World} {Q : Exit → Act → World → Prop} {g : Nat} {t : TypeId} {l : List Value} (h : Row w g t l) (ty : TypeId) {n : Nat} (hf : Fits P ty n) (hl : l.length = n)
    (ho : loadOf o a = some (ty, .pointer (some ⟨g, 0, none⟩))) (k : wpList P ops Q rest (a.put o.dst (.agg l.toArray)) w) : wpList P ops Q (o :: rest) a w := by
  obtain ⟨hg, x, ho, hx⟩ := loadOf_spec ho
  obtain ⟨d, hu, hd⟩ := hf.row
  exact h.wpLoad ty d hu hd (by rw [hl]; exact hf.size) x hg ho hx k
theorem Row.wpStoreK {ops : Array Oper} {rest : List Oper} {o : Oper} {a : Act} {w : World} {Q : Exit → Act → World → Prop} {g : Nat} {t : TypeId} {l : List Value} (h : Row w g t l) (ty : TypeId) (m : List Value) {n : Nat}
    (hf : Fits P ty n) (hl : l.length = n) (hm : m.length = n) (h1 : m.all (·.oneCell') = true) (ho : storeOf o a = some (ty, .pointer (some ⟨g, 0, none⟩), .agg m.toArray))
    (k : ∀ w', Row w' g t m → Only g w w' → w'.heap.size = w.heap.size → wpList P ops Q rest (a.put o.dst undef) w') : wpList P ops Q (o :: rest) a w := by
  obtain ⟨hg, x, y, ho, hx, hy⟩ := storeOf_spec ho
  exact h.wpStore ty m (by rw [hm]; exact hf.size) (by rw [hl, hm]) h1 x y hg ho hx hy (k _ (h.put m) ((Only.refl g w).putRow g _ (Or.inl rfl)) (by simp))
theorem World.size_setCells (g : Nat) : ∀ (vs : List Value) (o : Nat) (w : World), (w.setCells g o vs).heap.size = w.heap.size
  | [], _, _ => rfl
  | v :: r, o, w => by rw [World.setCells, World.size_setCells g r]; simp [World.setCell]
theorem Row.wpLoadMidK {ops : Array Oper} {rest : List Oper} {o : Oper} {a : Act} {w : World} {Q : Exit → Act → World → Prop} {g : Nat} {t : TypeId} {x y z : List Value} (h : Row w g t (x ++ y ++ z)) (i : Nat) (hx0 : x.length = i) (ty : TypeId) {n : Nat} (hf : Fits P ty n) (hy : y.length = n)
    (ho : loadOf o a = some (ty, .pointer (some ⟨g, i, none⟩))) (k : wpList P ops Q rest (a.put o.dst (.agg y.toArray)) w) : wpList P ops Q (o :: rest) a w := by
  obtain ⟨hg, p, ho, hp⟩ := loadOf_spec ho
  obtain ⟨d, hu, hd⟩ := hf.row
  exact h.wpLoadMid hx0 ty d hu hd (by rw [hy]; exact hf.size) p hg ho hp k
theorem Row.wpStoreMidK {ops : Array Oper} {rest : List Oper} {o : Oper} {a : Act} {w : World} {Q : Exit → Act → World → Prop} {g : Nat} {t : TypeId} {x y z : List Value} (h : Row w g t (x ++ y ++ z)) (i : Nat) (hx0 : x.length = i) (ty : TypeId) (m : List Value) {n : Nat} (hf : Fits P ty n) (hy : y.length = n) (hm : m.length = n)
    (h1 : m.all (·.oneCell') = true) (ho : storeOf o a = some (ty, .pointer (some ⟨g, i, none⟩), .agg m.toArray))
    (k : ∀ w', Row w' g t (x ++ m ++ z) → Only g w w' → w'.heap.size = w.heap.size → wpList P ops Q rest (a.put o.dst undef) w') : wpList P ops Q (o :: rest) a w := by
  obtain ⟨hg, p, q, ho, hp, hq⟩ := storeOf_spec ho
  exact h.wpStoreMid hx0 ty m (by rw [hy, hm]) (by rw [hm]; exact hf.size) h1 p q hg ho hp hq (k _ (Row.setCells m h (by rw [hy, hm]) i hx0) (Only.setCells m i (Only.refl g w)) (World.size_setCells _ _ _ _))
/-- A value of one cell into a block. -/
theorem Row.wpStore1K {ops : Array Oper} {rest : List Oper} {o : Oper} {a : Act} {w : World} {Q : Exit → Act → World → Prop} {g : Nat} {t : TypeId} {l : List Value} (h : Row w g t l) (i : Nat) (ty : TypeId) (v : Value) (hf : (P.info? ty).map (·.size) = some 1) (hi : i < l.length) (hv : v.cells = #[v])
    (h1 : v.oneCell' = true) (ho : storeOf o a = some (ty, .pointer (some ⟨g, i, none⟩), v))
    (k : ∀ w', Row w' g t (l.set i v) → Only g w w' → w'.heap.size = w.heap.size → wpList P ops Q rest (a.put o.dst undef) w') : wpList P ops Q (o :: rest) a w := by
  obtain ⟨hg, x, y, ho, hx, hy⟩ := storeOf_spec ho
  have hc : w.cell? ⟨g, i, none⟩ = some l[i] := by rw [h.cell, List.getElem?_eq_getElem hi]
  have hr := run_storeCells_cells (P := P) g i [v] 0 w (fun j hj => by
    have : j = 0 := by simpa using hj
    subst this
    simpa using by rw [hc]; rfl) (fun j _ => by simpa using h.frozen _) (fun u hu => by
    have : u = v := by simpa using hu
    rw [this]; exact h1)
  refine wpList_plain hg fun K hK => ?_
  cases hq : P.info? ty with
  | none => simp [hq] at hf
  | some ie =>
    have hs : ie.size = 1 := by simpa [hq] using hf
    unfold Oper.wp execOp
    simp only [ho, hx, hy, Instr.storeAt, Instr.sureAddr, Sem.run_bind, Sem.run_pure, Result.andThen_ok, storeVar, hv, sizeOf, typeInfo]
    simp only [Nat.add_zero, World.setCells] at hr
    simp [hq, hs, hr]
    exact hK _ _ (k _ (h.set i v) ((Only.refl g w).setCell ⟨g, i, none⟩ v (Or.inl rfl)) (by simp [World.setCell]))

/-- A load by value among the operations of a still region. -/
theorem Row.stillLoadMid {ops : Array Oper} {rest : List Oper} {o : Oper} {a : Act} {w : World} {Q : Act → Prop} {g : Nat} {t : TypeId} {x y z : List Value} (h : Row w g t (x ++ y ++ z)) (i : Nat) (hx0 : x.length = i) (ty : TypeId) {n : Nat} (hf : Fits P ty n) (hy : y.length = n)
    (ho : loadOf o a = some (ty, .pointer (some ⟨g, i, none⟩))) (k : wpStill P ops w Q rest (a.put o.dst (.agg y.toArray))) : wpStill P ops w Q (o :: rest) a := by
  obtain ⟨hg, p, ho, hp⟩ := loadOf_spec ho
  obtain ⟨d, hu, hd⟩ := hf.row
  have hw : Region.wanted o (yielded ops a.tmps) = true := by unfold Region.wanted; rw [hg]
  show (if Region.wanted o (yielded ops a.tmps) then o.still P a w (wpStill P ops w Q rest) else wpStill P ops w Q rest (a.put o.dst undef))
  rw [if_pos hw]
  unfold Oper.still execOp
  simp only [ho, hp, run_loadAt_mid w g i ty y d (h.mid i hx0) hu hd (by rw [hy]; exact hf.size), Sem.run_bind, Sem.run_pure, Result.andThen_ok, Oper.stillUpon]
  exact ⟨trivial, k⟩
theorem Row.stillLoad {ops : Array Oper} {rest : List Oper} {o : Oper} {a : Act} {w : World} {Q : Act → Prop} {g : Nat} {t : TypeId} {l : List Value} (h : Row w g t l) (ty : TypeId) {n : Nat} (hf : Fits P ty n) (hl : l.length = n)
    (ho : loadOf o a = some (ty, .pointer (some ⟨g, 0, none⟩))) (k : wpStill P ops w Q rest (a.put o.dst (.agg l.toArray))) : wpStill P ops w Q (o :: rest) a :=
  Row.stillLoadMid (x := []) (y := l) (z := []) (by simpa using h) 0 rfl ty hf hl ho k
/-- A struct's or an array's zero value, built. -/
def buildZ (o : Oper) : Option TypeId := match o.guard, o.op with | none, .build t parts => (if parts.size = 0 then some t else none) | _, _ => none
theorem wpBuildZeroK {ops : Array Oper} {rest : List Oper} {o : Oper} {a : Act} {w : World} {Q : Exit → Act → World → Prop} (l : List Value) (ty : TypeId) (hb : P.built ty [] = some l.toArray) (ho : buildZ o = some ty)
    (k : wpList P ops Q rest (a.put o.dst (.agg l.toArray)) w) : wpList P ops Q (o :: rest) a w := by
  unfold buildZ at ho
  split at ho
  · rename_i t ps hg hop
    split at ho
    · rename_i h0
      obtain rfl := Option.some.inj ho
      have e : ps = #[] := Array.eq_empty_of_size_eq_zero h0
      subst e
      have e2 : ((#[] : Array (Nat × Operand)).map fun (i, x) => (i, a.eval x)).toList = [] := by simp
      refine wpList_build hg t #[] hop (by rw [e2, hb]; rfl) ?_
      rw [e2, hb]
      exact k
    · cases ho
  · cases ho
/-- A load by value that is guarded, its guard decided. -/
def loadG (ops : Array Oper) (o : Oper) (a : Act) : Option (TypeId × Value) := if Region.wanted o (yielded ops a.tmps) then (match o.op with | .load ty x => some (ty, a.eval x) | _ => none) else none
theorem Row.wpLoadG {ops : Array Oper} {rest : List Oper} {o : Oper} {a : Act} {w : World} {Q : Exit → Act → World → Prop} {g : Nat} {t : TypeId} {l : List Value} (h : Row w g t l) (ty : TypeId) {n : Nat} (hf : Fits P ty n) (hl : l.length = n)
    (ho : loadG ops o a = some (ty, .pointer (some ⟨g, 0, none⟩))) (k : wpList P ops Q rest (a.put o.dst (.agg l.toArray)) w) : wpList P ops Q (o :: rest) a w := by
  unfold loadG at ho
  split at ho
  · rename_i hw
    split at ho
    · rename_i ty' x hop
      simp only [Option.some.injEq, Prod.mk.injEq] at ho
      obtain ⟨rfl, hx⟩ := ho
      obtain ⟨d, hu, hd⟩ := hf.row
      refine wpList_step fun K hK => ?_
      rw [if_pos hw]
      exact wp_load_row ty' x hop g hx t l.toArray (0, 0) d h hu (by cases d <;> simp_all) (by simpa [hl] using hf.size) (hK _ _ k)
    · cases ho
  · cases ho
end

end Go.Proofs.Ytbpdnaiackfdmaa
