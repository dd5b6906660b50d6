import Derived.Test.YtojimgbcghiblaaGreatDoorProg
import Derived.WalkKit
import Derived.Lib.Hide
import Derived.BigQuiet
import Derived.Outline
import Derived.Laws.IdiomStrings
import Derived.Laws.BytesArg
import Derived.PlainAid
import Derived.Deep.QuietTactic
import Derived.Laws.Rows
import Derived.Laws.Tables
import Derived.Deep.MidRow
import Derived.Still
import Derived.Maps.AppendAt
import Derived.Laws.MakeOwn
import Derived.Laws.OwnMore
import Derived.Laws.CopyRow
import Derived.StillTailTactics
import Derived.RegionTactic
import Derived.StillTail
namespace Go.Proofs.YtojimgbcghiblaaGreatDoor
open Go.RowKit
theorem zf {α : Type} {p : α → Prop} {a : α} {l : List α} (h : p a ∧ ∀ x ∈ l, p x) : ∀ x ∈ a :: l, p x := List.forall_mem_cons.2 h
theorem zh {p : Prop} (h : p) : Hid p := Lib.hid h
theorem zb {B : Nat} {w : World} : Below B w w := Below.refl _ _
end Go.Proofs.YtojimgbcghiblaaGreatDoor
set_option linter.unusedVariables false
set_option maxRecDepth 100000
set_option maxHeartbeats 8000000
namespace Go.RowKit
theorem Below.drewN {B : Nat} {a w : World} (h : Below B a w) (n : Nat) : Below B a (w.drewN n) := h.trans ⟨rfl, rfl, rfl, Nat.le_refl _, fun _ _ => rfl⟩
theorem Below.next {a b c : World} (h : Below a.heap.size a b) (k : Below b.heap.size b c) : Below a.heap.size a c := h.trans (k.mono h.size)
end Go.RowKit
namespace Go.Proofs.YtojimgbcghiblaaGreatDoor
section
open Go.RowKit
theorem zap {a b : Bool} (h : a = b) : Ending.returned (.bool a) = .returned (.bool b) := by rw [h]
theorem zay {k : IntKind} {a b : Int} (h : a = b) : Ending.returned (.int k a) = .returned (.int k b) := by rw [h]
theorem zbna {a b : ByteArray} (h : a = b) : Ending.returned (.string a) = .returned (.string b) := by rw [h]
theorem zzi (a : Nat) (h : a < 9223372036854775808) : (BitVec.ofInt 64 (a : Int)).toNat = a := by
 rw [BitVec.ofInt_natCast, BitVec.toNat_ofNat]
 exact Nat.mod_eq_of_lt (by omega)
theorem zboi (a b : Nat) (ha : a < 9223372036854775808) (hb : b < 9223372036854775808) : bits .or .i64 (a : Int) (b : Int) = ((a ||| b : Nat) : Int) := by
 have hx : a ||| b < 2 ^ 63 := Nat.or_lt_two_pow (by omega) (by omega)
 show IntKind.i64.wrap ((BitVec.ofInt 64 (a : Int) ||| BitVec.ofInt 64 (b : Int)).toNat : Int) = _
 rw [BitVec.toNat_or, zzi a ha, zzi b hb, IntKind.wrap_i64]
 omega
theorem snoc_ind {α : Type} {P : List α -> Prop} (h0 : P []) (h1 : ∀ l a, P l -> P (l ++ [a])) (l : List α) : P l := by
 have h : ∀ r : List α, P r.reverse := fun r => by
  induction r with
  | nil => exact h0
  | cons a r ih => rw [List.reverse_cons]; exact h1 _ _ ih
 simpa using h l.reverse
def Lies (w : World) (B : Nat) (a : Option Addr) (xs : List Value) : Prop :=
 0 < xs.length -> ∃ b off, a = some ⟨b, off, none⟩ ∧ b < B ∧ ∀ j u, xs[j]? = some u -> w.cell? ⟨b, off + j, none⟩ = some u
theorem Lies.below {w w' : World} {B : Nat} {a : Option Addr} {xs : List Value} (h : Lies w B a xs) (hb : Below B w w') : Lies w' B a xs := by
 intro hx
 obtain ⟨b, off, e, hlt, hc⟩ := h hx
 exact ⟨b, off, e, hlt, fun j u hu => (hb.cell (p := ⟨b, off + j, none⟩) hlt).trans (hc j u hu)⟩
theorem Lies.mono {w : World} {B B' : Nat} {a : Option Addr} {xs : List Value} (h : Lies w B a xs) (hB : B <= B') : Lies w B' a xs := by
 intro hx
 obtain ⟨b, off, e, hlt, hc⟩ := h hx
 exact ⟨b, off, e, by omega, hc⟩
theorem Lies.step {w w' : World} {a : Option Addr} {xs : List Value} (h : Lies w w.heap.size a xs) (hb : Below w.heap.size w w') : Lies w' w'.heap.size a xs := (h.below hb).mono hb.size
theorem Lies.nil (w : World) (B : Nat) (a : Option Addr) : Lies w B a [] := fun h => absurd h (by simp)
theorem Lies.one {w : World} {b : Nat} {u : Value} (h : w.cell? ⟨b, 0, none⟩ = some u) (hb : b < w.heap.size) : Lies w w.heap.size (some ⟨b, 0, none⟩) [u] := by
 intro _
 refine ⟨b, 0, rfl, hb, fun j v hj => ?_⟩
 match j, hj with
 | 0, hj => simp at hj; subst hj; simpa using h
theorem Lies.new (xs : List Value) (w : World) (t : TypeId) : Lies (w.alloc (.cells xs.toArray t)) (w.alloc (.cells xs.toArray t)).heap.size (some ⟨w.heap.size, 0, none⟩) xs := by
 intro _
 refine ⟨_, 0, rfl, by simp, fun j u hu => ?_⟩
 rw [Nat.zero_add, World.cell?_alloc_at xs.toArray t w.heap.size j rfl]
 simpa using hu
theorem zab (w : World) (o : Obj) : Below w.heap.size w (w.alloc o) := (zb).alloc (Nat.le_refl _) _
def ints (l : List Int) : List Value := l.map (Value.int .i64)
theorem zbn (l : List Int) : (ints l).length = l.length := by simp [ints]
theorem zff (l : List Int) (j : Nat) (h : j < l.length) : (ints l)[j]? = some (.int .i64 l[j]) := by simp [ints, h]
theorem zxj (l m : List Int) : ints (l ++ m) = ints l ++ ints m := by simp [ints]
def bytes (l : List UInt8) : List Value := l.map fun b => .int .u8 (b.toNat : Int)
theorem zaa (l : List UInt8) : (bytes l).length = l.length := by simp [bytes]
theorem zai (l m : List UInt8) : bytes (l ++ m) = bytes l ++ bytes m := by simp [bytes]
theorem zet (l : List UInt8) (j : Nat) (h : j < l.length) : (bytes l)[j]? = some (.int .u8 (l[j].toNat : Int)) := by rw [bytes, List.getElem?_map, List.getElem?_eq_getElem h]; rfl
def strs (l : List ByteArray) : List Value := l.map Value.string
theorem zfq (l : List ByteArray) : (strs l).length = l.length := by simp [strs]
theorem zob (l : List ByteArray) (j : Nat) (h : j < l.length) : (strs l)[j]? = some (.string l[j]) := by simp [strs, h]
def cat (l : List ByteArray) : List UInt8 := l.flatMap fun s => s.data.toList
theorem zng (l : List ByteArray) (s : ByteArray) : cat (l ++ [s]) = cat l ++ s.data.toList := by rw [cat, List.flatMap_append, List.flatMap_cons, List.flatMap_nil, List.append_nil]; rfl
theorem zqa (s : ByteArray) : cat [s] = s.data.toList := by rw [cat, List.flatMap_cons, List.flatMap_nil, List.append_nil]
theorem zbm {α : Type} (l : List α) (k : Nat) (h : k < l.length) : l.take (k + 1) = l.take k ++ [l[k]] := by
 rw [List.take_succ_eq_append_getElem h]
theorem zom (s : ByteArray) (k : Nat) (h : k < s.size) : s.data.toList.take (k + 1) = s.data.toList.take k ++ [s[k]] := by
 rw [List.take_succ_eq_append_getElem (by simpa using h)]; rfl
theorem zak (s : ByteArray) : s.data.toList.length = s.size := by rw [Array.length_toList]; rfl
def str (l : List UInt8) : ByteArray := ⟨l.toArray⟩
theorem zbl (l : List UInt8) : (str l).size = l.length := by simp [str, ByteArray.size]
theorem zca (l : List UInt8) : (str l).data.toList = l := by simp [str]
theorem zfu (s : ByteArray) : str s.data.toList = s := by simp [str]
theorem zfb (l m : List UInt8) : str l ++ str m = str (l ++ m) := by
 apply ByteArray.ext
 rw [ByteArray.data_append]
 simp [str]
theorem zyq {a b : ByteArray} (h : a = b) : (a.toList == b.toList) = true := by rw [h]; exact beq_self_eq_true _
theorem zbcu {a b : ByteArray} (h : ¬ a = b) : (a.toList == b.toList) = false := by
 rw [beq_eq_false_iff_ne]
 intro e
 rw [ByteArray.toList_eq, ByteArray.toList_eq] at e
 exact h (ByteArray.ext (Array.toList_inj.1 e))

theorem own_string {base : Nat} {v : Value} {n : Nat} {l : List UInt8} {w : World} (h : w.ownsRow base 5 1 v n (bytes l)) :
    (convert 107 9 v).run Tryz.prog w = .ok (.string (str l)) w := by
  have hn : l.length = n := by have := h.1; rw [zaa] at this; omega
  rcases h.2 with ⟨rfl, rfl⟩ | ⟨g, cap, cur, rfl, _⟩
  · have : l = [] := List.eq_nil_of_length_eq_zero hn
    subst this
    exact run_convert_bytes_nil w _ _ Tryz.underlying107 Tryz.underlying5 _ _ _ Tryz.underlying9
  · subst hn
    refine run_convert_bytes_back w _ _ _ _ _ l Tryz.underlying107 Tryz.underlying5 Tryz.underlying9 fun j hj => ?_
    exact h.cells (g := g) rfl j _ (by simp [bytes, hj])

theorem conv_bytes (b o cap : Nat) (l : List UInt8) (n : Nat) (w : World) (hn : l.length = n) (hc : ∀ j (hj : j < l.length), w.cell? ⟨b, o + j, none⟩ = some (.int .u8 (l[j].toNat : Int))) :
    (convert 107 9 (.slice (some ⟨b, o, none⟩) n cap)).run Tryz.prog w = .ok (.string (str l)) w := by
  subst hn
  refine run_convert_bytes_back w _ _ _ _ _ l Tryz.underlying107 Tryz.underlying5 Tryz.underlying9 fun j hj => ?_
  rw [Addr.add_lit]
  exact hc j hj
theorem zjj {w : World} {base : Nat} {v : Value} {n : Nat} {xs : List Value} {e : TypeId} (h : w.ownsRow base e 1 v n xs) :
  ∃ a cap, v = .slice a n cap ∧ Lies w w.heap.size a xs := by
 have hn : xs.length = n := by have := h.1; omega
 rcases h.2 with ⟨rfl, rfl⟩ | ⟨g, cap, cur, rfl, hb, hh, hr⟩
 .exact ⟨none, 0, rfl, fun h0 => by omega⟩
 .refine ⟨some ⟨g, 0, none⟩, cap, rfl, fun _ => ⟨g, 0, rfl, (Array.getElem?_eq_some_iff.1 hh).1, fun j u hu => ?_⟩⟩
  have := h.cells (g := g) rfl j u hu
  rwa [Addr.add_lit] at this
def Bytes (w : World) (g : Nat) (l : List UInt8) : Prop :=
 ∃ (cs : Array Value) (T : TypeId) (lo hi : Nat), w.heap[g]? = some (.cells cs T (lo, hi)) ∧ (∀ j, j < l.length -> ¬ (lo <= j ∧ j < hi)) ∧ ∀ j (h : j < l.length), cs[j]? = some (.int .u8 (l[j].toNat : Int))
theorem zbv : (Tryz.prog.info? 5).map (fun i => (i.zero, i.size, i.bytes)) = some (some (.int .u8 0), 1, 1) := by kernel_rfl
theorem zbio : (Tryz.prog.info? 3).map (fun i => (i.zero, i.size, i.bytes)) = some (some (.int .i64 0), 1, 8) := by kernel_rfl
end
end Go.Proofs.YtojimgbcghiblaaGreatDoor
namespace Go.RowKit
theorem Below.putRow {B g : Nat} {w0 w : World} (hb : Below B w0 w) (hB : B <= g) (cs : Array Value) : Below B w0 (w.setRow g cs) :=
 hb.trans ⟨rfl, rfl, rfl, by simp, fun k hk => setRow_other w g k cs (by omega)⟩
end Go.RowKit
namespace Go.Proofs.YtojimgbcghiblaaGreatDoor
section
open Go.RowKit
def Row (w : World) (g : Nat) (t : TypeId) (l : List Value) : Prop := w.heap[g]? = some (.cells l.toArray t (0, 0))
theorem Row.lt {w : World} {g : Nat} {t : TypeId} {l : List Value} (h : Row w g t l) : g < w.heap.size := (Array.getElem?_eq_some_iff.1 h).1
theorem Row.cell {w : World} {g : Nat} {t : TypeId} {l : List Value} (h : Row w g t l) (j : Nat) : w.cell? ⟨g, j, none⟩ = l[j]? := by
 rw [cell_of_row w g j l.toArray t (0, 0) h]
 simp
theorem Row.frozen {w : World} {g : Nat} {t : TypeId} {l : List Value} (h : Row w g t l) (j : Nat) : w.frozen? ⟨g, j, none⟩ = false := frozen_of_row w g j _ t h
theorem Row.new (w : World) (t : TypeId) (l : List Value) : Row (w.alloc (.cells l.toArray t)) w.heap.size t l := heap_alloc_new w _
theorem Row.alloc {w : World} {g : Nat} {t : TypeId} {l : List Value} (h : Row w g t l) (o : Obj) : Row (w.alloc o) g t l := (Below.heap_alloc w o g h.lt).trans h
theorem Row.drew {w : World} {g : Nat} {t : TypeId} {l : List Value} (h : Row w g t l) : Row w.drew g t l := h
theorem Row.set {w : World} {g : Nat} {t : TypeId} {l : List Value} (h : Row w g t l) (j : Nat) (v : Value) : Row (w.setCell ⟨g, j, none⟩ v) g t (l.set j v) := by
 unfold Row
 rw [heap_setCell_same w g j _ t v h]
 simp
theorem Row.far {w : World} {g : Nat} {t : TypeId} {l : List Value} (h : Row w g t l) (p : Addr) (v : Value) (hp : g ≠ p.block) : Row (w.setCell p v) g t l := (heap_setCell_other w p g v hp).trans h
theorem Row.below {w w' : World} {B g : Nat} {t : TypeId} {l : List Value} (h : Row w g t l) (hb : Below B w w') (hg : g < B) : Row w' g t l := (hb.block g hg).trans h
theorem Row.step {w w' : World} {g : Nat} {t : TypeId} {l : List Value} (h : Row w g t l) (hb : Below w.heap.size w w') : Row w' g t l := h.below hb h.lt
section
variable {P : Program}
theorem Row.wpLoad {ops : Array Oper} {rest : List Oper} {o : Oper} {a : Act} {w : World} {Q : Exit -> Act -> World -> Prop} {g : Nat} {t : TypeId} {l : List Value} (h : Row w g t l) (ty : TypeId) (d : TypeDesc) (hu : P.underlying ty = some d) (hd : d.isRow = true)
  (hi : (P.info? ty).map (·.size) = some l.length) (x : Operand) (hgd : o.guard = none) (ho : o.op = .load ty x) (hx : a.eval x = .pointer (some ⟨g, 0, none⟩)) (k : wpList P ops Q rest (a.put o.dst (.agg l.toArray)) w) : wpList P ops Q (o :: rest) a w :=
 wpList_load_row hgd ty x ho g hx t l.toArray (0, 0) d h hu (by cases d <;> simp_all) (by simpa using hi) k
theorem Row.wpStore {ops : Array Oper} {rest : List Oper} {o : Oper} {a : Act} {w : World} {Q : Exit -> Act -> World -> Prop} {g : Nat} {t : TypeId} {l : List Value} (h : Row w g t l) (ty : TypeId) (m : List Value)
  (hi : (P.info? ty).map (·.size) = some m.length) (hl : l.length = m.length) (h1 : m.all (·.oneCell') = true) (x y : Operand) (hgd : o.guard = none) (ho : o.op = .store ty x y) (hx : a.eval x = .pointer (some ⟨g, 0, none⟩)) (hy : a.eval y = .agg m.toArray)
  (k : wpList P ops Q rest (a.put o.dst undef) (w.setRow g m.toArray)) : wpList P ops Q (o :: rest) a w :=
 wpList_store_row hgd ty x y ho g m.toArray hx hy t l.toArray h (by simpa using hi) (by simpa using hl) (by simpa using h1) k
theorem Row.result {w : World} {g : Nat} {t : TypeId} {l : List Value} (h : Row w g t l) {fn : Func} {p : Tmp} {ty : TypeId} (hf : fn.results = #[.cell p ty]) (tmps : Array Value) (d : TypeDesc)
  (hp : tmps.getD p undef = .pointer (some ⟨g, 0, none⟩)) (hu : P.underlying ty = some d) (hd : d.isRow = true) (hi : (P.info? ty).map (·.size) = some l.length) :
  (results fn tmps).run P w = .ok (.agg l.toArray) w :=
 results_cell_row hf tmps w g t l.toArray (0, 0) d hp h hu (by cases d <;> simp_all) (by simpa using hi)
end
theorem Row.put {w : World} {g : Nat} {t : TypeId} {l : List Value} (h : Row w g t l) (m : List Value) : Row (w.setRow g m.toArray) g t m := setRow_heap w g _ _ t _ h
def Only (g : Nat) (w w' : World) : Prop := w'.os = w.os ∧ w'.tape = w.tape ∧ w'.output = w.output ∧ w.heap.size <= w'.heap.size ∧ ∀ k, k < w.heap.size -> k ≠ g -> w'.heap[k]? = w.heap[k]?
theorem Only.refl (g : Nat) (w : World) : Only g w w := ⟨rfl, rfl, rfl, Nat.le_refl _, fun _ _ _ => rfl⟩
theorem Only.size {g : Nat} {w w' : World} (h : Only g w w') : w.heap.size <= w'.heap.size := h.2.2.2.1
theorem Only.trans {g : Nat} {a b c : World} (h : Only g a b) (k : Only g b c) : Only g a c :=
 ⟨k.1.trans h.1, k.2.1.trans h.2.1, k.2.2.1.trans h.2.2.1, Nat.le_trans h.size k.size, fun i hi hne => (k.2.2.2.2 i (Nat.lt_of_lt_of_le hi h.size) hne).trans (h.2.2.2.2 i hi hne)⟩
theorem Only.of_below {g : Nat} {w w' : World} (h : Below w.heap.size w w') : Only g w w' := ⟨h.os, h.tape, h.output, h.size, fun k hk _ => h.block k hk⟩
theorem Only.drew {g : Nat} {a b : World} (h : Only g a b) : Only g a b.drew := h
theorem Only.setCell {g : Nat} {a b : World} (h : Only g a b) (p : Addr) (v : Value) (hp : p.block = g ∨ a.heap.size <= p.block) : Only g a (b.setCell p v) :=
 ⟨h.1, h.2.1, h.2.2.1, Nat.le_trans h.size (by simp [World.setCell]), fun k hk hne => (Below.heap_setCell _ _ _ _ (by rcases hp with hp | hp <;> omega)).trans (h.2.2.2.2 k hk hne)⟩
theorem Only.putRow {g : Nat} {a b : World} (h : Only g a b) (k : Nat) (cs : Array Value) (hk : k = g ∨ a.heap.size <= k) : Only g a (b.setRow k cs) :=
 ⟨h.1, h.2.1, h.2.2.1, Nat.le_trans h.size (by simp), fun i hi hne => (setRow_other _ _ _ _ (by rcases hk with hk | hk <;> omega)).trans (h.2.2.2.2 i hi hne)⟩
theorem Only.below {g B : Nat} {w w' : World} (h : Only g w w') (hg : B <= g) (hB : B <= w.heap.size) : Below B w w' := ⟨h.1, h.2.1, h.2.2.1, h.size, fun k hk => h.2.2.2.2 k (by omega) (by omega)⟩
theorem Row.only {w w' : World} {g k : Nat} {t : TypeId} {l : List Value} (h : Row w g t l) (ho : Only k w w') (hne : g ≠ k) : Row w' g t l := (ho.2.2.2.2 g h.lt hne).trans h
theorem Lies.only {w w' : World} {B g : Nat} {a : Option Addr} {xs : List Value} (h : Lies w B a xs) (ho : Only g w w') (hB : B <= w.heap.size) (hg : B <= g) : Lies w' B a xs :=
 h.below (ho.below hg hB)
theorem Row.mid {w : World} {g : Nat} {t : TypeId} {x y z : List Value} (h : Row w g t (x ++ y ++ z)) (o : Nat) (ho : x.length = o) : w.rangeAt g o y := by
 intro j v hv
 have hj : j < y.length := (List.getElem?_eq_some_iff.1 hv).1
 rw [h.cell, <- ho, List.append_assoc, List.getElem?_append_right (by omega), Nat.add_sub_cancel_left, List.getElem?_append_left hj, hv]
theorem Row.there {w : World} {g : Nat} {t : TypeId} {x y z : List Value} (h : Row w g t (x ++ y ++ z)) (o n : Nat) (ho : x.length = o) (hn : y.length = n) : w.there g o n := by
 intro j hj
 refine ⟨?_, h.frozen _⟩
 rw [h.cell, List.getElem?_eq_getElem (by simp; omega)]
 rfl
theorem Row.setCells {g : Nat} {t : TypeId} {z : List Value} : ∀ (vs : List Value) {w : World} {x y : List Value}, Row w g t (x ++ y ++ z) -> y.length = vs.length -> ∀ o, x.length = o -> Row (w.setCells g o vs) g t (x ++ vs ++ z)
 | [], w, x, y, h, hy, o, _ => by
  have : y = [] := List.eq_nil_of_length_eq_zero hy
  subst this
  exact h
 | v :: r, w, x, y, h, hy, o, ho => by
  match y, hy with
  | u :: ys, hy =>
   have h1 := h.set o v
   have e : (x ++ u :: ys ++ z).set o v = (x ++ [v]) ++ ys ++ z := by
    rw [List.append_assoc, List.set_append_right _ _ (by omega), <- ho, Nat.sub_self]
    simp
   rw [e] at h1; have h2 := Row.setCells r h1 (by simpa using hy) (o + 1) (by simp [ho])
   have e2 : x ++ [v] ++ r ++ z = x ++ v :: r ++ z := by simp
   rw [e2] at h2; exact h2
theorem Only.setCells {g : Nat} : ∀ (vs : List Value) (o : Nat) {a b : World}, Only g a b -> Only g a (b.setCells g o vs)
 | [], _, _, _, h => h
 | v :: r, o, _, _, h => Only.setCells r (o + 1) (h.setCell ⟨g, o, none⟩ v (Or.inl rfl))
section
variable {P : Program}
theorem Row.wpLoadMid {ops : Array Oper} {rest : List Oper} {o : Oper} {a : Act} {w : World} {Q : Exit -> Act -> World -> Prop} {g i : Nat} {t : TypeId} {x y z : List Value} (h : Row w g t (x ++ y ++ z)) (hx0 : x.length = i) (ty : TypeId) (d : TypeDesc) (hu : P.underlying ty = some d) (hd : d.isRow = true)
  (hi : (P.info? ty).map (·.size) = some y.length) (p : Operand) (hgd : o.guard = none) (ho : o.op = .load ty p) (hx : a.eval p = .pointer (some ⟨g, i, none⟩)) (k : wpList P ops Q rest (a.put o.dst (.agg y.toArray)) w) : wpList P ops Q (o :: rest) a w :=
 wpList_load_mid hgd ty p ho g i hx y d (h.mid i hx0) hu hd hi k
theorem Row.wpStoreMid {ops : Array Oper} {rest : List Oper} {o : Oper} {a : Act} {w : World} {Q : Exit -> Act -> World -> Prop} {g i : Nat} {t : TypeId} {x y z : List Value} (h : Row w g t (x ++ y ++ z)) (hx0 : x.length = i) (ty : TypeId) (m : List Value) (hm : y.length = m.length)
  (hi : (P.info? ty).map (·.size) = some m.length) (h1 : m.all (·.oneCell') = true) (p q : Operand) (hgd : o.guard = none) (ho : o.op = .store ty p q) (hx : a.eval p = .pointer (some ⟨g, i, none⟩)) (hy : a.eval q = .agg m.toArray)
  (k : wpList P ops Q rest (a.put o.dst undef) (w.setCells g i m)) : wpList P ops Q (o :: rest) a w :=
 wpList_store_mid hgd ty p q ho g i m.toArray hx hy (by simpa using h.there i m.length hx0 hm) (by simpa using hi) (by simpa using h1) (by simpa using k)
end
section
variable {P : Program}
theorem wpAllocZero {ops : Array Oper} {rest : List Oper} {o : Oper} {a : Act} {w : World} {Q : Exit -> Act -> World -> Prop} (Z : List Value) (ty : TypeId) (hz : ∀ u, (zeroValue ty).run P u = .ok (.agg Z.toArray) u) (hgd : o.guard = none) (ho : o.op = .alloc ty)
  (k : wpList P ops Q rest (a.put o.dst (.pointer (some ⟨w.heap.size, 0, none⟩))) (w.alloc (.cells Z.toArray ty))) : wpList P ops Q (o :: rest) a w :=
 wpList_plain hgd fun _ hK => by
  have h := hz w
  unfold Oper.wp execOp
  simp only [ho, Instr.alloc, Sem.run_bind, h, Result.andThen_ok, newVar, Value.cells]
  simp [go_sem]
  exact hK _ _ k
def boxOf (o : Oper) (a : Act) : Option (TypeId × Value) := match o.guard, o.op with | none, .box ty x => some (ty, a.eval x) | _, _ => none
def allocOf (o : Oper) : Option TypeId := match o.guard, o.op with | none, .alloc ty => some ty | _, _ => none
def loadOf (o : Oper) (a : Act) : Option (TypeId × Value) := match o.guard, o.op with | none, .load ty x => some (ty, a.eval x) | _, _ => none
def storeOf (o : Oper) (a : Act) : Option (TypeId × Value × Value) := match o.guard, o.op with | none, .store ty x y => some (ty, a.eval x, a.eval y) | _, _ => none
theorem zok {o : Oper} {a : Act} {ty : TypeId} {v : Value} (h : boxOf o a = some (ty, v)) : o.guard = none ∧ ∃ x, o.op = .box ty x ∧ a.eval x = v := by
 unfold boxOf at h
 split at h
 .rename_i x hg ho
  simp only [Option.some.injEq, Prod.mk.injEq] at h
  exact ⟨hg, _, by rw [ho, h.1], h.2⟩
 .cases h
theorem zkk {o : Oper} {ty : TypeId} (h : allocOf o = some ty) : o.guard = none ∧ o.op = .alloc ty := by
 unfold allocOf at h
 split at h
 .rename_i hg ho
  simp only [Option.some.injEq] at h
  exact ⟨hg, by rw [ho, h]⟩
 .cases h
theorem zed {o : Oper} {a : Act} {ty : TypeId} {v : Value} (h : loadOf o a = some (ty, v)) : o.guard = none ∧ ∃ x, o.op = .load ty x ∧ a.eval x = v := by
 unfold loadOf at h
 split at h
 .rename_i x hg ho
  simp only [Option.some.injEq, Prod.mk.injEq] at h
  exact ⟨hg, _, by rw [ho, h.1], h.2⟩
 .cases h
theorem zhh {o : Oper} {a : Act} {ty : TypeId} {u v : Value} (h : storeOf o a = some (ty, u, v)) : o.guard = none ∧ ∃ x y, o.op = .store ty x y ∧ a.eval x = u ∧ a.eval y = v := by
 unfold storeOf at h
 split at h
 .rename_i x y hg ho
  simp only [Option.some.injEq, Prod.mk.injEq] at h
  exact ⟨hg, _, _, by rw [ho, h.1], h.2.1, h.2.2⟩
 .cases h
structure Fits (P : Program) (ty : TypeId) (n : Nat) : Prop where
 row : ∃ d, P.underlying ty = some d ∧ d.isRow = true
 size : (P.info? ty).map (·.size) = some n
theorem wpAllocK {ops : Array Oper} {rest : List Oper} {o : Oper} {a : Act} {w : World} {Q : Exit -> Act -> World -> Prop} (Z : List Value) (ty : TypeId) (hz : ∀ u, (zeroValue ty).run P u = .ok (.agg Z.toArray) u) (ho : allocOf o = some ty)
  (k : ∀ w', Row w' w.heap.size ty Z -> Below w.heap.size w w' -> w'.heap.size = w.heap.size + 1 -> wpList P ops Q rest (a.put o.dst (.pointer (some ⟨w.heap.size, 0, none⟩))) w') : wpList P ops Q (o :: rest) a w := by
 obtain ⟨hg, ho⟩ := zkk ho
 exact wpAllocZero Z ty hz hg ho (k _ (Row.new w ty Z) ((zb).alloc (Nat.le_refl _) _) (by simp))
theorem wpBoxK {ops : Array Oper} {rest : List Oper} {o : Oper} {a : Act} {w : World} {Q : Exit -> Act -> World -> Prop} (l : List Value) (ty : TypeId) (hb : boxOf o a = some (ty, .agg l.toArray))
  (k : ∀ w', Row w' w.heap.size ty l -> Below w.heap.size w w' -> w'.heap.size = w.heap.size + 1 -> wpList P ops Q rest (a.put o.dst (.pointer (some ⟨w.heap.size, 0, none⟩))) w') : wpList P ops Q (o :: rest) a w := by
 obtain ⟨hgd, x, ho, hx⟩ := zok hb
 exact wpList_plain hgd fun _ hK => by
  unfold Oper.wp execOp
  simp only [ho, hx, Instr.box, newVar, Value.cells]
  simp [go_sem]
  exact hK _ _ (k _ (Row.new w ty l) ((zb).alloc (Nat.le_refl _) _) (by simp))
theorem Row.wpLoadK {ops : Array Oper} {rest : List Oper} {o : Oper} {a : Act} {w : World} {Q : Exit -> Act -> World -> Prop} {g : Nat} {t : TypeId} {l : List Value} (h : Row w g t l) (ty : TypeId) {n : Nat} (hf : Fits P ty n) (hl : l.length = n)
  (ho : loadOf o a = some (ty, .pointer (some ⟨g, 0, none⟩))) (k : wpList P ops Q rest (a.put o.dst (.agg l.toArray)) w) : wpList P ops Q (o :: rest) a w := by
 obtain ⟨hg, x, ho, hx⟩ := zed ho
 obtain ⟨d, hu, hd⟩ := hf.row
 exact h.wpLoad ty d hu hd (by rw [hl]; exact hf.size) x hg ho hx k
theorem Row.wpStoreK {ops : Array Oper} {rest : List Oper} {o : Oper} {a : Act} {w : World} {Q : Exit -> Act -> World -> Prop} {g : Nat} {t : TypeId} {l : List Value} (h : Row w g t l) (ty : TypeId) (m : List Value) {n : Nat}
  (hf : Fits P ty n) (hl : l.length = n) (hm : m.length = n) (h1 : m.all (·.oneCell') = true) (ho : storeOf o a = some (ty, .pointer (some ⟨g, 0, none⟩), .agg m.toArray))
  (k : ∀ w', Row w' g t m -> Only g w w' -> w'.heap.size = w.heap.size -> wpList P ops Q rest (a.put o.dst undef) w') : wpList P ops Q (o :: rest) a w := by
 obtain ⟨hg, x, y, ho, hx, hy⟩ := zhh ho
 exact h.wpStore ty m (by rw [hm]; exact hf.size) (by rw [hl, hm]) h1 x y hg ho hx hy (k _ (h.put m) ((Only.refl g w).putRow g _ (Or.inl rfl)) (by simp))
theorem World.size_setCells (g : Nat) : ∀ (vs : List Value) (o : Nat) (w : World), (w.setCells g o vs).heap.size = w.heap.size
 | [], _, _ => rfl
 | v :: r, o, w => by rw [World.setCells, World.size_setCells g r]; simp [World.setCell]
theorem Row.wpLoadMidK {ops : Array Oper} {rest : List Oper} {o : Oper} {a : Act} {w : World} {Q : Exit -> Act -> World -> Prop} {g : Nat} {t : TypeId} {x y z : List Value} (h : Row w g t (x ++ y ++ z)) (i : Nat) (hx0 : x.length = i) (ty : TypeId) {n : Nat} (hf : Fits P ty n) (hy : y.length = n)
  (ho : loadOf o a = some (ty, .pointer (some ⟨g, i, none⟩))) (k : wpList P ops Q rest (a.put o.dst (.agg y.toArray)) w) : wpList P ops Q (o :: rest) a w := by
 obtain ⟨hg, p, ho, hp⟩ := zed ho
 obtain ⟨d, hu, hd⟩ := hf.row
 exact h.wpLoadMid hx0 ty d hu hd (by rw [hy]; exact hf.size) p hg ho hp k
theorem Row.wpStoreMidK {ops : Array Oper} {rest : List Oper} {o : Oper} {a : Act} {w : World} {Q : Exit -> Act -> World -> Prop} {g : Nat} {t : TypeId} {x y z : List Value} (h : Row w g t (x ++ y ++ z)) (i : Nat) (hx0 : x.length = i) (ty : TypeId) (m : List Value) {n : Nat} (hf : Fits P ty n) (hy : y.length = n) (hm : m.length = n)
  (h1 : m.all (·.oneCell') = true) (ho : storeOf o a = some (ty, .pointer (some ⟨g, i, none⟩), .agg m.toArray))
  (k : ∀ w', Row w' g t (x ++ m ++ z) -> Only g w w' -> w'.heap.size = w.heap.size -> wpList P ops Q rest (a.put o.dst undef) w') : wpList P ops Q (o :: rest) a w := by
 obtain ⟨hg, p, q, ho, hp, hq⟩ := zhh ho
 exact h.wpStoreMid hx0 ty m (by rw [hy, hm]) (by rw [hm]; exact hf.size) h1 p q hg ho hp hq (k _ (Row.setCells m h (by rw [hy, hm]) i hx0) (Only.setCells m i (Only.refl g w)) (World.size_setCells _ _ _ _))
theorem Row.wpStore1K {ops : Array Oper} {rest : List Oper} {o : Oper} {a : Act} {w : World} {Q : Exit -> Act -> World -> Prop} {g : Nat} {t : TypeId} {l : List Value} (h : Row w g t l) (i : Nat) (ty : TypeId) (v : Value) (hf : (P.info? ty).map (·.size) = some 1) (hi : i < l.length) (hv : v.cells = #[v])
  (h1 : v.oneCell' = true) (ho : storeOf o a = some (ty, .pointer (some ⟨g, i, none⟩), v))
  (k : ∀ w', Row w' g t (l.set i v) -> Only g w w' -> w'.heap.size = w.heap.size -> wpList P ops Q rest (a.put o.dst undef) w') : wpList P ops Q (o :: rest) a w := by
 obtain ⟨hg, x, y, ho, hx, hy⟩ := zhh ho
 have hc : w.cell? ⟨g, i, none⟩ = some l[i] := by rw [h.cell, List.getElem?_eq_getElem hi]
 have hr := run_storeCells_cells (P := P) g i [v] 0 w (fun j hj => by
  have : j = 0 := by simpa using hj
  subst this
  simpa using by rw [hc]; rfl) (fun j _ => by simpa using h.frozen _) (fun u hu => by
  have : u = v := by simpa using hu
  rw [this]; exact h1)
 refine wpList_plain hg fun K hK => ?_
 cases hq : P.info? ty with
 | none => simp [hq] at hf
 | some ie =>
  have hs : ie.size = 1 := by simpa [hq] using hf
  unfold Oper.wp execOp
  simp only [ho, hx, hy, Instr.storeAt, Instr.sureAddr, Sem.run_bind, Sem.run_pure, Result.andThen_ok, storeVar, hv, sizeOf, typeInfo]
  simp only [Nat.add_zero, World.setCells] at hr
  simp [hq, hs, hr]
  exact hK _ _ (k _ (h.set i v) ((Only.refl g w).setCell ⟨g, i, none⟩ v (Or.inl rfl)) (by simp [World.setCell]))
theorem Row.stillLoadMid {ops : Array Oper} {rest : List Oper} {o : Oper} {a : Act} {w : World} {Q : Act -> Prop} {g : Nat} {t : TypeId} {x y z : List Value} (h : Row w g t (x ++ y ++ z)) (i : Nat) (hx0 : x.length = i) (ty : TypeId) {n : Nat} (hf : Fits P ty n) (hy : y.length = n)
  (ho : loadOf o a = some (ty, .pointer (some ⟨g, i, none⟩))) (k : wpStill P ops w Q rest (a.put o.dst (.agg y.toArray))) : wpStill P ops w Q (o :: rest) a := by
 obtain ⟨hg, p, ho, hp⟩ := zed ho
 obtain ⟨d, hu, hd⟩ := hf.row
 have hw : Region.wanted o (yielded ops a.tmps) = true := by unfold Region.wanted; rw [hg]
 show (if Region.wanted o (yielded ops a.tmps) then o.still P a w (wpStill P ops w Q rest) else wpStill P ops w Q rest (a.put o.dst undef))
 rw [if_pos hw]
 unfold Oper.still execOp
 simp only [ho, hp, run_loadAt_mid w g i ty y d (h.mid i hx0) hu hd (by rw [hy]; exact hf.size), Sem.run_bind, Sem.run_pure, Result.andThen_ok, Oper.stillUpon]
 exact ⟨trivial, k⟩
def buildZ (o : Oper) : Option TypeId := match o.guard, o.op with | none, .build t parts => (if parts.size = 0 then some t else none) | _, _ => none
theorem wpBuildZeroK {ops : Array Oper} {rest : List Oper} {o : Oper} {a : Act} {w : World} {Q : Exit -> Act -> World -> Prop} (l : List Value) (ty : TypeId) (hb : P.built ty [] = some l.toArray) (ho : buildZ o = some ty)
  (k : wpList P ops Q rest (a.put o.dst (.agg l.toArray)) w) : wpList P ops Q (o :: rest) a w := by
 unfold buildZ at ho
 split at ho
 .rename_i t ps hg hop
  split at ho
  .rename_i h0
   obtain rfl := Option.some.inj ho
   have e : ps = #[] := Array.eq_empty_of_size_eq_zero h0
   subst e
   have e2 : ((#[] : Array (Nat × Operand)).map fun (i, x) => (i, a.eval x)).toList = [] := by simp
   refine wpList_build hg t #[] hop (by rw [e2, hb]; rfl) ?_
   rw [e2, hb]; exact k
  .cases ho
 .cases ho
def loadG (ops : Array Oper) (o : Oper) (a : Act) : Option (TypeId × Value) := if Region.wanted o (yielded ops a.tmps) then (match o.op with | .load ty x => some (ty, a.eval x) | _ => none) else none
theorem Row.wpLoadG {ops : Array Oper} {rest : List Oper} {o : Oper} {a : Act} {w : World} {Q : Exit -> Act -> World -> Prop} {g : Nat} {t : TypeId} {l : List Value} (h : Row w g t l) (ty : TypeId) {n : Nat} (hf : Fits P ty n) (hl : l.length = n)
  (ho : loadG ops o a = some (ty, .pointer (some ⟨g, 0, none⟩))) (k : wpList P ops Q rest (a.put o.dst (.agg l.toArray)) w) : wpList P ops Q (o :: rest) a w := by
 unfold loadG at ho
 split at ho
 .rename_i hw
  split at ho
  .rename_i ty' x hop
   simp only [Option.some.injEq, Prod.mk.injEq] at ho
   obtain ⟨rfl, hx⟩ := ho; obtain ⟨d, hu, hd⟩ := hf.row
   refine wpList_step fun K hK => ?_
   rw [if_pos hw]; exact wp_load_row ty' x hop g hx t l.toArray (0, 0) d h hu (by cases d <;> simp_all) (by simpa [hl] using hf.size) (hK _ _ k)
  .cases ho
 .cases ho
end
end
section
open Go.RowKit
def appendOf (o : Oper) (a : Act) : Option (TypeId × TypeId × Value × Value) :=
 match o.guard, o.op with
 | none, .call c => match c.callee, c.args.toList, c.argTypes.toList with
  | .builtin .append, [x, y], [t, t'] => some (t, t', a.eval x, a.eval y)
  | _, _, _ => none
 | _, _ => none
theorem zfw {o : Oper} {a : Act} {t t' : TypeId} {u v : Value} (h : appendOf o a = some (t, t', u, v)) :
  o.guard = none ∧ ∃ x y, o.op = .call { callee := .builtin .append, args := #[x, y], argTypes := #[t, t'] } ∧ a.eval x = u ∧ a.eval y = v := by
 unfold appendOf at h
 split at h
 .rename_i c hg ho
  split at h
  .rename_i x y s s' h1 h2 h3
   simp only [Option.some.injEq, Prod.mk.injEq] at h
   refine ⟨hg, x, y, ?_, h.2.2.1, h.2.2.2⟩
   rw [ho]
   congr 1
   cases c with
   | mk cal ar at' =>
    simp only at h1 h2 h3
    have e2 : ar = #[x, y] := by rw [<- Array.toArray_toList (xs := ar), h2]
    have e3 : at' = #[s, s'] := by rw [<- Array.toArray_toList (xs := at'), h3]
    simp [h1, e2, e3, h.1, h.2.1]
  .cases h
 .cases h
def copyOf (o : Oper) (a : Act) : Option (TypeId × TypeId × Value × Value) :=
 match o.guard, o.op with
 | none, .call c => match c.callee, c.args.toList, c.argTypes.toList with
  | .builtin .copy, [x, y], [t, t'] => some (t, t', a.eval x, a.eval y)
  | _, _, _ => none
 | _, _ => none
theorem zhv {o : Oper} {a : Act} {t t' : TypeId} {u v : Value} (h : copyOf o a = some (t, t', u, v)) :
  o.guard = none ∧ ∃ x y, o.op = .call { callee := .builtin .copy, args := #[x, y], argTypes := #[t, t'] } ∧ a.eval x = u ∧ a.eval y = v := by
 unfold copyOf at h
 split at h
 .rename_i c hg ho
  split at h
  .rename_i x y s s' h1 h2 h3
   simp only [Option.some.injEq, Prod.mk.injEq] at h
   refine ⟨hg, x, y, ?_, h.2.2.1, h.2.2.2⟩
   rw [ho]
   congr 1
   cases c with
   | mk cal ar at' =>
    simp only at h1 h2 h3
    have e2 : ar = #[x, y] := by rw [<- Array.toArray_toList (xs := ar), h2]
    have e3 : at' = #[s, s'] := by rw [<- Array.toArray_toList (xs := at'), h3]
    simp [h1, e2, e3, h.1, h.2.1]
  .cases h
 .cases h
structure Big (p : Prop) : Prop where
 out : p
structure One (P : Program) (e : TypeId) : Prop where
 row : ∃ i z, P.info? e = some i ∧ i.zero = some z ∧ i.size = 1 ∧ z.cells.size = 1 ∧ i.bytes <= 64
section
variable {P : Program}
theorem One.of {e : TypeId} (h : ((P.info? e).map fun i => (i.zero.map fun z => z.cells.size) == some 1 && i.size == 1 && decide (i.bytes <= 64)) = some true) : One P e := by
 generalize hq : P.info? e = q at h
 match q with
 | none => cases h
 | some i =>
  simp only [Option.map_some, Option.some.injEq, Bool.and_eq_true, beq_iff_eq, decide_eq_true_eq] at h
  obtain ⟨⟨h1, h2⟩, h3⟩ := h
  generalize hz : i.zero = zz at h1
  match zz with
  | none => cases h1
  | some z =>
   simp only [Option.map_some, Option.some.injEq] at h1
   exact ⟨i, z, hq, hz, h2, h1, h3⟩
theorem wpAppendK {ops : Array Oper} {rest : List Oper} {o : Oper} {a : Act} {w : World} {Q : Exit -> Act -> World -> Prop} {base n m : Nat} {T e : TypeId} {v : Value} {xs news : List Value} {p : Option Addr} (c : Nat)
  (hown : w.ownsRow base e 1 v n xs) (hT : P.underlying T = some (.slice e)) (he : One P e) (hs : Lies w w.heap.size p news) (hl : news.length = m) (hm : 0 < m) (h1 : news.all (·.oneCell') = true) (hn : Big (n + m <= 1099511627776)) (hbase : base <= w.heap.size)
  (ho : appendOf o a = some (T, T, v, .slice p m c))
  (k : ∀ v' w', w'.ownsRow base e 1 v' (n + m) (xs ++ news) -> w.grownBy w' v.ownBlock -> (v'.ownBlock = v.ownBlock ∨ v'.ownBlock = some w.heap.size) -> wpList P ops Q rest (a.put o.dst v') w') : wpList P ops Q (o :: rest) a w := by
 obtain ⟨hg, x, y, hop, hx, hy⟩ := zfw ho
 obtain ⟨i, z, hi, hz, h2, h3, h4⟩ := he.row
 obtain ⟨b, off, rfl, hb, hc⟩ := hs (by omega)
 refine wpList_append_own_at w hg x y T hop base e i z 1 i.bytes hT hi hz h2 rfl h3 (by omega) v n xs hx hown ⟨b, off, none⟩ m c news hy (by omega) ?_ (fun u hu => (List.all_eq_true.1 h1) u hu) ?_ ?_ hbase fun v' w' g1 g2 _ g4 => k v' w' g1 g2 g4
 .intro j u hj
  rw [Addr.add_mid]
  exact hc j u hj
 .have := hn.out; unfold maxLen; omega
 .exact Nat.le_trans (Nat.mul_le_mul hn.out h4) (by omega)
theorem wpAppend1K {ops : Array Oper} {rest : List Oper} {o : Oper} {a : Act} {w : World} {Q : Exit -> Act -> World -> Prop} {base n : Nat} {T e : TypeId} {v u : Value} {xs : List Value} {p : Option Addr}
  (hown : w.ownsRow base e 1 v n xs) (hT : P.underlying T = some (.slice e)) (he : One P e) (hs : Lies w w.heap.size p [u]) (h1 : u.oneCell' = true) (hn : Big (n + 1 <= 1099511627776)) (hbase : base <= w.heap.size)
  (ho : appendOf o a = some (T, T, v, .slice p 1 1))
  (k : ∀ v' w', w'.ownsRow base e 1 v' (n + 1) (xs ++ [u]) -> w.grownBy w' v.ownBlock -> (v'.ownBlock = v.ownBlock ∨ v'.ownBlock = some w.heap.size) -> wpList P ops Q rest (a.put o.dst v') w') : wpList P ops Q (o :: rest) a w :=
 wpAppendK 1 hown hT he hs rfl Nat.one_pos (by simp [h1]) hn hbase ho k
theorem zph (w : World) (dT sT ty elem : TypeId) (b o dLen dCap : Nat) (s : ByteArray) (hu : P.underlying dT = some (.slice elem)) (hs : (P.info? elem).map (·.size) = some 1)
  (hc : w.there b o (Nat.min s.size dLen)) :
  (Builtin.copy_ #[dT, sT] ty #[.slice (some ⟨b, o, none⟩) dLen dCap, .string s]).run P w = .ok (goInt (Nat.min s.size dLen)) (w.setCells b o (bytes (s.data.toList.take (Nat.min s.size dLen)))) := by
 have hl : (bytes (s.data.toList.take (Nat.min s.size dLen))).length = Nat.min s.size dLen := by
  rw [zaa, List.length_take, zak]
  exact Nat.min_eq_left (Nat.min_le_left _ _)
 have hst := run_storeCells_cells (P := P) b o (bytes (s.data.toList.take (Nat.min s.size dLen))) 0 w (fun j hj => by simpa using (hc j (by omega)).1) (fun j hj => by simpa using (hc j (by omega)).2)
  (fun v hv => by simp only [bytes, List.mem_map] at hv; obtain ⟨c, _, rfl⟩ := hv; rfl)
 cases hq : P.info? elem with
 | none => simp [hq] at hs
 | some i =>
  have hi : i.size = 1 := by simpa [hq] using hs
  simp only [Nat.add_zero, bytes, List.map_take] at hst
  simp [Builtin.copy_, run_underlying hu, Builtin.lenOf, Builtin.firstCells, sizeOf, typeInfo, hq, hst, bytes, List.map_take]
theorem Row.wpCopyK {ops : Array Oper} {rest : List Oper} {o : Oper} {a : Act} {w : World} {Q : Exit -> Act -> World -> Prop} {g i dLen n : Nat} {t T e : TypeId} {x y z : List Value} {s : ByteArray} (h : Row w g t (x ++ y ++ z)) (hx0 : x.length = i) (T' : TypeId) (dCap : Nat)
  (hT : P.underlying T = some (.slice e)) (he : One P e) (hn : Nat.min s.size dLen = n) (hy : y.length = n) (ho : copyOf o a = some (T, T', .slice (some ⟨g, i, none⟩) dLen dCap, .string s))
  (k : ∀ w', Row w' g t (x ++ bytes (s.data.toList.take n) ++ z) -> Only g w w' -> w'.heap.size = w.heap.size -> wpList P ops Q rest (a.put o.dst (.int .i64 (n : Int))) w') : wpList P ops Q (o :: rest) a w := by
 obtain ⟨hg, p, q, ho, hp, hq⟩ := zhv ho
 obtain ⟨ie, ze, hi, hz, h2, h3, h4⟩ := he.row
 refine wpList_plain hg fun K hK => ?_
 have hr := zph (P := P) w T T' o.type e g i dLen dCap s hT (by rw [hi]; simp [h2]) (by rw [hn]; exact h.there i n hx0 hy)
 unfold Oper.wp execOp
 simp only [ho, resolve, invoke, builtin, Sem.run_bind, Sem.run_pure, Result.andThen_ok, List.map_toArray, List.map_cons, List.map_nil, hp, hq, hr]
 rw [hn]
 have hl : (bytes (s.data.toList.take n)).length = n := by
  rw [zaa, List.length_take, zak, <- hn]
  exact Nat.min_eq_left (Nat.min_le_left _ _)
 exact hK _ _ (k _ (Row.setCells _ h (by rw [hy, hl]) i hx0) (Only.setCells _ i (Only.refl g w)) (World.size_setCells _ _ _ _))
end
section
variable {P : Program}
theorem Row.wpCopyLK {ops : Array Oper} {rest : List Oper} {o : Oper} {a : Act} {w : World} {Q : Exit -> Act -> World -> Prop} {g i dLen m : Nat} {t T e : TypeId} {x y z news : List Value} {p : Option Addr} (h : Row w g t (x ++ y ++ z)) (hx0 : x.length = i) (T' : TypeId) (dCap sCap : Nat)
  (hT : P.underlying T = some (.slice e)) (he : One P e) (hs : Lies w w.heap.size p news) (hl : news.length = m) (hm : 0 < m) (hd : m <= dLen) (hy : y.length = m) (h1 : news.all (·.oneCell') = true)
  (ho : copyOf o a = some (T, T', .slice (some ⟨g, i, none⟩) dLen dCap, .slice p m sCap))
  (k : ∀ w', Row w' g t (x ++ news ++ z) -> Only g w w' -> w'.heap.size = w.heap.size -> wpList P ops Q rest (a.put o.dst (.int .i64 (m : Int))) w') : wpList P ops Q (o :: rest) a w := by
 obtain ⟨ie, ze, hi, hz, h2, h3, h4⟩ := he.row
 obtain ⟨b, off, rfl, hb, hc⟩ := hs (by omega)
 obtain ⟨hg, p', q', hop, hp, hq⟩ := zhv ho
 refine wpList_plain hg fun K hK => ?_
 have hr := run_copy_row (P := P) w T T' o.type e g i dLen dCap ⟨b, off, none⟩ m sCap (x ++ y ++ z).toArray t news hT (by rw [hi]; simp [h2]) h (by rw [hl]; exact (Nat.min_eq_left hd).symm) (fun j u hj => by rw [Addr.add_mid]; exact hc j u hj)
  (by simp only [List.size_toArray, List.length_append]; omega) (fun v hv => (List.all_eq_true.1 h1) v hv)
 have hcur : ((x ++ y ++ z).toArray.toList.take i ++ news ++ (x ++ y ++ z).toArray.toList.drop (i + news.length)).toArray = (x ++ news ++ z).toArray := by
  congr 1
  have e1 : (x ++ y ++ z).toArray.toList = x ++ (y ++ z) := by simp
  rw [e1, List.take_left' hx0, show i + news.length = i + y.length by omega, <- hx0, <- List.drop_drop, List.drop_left, List.drop_left]
 rw [hcur, hl] at hr
 unfold Oper.wp execOp
 simp only [hop, resolve, invoke, builtin, Sem.run_bind, Sem.run_pure, Result.andThen_ok, List.map_toArray, List.map_cons, List.map_nil, hp, hq, hr]
 exact hK _ _ (k _ (h.put _) ((Only.refl g w).putRow g _ (Or.inl rfl)) (by simp))
end
theorem Row.owns {w : World} {g base n cap : Nat} {e : TypeId} {xs ys : List Value} (h : Row w g e (xs ++ ys)) (hb : base <= g) (hx : xs.length = n) (hy : ys.length = cap - n) (hn : n <= cap) (hcap : cap <= maxLen) : w.ownsRow base e 1 (.slice (some ⟨g, 0, none⟩) n cap) n xs :=
 ⟨by omega, .inr ⟨g, cap, _, rfl, hb, h, hn, hcap, by simp; omega, by simp [<- hx]⟩⟩
theorem zbi {w w' : World} {base : Nat} {e : TypeId} {s : Nat} {v : Value} {n : Nat} {xs : List Value} (h : w.ownsRow base e s v n xs) (hb : Below w.heap.size w w') : w'.ownsRow base e s v n xs := by
 refine ⟨h.1, ?_⟩
 rcases h.2 with h | ⟨g, cap, cur, h1, h2, h3, h4⟩
 .exact .inl h
 .exact .inr ⟨g, cap, cur, h1, h2, (hb.block g (Array.getElem?_eq_some_iff.1 h3).1).trans h3, h4⟩
theorem zqn {w : World} {base g n cap : Nat} {e : TypeId} {xs : List Value} (h : w.ownsRow base e 1 (.slice (some ⟨g, 0, none⟩) n cap) n xs) : base <= g ∧ ∃ ys, Row w g e (xs ++ ys) := by
 rcases h.2 with ⟨h1, _⟩ | ⟨g', cap', cur, h1, h2, h3, h4, h5, h6, h7⟩
 .cases h1
 .cases h1
  refine ⟨h2, cur.toList.drop n, ?_⟩
  rw [Nat.mul_one] at h7
  rw [<- h7, List.take_append_drop]
  exact h3
def makeOf (o : Oper) (a : Act) : Option (TypeId × Value × Value) := match o.guard, o.op with | none, .makeSlice t x y => some (t, a.eval x, a.eval y) | _, _ => none
theorem zfm {o : Oper} {a : Act} {t : TypeId} {u v : Value} (h : makeOf o a = some (t, u, v)) : o.guard = none ∧ ∃ x y, o.op = .makeSlice t x y ∧ a.eval x = u ∧ a.eval y = v := by
 unfold makeOf at h
 split at h
 .rename_i t' x y hg ho
  simp only [Option.some.injEq, Prod.mk.injEq] at h
  exact ⟨hg, x, y, by rw [ho, h.1], h.2.1, h.2.2⟩
 .cases h
theorem wpMakeK {P : Program} {ops : Array Oper} {rest : List Oper} {o : Oper} {a : Act} {w : World} {Q : Exit -> Act -> World -> Prop} (T e : TypeId) (zv : Value) (n c : Nat) (hT : P.underlying T = some (.slice e)) (hz : (P.info? e).map (fun i => (i.zero, i.size, i.bytes)) = some (some zv, 1, 8) ∨ (P.info? e).map (fun i => (i.zero, i.size, i.bytes)) = some (some zv, 1, 1)) (hzc : zv.cells = #[zv])
  (hn : n <= c) (hc : c <= 1099511627776) (ho : makeOf o a = some (T, .int .i64 (n : Int), .int .i64 (c : Int)))
  (k : ∀ w', Row w' w.heap.size e (List.replicate c zv) -> Below w.heap.size w w' -> w'.heap.size = w.heap.size + 1 -> wpList P ops Q rest (a.put o.dst (.slice (some ⟨w.heap.size, 0, none⟩) n c)) w') : wpList P ops Q (o :: rest) a w := by
 obtain ⟨hg, x, y, hop, hx, hy⟩ := zfm ho
 cases hq : P.info? e with
 | none => rw [hq] at hz; rcases hz with h | h <;> cases h
 | some i =>
  rw [hq] at hz
  have hi : i.zero = some zv ∧ i.size = 1 ∧ i.bytes <= 8 := by
   rcases hz with h | h <;> simp only [Option.map_some, Option.some.injEq, Prod.mk.injEq] at h <;> exact ⟨h.1, h.2.1, by omega⟩
  have hb : (i.bytes : Int) * (c : Int) <= 281474976710656 := by
   have h1 : i.bytes * c <= 8 * 1099511627776 := Nat.mul_le_mul hi.2.2 hc
   have h2 : ((i.bytes * c : Nat) : Int) <= 281474976710656 := by omega
   rwa [Int.natCast_mul] at h2
  have hr := run_make (P := P) w T e i zv hT hq hi.1 .i64 .i64 (n : Int) (c : Int) (by omega) (by omega) hb (by omega)
  rw [Int.toNat_natCast, Int.toNat_natCast, hi.2.1, Nat.mul_one, hzc] at hr
  have hm : madeCells #[zv] c = (List.replicate c zv).toArray := by
   apply Array.ext'
   rw [toList_madeCells_one]
  rw [hm] at hr
  refine wpList_plain hg fun K hK => ?_
  unfold Oper.wp execOp
  simp only [hop, hx, hy, Sem.run_bind, hr, Result.andThen_ok]
  exact hK _ _ (k _ (Row.new w e _) ((zb).alloc (Nat.le_refl _) _) (by simp))
def over {α : Type} (L P : List α) (i : Nat) : List α := L.take i ++ P.drop i
section
variable {α : Type}
theorem zbfm (L P : List α) : over L P 0 = P := by simp [over]
theorem zbfk (L P : List α) (i : Nat) (h1 : L.length <= i) (h2 : P.length <= i) : over L P i = L := by rw [over, List.take_of_length_le h1, List.drop_of_length_le h2, List.append_nil]
theorem zxq (L P : List α) (i : Nat) (h : L.length = P.length) : (over L P i).length = P.length := by simp [over]; omega
theorem zbfl (L P : List α) (i : Nat) (h : L.length = P.length) (hi : i < L.length) : (over L P i).set i L[i] = over L P (i + 1) := by
 have h1 : (L.take i).length = i := by simp; omega
 rw [over, over, List.take_succ_eq_append_getElem hi, List.set_append_right _ _ (by omega), h1, Nat.sub_self, List.append_assoc, List.drop_eq_getElem_cons (by omega : i < P.length), List.set_cons_zero]
 rfl
end
theorem zrh (l : List UInt8) (j : Nat) (c : UInt8) : (bytes l).set j (.int .u8 (c.toNat : Int)) = bytes (l.set j c) := by simp [bytes, List.map_set]
end
end Go.Proofs.YtojimgbcghiblaaGreatDoor
namespace FlaMath
structure Dv where
 fb : Int
 fm : UInt8
 lit : Bool
 left : Int
 C : List UInt8
 L : List Bool
 E : List Int
 ops : Int
 dn : Bool
structure Dv.Ok (D : Dv) : Prop where
 one : 1 <= D.L.length
 top : D.L.length <= 512
 cells : D.C.length = 64 * D.L.length
 worn : D.E.length = D.L.length
def reach (fb : Int) (n : Nat) : Nat := ((fb.tmod (n + 1) + n + 1).tmod (n + 1)).toNat
theorem znu (fb : Int) (n : Nat) : reach fb n <= n := by
 unfold reach
 have := Int.tmod_lt_of_pos (fb.tmod (n + 1) + n + 1) (b := (n : Int) + 1) (by omega)
 omega
theorem reach_eq (fb : Int) (n : Nat) : (fb.tmod (n + 1) + n + 1).tmod (n + 1) = (reach fb n : Int) := by
 unfold reach
 have h0 := Int.lt_tmod_of_pos fb (b := (n : Int) + 1) (by omega)
 have := Int.tmod_nonneg (a := fb.tmod (n + 1) + n + 1) ((n : Int) + 1) (by omega)
 omega
def prog (C : List UInt8) (o k : Nat) (f : Nat -> UInt8 -> UInt8) : List UInt8 := C.mapIdx fun i c => if o <= i ∧ i < o + k then f (i - o) c else c
theorem zbs (C : List UInt8) (o k : Nat) (f : Nat -> UInt8 -> UInt8) : (prog C o k f).length = C.length := by simp [prog]
theorem zhr (C : List UInt8) (o : Nat) (f : Nat -> UInt8 -> UInt8) : prog C o 0 f = C := by
 apply List.ext_getElem (by simp [prog])
 intro i h1 h2
 simp only [prog, List.getElem_mapIdx]
 rw [if_neg (by omega)]
theorem znp (C : List UInt8) (o k : Nat) (f : Nat -> UInt8 -> UInt8) (i : Nat) (h : i < C.length) : (prog C o k f)[i]'(by rw [zbs]; exact h) = if o <= i ∧ i < o + k then f (i - o) C[i] else C[i] := by
 simp only [prog, List.getElem_mapIdx]
theorem zgo (C : List UInt8) (o k : Nat) (f : Nat -> UInt8 -> UInt8) (h : o + k < C.length) : (prog C o k f)[o + k]'(by rw [zbs]; exact h) = C[o + k] := by
 rw [znp _ _ _ _ _ h, if_neg (by omega)]
theorem zhq (C : List UInt8) (o k : Nat) (f : Nat -> UInt8 -> UInt8) (h : o + k < C.length) : (prog C o k f).set (o + k) (f k C[o + k]) = prog C o (k + 1) f := by
 apply List.ext_getElem (by simp [prog])
 intro i h1 h2
 simp only [prog, List.getElem_set, List.getElem_mapIdx]
 by_cases e : o + k = i
 .subst e
  rw [if_pos rfl, if_pos (by omega), show o + k - o = k by omega]
 .rw [if_neg e]
  by_cases hi : o <= i ∧ i < o + k
  .rw [if_pos hi, if_pos (by omega)]
  .rw [if_neg hi, if_neg (by omega)]
def work (C : List UInt8) (o n r : Nat) (f g : Nat -> UInt8 -> UInt8) : List UInt8 := if r < n then (prog C o r f).set (o + r) (g r (C.getD (o + r) 0)) else prog C o r f
def fE (_ : Nat) (_ : UInt8) : UInt8 := 255
def gE (m : UInt8) (_ : Nat) (c : UInt8) : UInt8 := c ||| m
def fP (l : List UInt8) (k : Nat) (c : UInt8) : UInt8 := c &&& l.getD k 0
def gP (l : List UInt8) (m : UInt8) (k : Nat) (c : UInt8) : UInt8 := c &&& (l.getD k 0 ||| m)
def lockF (L : List Bool) (a b : Nat) : List Bool := L.mapIdx fun i x => if a <= i ∧ i < b then true else x
theorem zbr (L : List Bool) (a b : Nat) : (lockF L a b).length = L.length := by simp [lockF]
theorem zbbc (L : List Bool) (a : Nat) : lockF L a a = L := by
 apply List.ext_getElem (by simp [lockF])
 intro i h1 h2
 simp [lockF]
 omega
theorem zbbd (L : List Bool) (a b : Nat) (hab : a <= b) : (lockF L a b).set b true = lockF L a (b + 1) := by
 apply List.ext_getElem (by simp [lockF])
 intro i h1 h2
 simp only [lockF, List.getElem_set, List.getElem_mapIdx]
 by_cases e : b = i
 .subst e
  simp [hab]
 .have : (a <= i ∧ i < b + 1) ↔ (a <= i ∧ i < b) := by omega
  simp only [e, if_false, this]
def lockE (n : Nat) (x y : Int) : Int := if x < 0 ∨ y < x ∨ (n : Int) < y then 2 else 0
def Dv.lock (D : Dv) (x y : Int) : Dv := if x < 0 ∨ y < x ∨ (D.L.length : Int) < y then D else { D with L := lockF D.L x.toNat y.toNat }
def bey (n : Nat) (x y : Int) : Bool := decide (x < 0 ∨ y < 0 ∨ (n : Int) - x < y)
def idl (d : Bool) : Int := if d then 5 else 0
end FlaMath
namespace Go.Proofs.YtojimgbcghiblaaGreatDoor
section
open Go.RowKit FlaMath
def Onl (S : List Nat) (w w' : World) : Prop := w'.os = w.os ∧ w'.tape = w.tape ∧ w'.output = w.output ∧ w.heap.size <= w'.heap.size ∧ ∀ k, k < w.heap.size -> k ∉ S -> w'.heap[k]? = w.heap[k]?
theorem Onl.refl (S : List Nat) (w : World) : Onl S w w := ⟨rfl, rfl, rfl, Nat.le_refl _, fun _ _ _ => rfl⟩
theorem Onl.size {S : List Nat} {w w' : World} (h : Onl S w w') : w.heap.size <= w'.heap.size := h.2.2.2.1
theorem Onl.trans {S : List Nat} {a b c : World} (h : Onl S a b) (k : Onl S b c) : Onl S a c :=
 ⟨k.1.trans h.1, k.2.1.trans h.2.1, k.2.2.1.trans h.2.2.1, Nat.le_trans h.size k.size, fun j hj hs => (k.2.2.2.2 j (Nat.lt_of_lt_of_le hj h.size) hs).trans (h.2.2.2.2 j hj hs)⟩
theorem Onl.of_below {S : List Nat} {w w' : World} (h : Below w.heap.size w w') : Onl S w w' := ⟨h.os, h.tape, h.output, h.size, fun k hk _ => h.block k hk⟩
theorem Onl.of_only {S : List Nat} {g : Nat} {w w' : World} (h : Only g w w') (hg : g ∈ S) : Onl S w w' := ⟨h.1, h.2.1, h.2.2.1, h.2.2.2.1, fun k hk hs => h.2.2.2.2 k hk fun e => hs (e ▸ hg)⟩
theorem Onl.step {S : List Nat} {a b c : World} (h : Onl S a b) (k : Below b.heap.size b c) : Onl S a c := h.trans (Onl.of_below k)
theorem Onl.only {S : List Nat} {g : Nat} {a b c : World} (h : Onl S a b) (k : Only g b c) (hg : g ∈ S ∨ a.heap.size <= g) : Onl S a c :=
 ⟨k.1.trans h.1, k.2.1.trans h.2.1, k.2.2.1.trans h.2.2.1, Nat.le_trans h.size k.size, fun j hj hs => (k.2.2.2.2 j (Nat.lt_of_lt_of_le hj h.size) (fun e => by
  rcases hg with hg | hg
  .exact hs (e ▸ hg)
  .omega)).trans (h.2.2.2.2 j hj hs)⟩
theorem Onl.below {S : List Nat} {B : Nat} {w w' : World} (h : Onl S w w') (hg : ∀ k ∈ S, B <= k) (hB : B <= w.heap.size) : Below B w w' :=
 ⟨h.1, h.2.1, h.2.2.1, h.size, fun k hk => h.2.2.2.2 k (by omega) fun hm => by have := hg k hm; omega⟩
theorem Row.onl {w w' : World} {g : Nat} {S : List Nat} {t : TypeId} {l : List Value} (h : Row w g t l) (ho : Onl S w w') (hne : g ∉ S) : Row w' g t l := (ho.2.2.2.2 g h.lt hne).trans h
def fbools (l : List Bool) : List Value := l.map Value.bool
theorem zcn (l : List Bool) : (fbools l).length = l.length := by simp [fbools]
theorem zbap (l : List Bool) (i : Nat) (h : i < l.length) : (fbools l)[i]? = some (.bool l[i]) := by simp [fbools, h]
theorem zbaq (l : List Bool) (i : Nat) (b : Bool) : (fbools l).set i (.bool b) = fbools (l.set i b) := by simp [fbools, List.map_set]
structure Sh where
 b : Nat
 o1 : Nat
 k1 : Nat
 z1 : List Value
 o2 : Nat
 k2 : Nat
 z2 : List Value
 o3 : Nat
 k3 : Nat
 z3 : List Value
def Sh.S (s : Sh) : List Nat := [s.b, s.o1, s.o2, s.o3]
def devL (s : Sh) (D : Dv) : List Value := [.int .i64 D.fb, .int .u8 (D.fm.toNat : Int), .bool D.lit, .int .i64 D.left, .slice (some ⟨s.o1, 0, none⟩) D.C.length s.k1, .slice (some ⟨s.o2, 0, none⟩) D.L.length s.k2,
 .slice (some ⟨s.o3, 0, none⟩) D.E.length s.k3, .int .i64 D.ops, .bool D.dn]
theorem zby (s : Sh) (D : Dv) : (devL s D).length = 9 := rfl
structure Dev (w : World) (s : Sh) (D : Dv) : Prop where
 row : Row w s.b 110 (devL s D)
 c : Row w s.o1 5 (bytes D.C ++ s.z1)
 l : Row w s.o2 4 (fbools D.L ++ s.z2)
 e : Row w s.o3 3 (ints D.E ++ s.z3)
 ne : s.S.Nodup
 room : D.C.length <= s.k1
 cap : s.k1 <= 9223372036854775807
 ok : D.Ok
theorem Dev.step {w w' : World} {s : Sh} {D : Dv} (h : Dev w s D) (hb : Below w.heap.size w w') : Dev w' s D := ⟨h.row.step hb, h.c.step hb, h.l.step hb, h.e.step hb, h.ne, h.room, h.cap, h.ok⟩
theorem Dev.onl {w w' : World} {s : Sh} {D : Dv} {S : List Nat} (h : Dev w s D) (ho : Onl S w w') (hs : ∀ k ∈ s.S, k ∉ S) : Dev w' s D :=
 ⟨h.row.onl ho (hs _ (by simp [Sh.S])), h.c.onl ho (hs _ (by simp [Sh.S])), h.l.onl ho (hs _ (by simp [Sh.S])), h.e.onl ho (hs _ (by simp [Sh.S])), h.ne, h.room, h.cap, h.ok⟩
theorem Dev.lt {w : World} {s : Sh} {D : Dv} (h : Dev w s D) : ∀ k ∈ s.S, k < w.heap.size := by
 intro k hk
 simp [Sh.S] at hk
 rcases hk with rfl | rfl | rfl | rfl
 .exact h.row.lt
 .exact h.c.lt
 .exact h.l.lt
 .exact h.e.lt
section
variable {w : World} {s : Sh} {D : Dv} (h : Dev w s D)
include h
theorem Dev.c1 : w.cell? ⟨s.b, 1, none⟩ = some (.int .u8 (D.fm.toNat : Int)) := h.row.cell 1
theorem Dev.c2 : w.cell? ⟨s.b, 2, none⟩ = some (.bool D.lit) := h.row.cell 2
theorem Dev.c3 : w.cell? ⟨s.b, 3, none⟩ = some (.int .i64 D.left) := h.row.cell 3
theorem Dev.c4 : w.cell? ⟨s.b, 4, none⟩ = some (.slice (some ⟨s.o1, 0, none⟩) D.C.length s.k1) := h.row.cell 4
theorem Dev.c5 : w.cell? ⟨s.b, 5, none⟩ = some (.slice (some ⟨s.o2, 0, none⟩) D.L.length s.k2) := h.row.cell 5
theorem Dev.c6 : w.cell? ⟨s.b, 6, none⟩ = some (.slice (some ⟨s.o3, 0, none⟩) D.E.length s.k3) := h.row.cell 6
theorem Dev.c7 : w.cell? ⟨s.b, 7, none⟩ = some (.int .i64 D.ops) := h.row.cell 7
theorem Dev.c8 : w.cell? ⟨s.b, 8, none⟩ = some (.bool D.dn) := h.row.cell 8
theorem Dev.cc (i : Nat) (hi : i < D.C.length) : w.cell? ⟨s.o1, i, none⟩ = some (.int .u8 (D.C[i].toNat : Int)) := by
 rw [h.c.cell, List.getElem?_append_left (by rw [zaa]; exact hi)]; exact zet _ _ hi
theorem Dev.cl (i : Nat) (hi : i < D.L.length) : w.cell? ⟨s.o2, i, none⟩ = some (.bool D.L[i]) := by
 rw [h.l.cell, List.getElem?_append_left (by rw [zcn]; exact hi)]; exact zbap _ _ hi
theorem Dev.ce (i : Nat) (hi : i < D.E.length) : w.cell? ⟨s.o3, i, none⟩ = some (.int .i64 D.E[i]) := by
 rw [h.e.cell, List.getElem?_append_left (by rw [zbn]; exact hi)]; exact zff _ _ hi
end
theorem zxz (w : World) : Calls Tryz.prog 54 #[.pointer none] w fun e w' => e = .returned (.int .i64 0) ∧ w = w' := by
 go_enter Tryz.func54, Tryz.ntmps54
 go_wp2
 go_ret
 exact ⟨rfl, rfl⟩
theorem zef (s : Sh) (D : Dv) (w : World) (h : Dev w s D) : Calls Tryz.prog 54 #[.pointer (some ⟨s.b, 0, none⟩)] w fun e w' => e = .returned (.int .i64 (D.L.length : Int)) ∧ w = w' := by
 have h5 := h.c5
 go_enter Tryz.func54, Tryz.ntmps54
 go_wp2
 go_ret
 exact ⟨rfl, rfl⟩
theorem zbji (w : World) : Calls Tryz.prog 53 #[.pointer none] w fun e w' => e = .returned (.bool true) ∧ w = w' := by
 have HX := zh (zxz w)
 go_enter Tryz.func53, Tryz.ntmps53
 go_wp2_with (go_at_call 54; (with_reducible refine HX.out.mono ?_); rintro e u1 ⟨rfl, rfl⟩)
 go_ret
 exact ⟨rfl, rfl⟩
theorem znn (s : Sh) (D : Dv) (w : World) (h : Dev w s D) : Calls Tryz.prog 53 #[.pointer (some ⟨s.b, 0, none⟩)] w fun e w' => e = .returned (.bool false) ∧ w = w' := by
 have HX := zh (zef s D w h)
 have h1 := h.ok.one
 have hb : ((D.L.length : Int) == 0) = false := beq_eq_false_iff_ne.2 (by omega)
 clear h h1
 go_enter Tryz.func53, Tryz.ntmps53
 go_wp2_with (go_at_call 54; (with_reducible refine HX.out.mono ?_); rintro e u1 ⟨rfl, rfl⟩)
 go_ret
 exact ⟨rfl, rfl⟩
theorem zbz (s : Sh) (D : Dv) (w : World) (h : Dev w s D) : Calls Tryz.prog 81 #[.pointer (some ⟨s.b, 0, none⟩)] w fun e w' => e = .returned (.int .i64 (idl D.dn)) ∧ w = w' := by
 have HX := zh (znn s D w h)
 have h8 := h.c8
 clear h
 obtain ⟨d, hd⟩ : ∃ d, D.dn = d := ⟨_, rfl⟩
 rw [hd] at h8 ⊢
 clear hd
 cases d with
 | false =>
  go_enter Tryz.func81, Tryz.ntmps81
  go_wp2_with (go_at_call 53; (with_reducible refine HX.out.mono ?_); rintro e u1 ⟨rfl, rfl⟩)
  go_ret
  exact ⟨rfl, rfl⟩
 | true =>
  go_enter Tryz.func81, Tryz.ntmps81
  go_wp2_with (go_at_call 53; (with_reducible refine HX.out.mono ?_); rintro e u1 ⟨rfl, rfl⟩)
  go_ret
  exact ⟨rfl, rfl⟩
theorem zqf (s : Sh) (D : Dv) (i : Int) (w : World) (h : Dev w s D) :
  Calls Tryz.prog 82 #[.pointer (some ⟨s.b, 0, none⟩), .int .i64 i] w fun e w' => e = .returned (.bool (decide (0 <= i ∧ i < D.L.length))) ∧ w = w' := by
 have HX := zh (zef s D w h)
 clear h
 obtain ⟨n, hn⟩ : ∃ n, D.L.length = n := ⟨_, rfl⟩
 rw [hn] at HX ⊢
 clear hn
 by_cases h0 : 0 <= i
 .by_cases h1 : i < (n : Int)
  .have HD := zh (decide_eq_true (And.intro h0 h1))
   go_enter Tryz.func82, Tryz.ntmps82
   go_wp2_with (go_at_call 54; (with_reducible refine HX.out.mono ?_); rintro e u1 ⟨rfl, rfl⟩)
   go_ret
   exact ⟨zap (by first | (simp; done) | (simp; omega)), rfl⟩
  .have HD : Hid (decide (0 <= i ∧ i < (n : Int)) = false) := zh (decide_eq_false (by omega))
   go_enter Tryz.func82, Tryz.ntmps82
   go_wp2_with (go_at_call 54; (with_reducible refine HX.out.mono ?_); rintro e u1 ⟨rfl, rfl⟩)
   go_ret
   exact ⟨zap (by first | (simp; done) | (simp; omega)), rfl⟩
 .have HD : Hid (decide (0 <= i ∧ i < (n : Int)) = false) := zh (decide_eq_false (by omega))
  go_enter Tryz.func82, Tryz.ntmps82
  go_wp2_with (go_at_call 54; (with_reducible refine HX.out.mono ?_); rintro e u1 ⟨rfl, rfl⟩)
  go_ret
  exact ⟨zap (by first | (simp; done) | (simp; omega)), rfl⟩
theorem zgb (s : Sh) (D : Dv) (x y : Int) (w : World) (h : Dev w s D) (hx : x < 9223372036854775808) :
  Calls Tryz.prog 103 #[.pointer (some ⟨s.b, 0, none⟩), .int .i64 x, .int .i64 y] w fun e w' => e = .returned (.bool (bey D.C.length x y)) ∧ w = w' := by
 have h4 := h.c4
 have hn : D.C.length <= 32768 := by have := h.ok.cells; have := h.ok.top; omega
 clear h
 obtain ⟨n, hn1⟩ : ∃ n, D.C.length = n := ⟨_, rfl⟩
 rw [hn1] at h4 hn ⊢
 clear hn1
 by_cases h0 : x < 0
 .have HD : Hid (bey n x y = true) := zh (decide_eq_true (Or.inl h0))
  go_enter Tryz.func103, Tryz.ntmps103
  go_wp2
  go_ret
  exact ⟨zap HD.out.symm, rfl⟩
 .by_cases h1 : y < 0
  .have HD : Hid (bey n x y = true) := zh (decide_eq_true (Or.inr (Or.inl h1)))
   go_enter Tryz.func103, Tryz.ntmps103
   go_wp2; go_ret; exact ⟨zap HD.out.symm, rfl⟩
  .have hw : wrap64 ((n : Int) - x) = (n : Int) - x := by unfold wrap64; omega
   by_cases h2 : (n : Int) - x < y
   .have HD : Hid (bey n x y = true) := zh (decide_eq_true (Or.inr (Or.inr h2)))
    clear hn hx
    go_enter Tryz.func103, Tryz.ntmps103
    go_wp2; go_ret; exact ⟨zap HD.out.symm, rfl⟩
   .have HD : Hid (bey n x y = false) := zh (decide_eq_false (by omega))
    clear hn hx
    go_enter Tryz.func103, Tryz.ntmps103
    go_wp2; go_ret; exact ⟨zap HD.out.symm, rfl⟩
end
section
open Go.RowKit FlaMath
theorem zqe (s : Sh) (D : Dv) (i : Nat) (w : World) (h : Dev w s D) (hi : i < D.L.length) :
  Calls Tryz.prog 83 #[.pointer (some ⟨s.b, 0, none⟩), .int .i64 (i : Int)] w fun e w' => e = .returned (.slice (some ⟨s.o1, i * 64, none⟩) 64 (s.k1 - i * 64)) ∧ w = w' := by
 have h4 := h.c4
 have h1 := h.ok.cells
 have h2 := h.ok.top
 have h3 := h.room
 have hw : wrap64 ((i : Int) * 64) = (i : Int) * 64 := by unfold wrap64; omega
 obtain ⟨n, hn⟩ : ∃ n, D.C.length = n := ⟨_, rfl⟩
 rw [hn] at h4 h1 h3
 obtain ⟨k, hk⟩ : ∃ k, s.k1 = k := ⟨_, rfl⟩
 rw [hk] at h4 h3 ⊢
 clear hn hk h
 have e1 : (i : Int) * 64 <= n := by omega
 have e2 : 0 <= (i : Int) * 64 := by omega
 have e3 : (64 : Int) <= (k : Int) - (i : Int) * 64 := by omega
 have e4 : (i : Int) * 64 <= k := by omega
 have e5 : ((i : Int) * 64).toNat = i * 64 := by omega
 have e6 : (n : Int) <= k := by omega
 go_enter Tryz.func83, Tryz.ntmps83
 go_wp2
 go_ret
 exact ⟨by simp, rfl⟩
def sec (C : List UInt8) (i : Nat) : List UInt8 := (C.drop (i * 64)).take 64
theorem Dev.read {w : World} {s : Sh} {D : Dv} (h : Dev w s D) (o n cap : Nat) (ho : o + n <= D.C.length) :
  (convert 107 9 (.slice (some ⟨s.o1, o, none⟩) n cap)).run Tryz.prog w = .ok (.string (str ((D.C.drop o).take n))) w := by
 refine conv_bytes s.o1 o cap ((D.C.drop o).take n) n w (by simp; omega) fun j hj => ?_
 have h3 : j < n := by simp at hj; omega
 have h2 := h.cc (o + j) (by omega)
 simpa using h2
theorem Dv.Ok.same {D D' : Dv} (h : D.Ok) (hC : D'.C.length = D.C.length) (hL : D'.L.length = D.L.length) (hE : D'.E.length = D.E.length) : D'.Ok := ⟨by rw [hL]; exact h.one, by rw [hL]; exact h.top, by rw [hC, hL]; exact h.cells, by rw [hE, hL]; exact h.worn⟩
theorem Dev.put {w w' : World} {s : Sh} {D : Dv} (h : Dev w s D) (D' : Dv) (hr : Row w' s.b 110 (devL s D')) (ho : Only s.b w w') (hC : D'.C = D.C) (hL : D'.L = D.L) (hE : D'.E = D.E) : Dev w' s D' := by
 have hn := h.ne
 simp only [Sh.S, List.nodup_cons, List.mem_cons, not_or] at hn
 exact ⟨hr, by rw [hC]; exact h.c.only ho (Ne.symm hn.1.1), by rw [hL]; exact h.l.only ho (Ne.symm hn.1.2.1), by rw [hE]; exact h.e.only ho (Ne.symm hn.1.2.2.1), h.ne, by rw [hC]; exact h.room, h.cap, Dv.Ok.same h.ok (by rw [hC]) (by rw [hL]) (by rw [hE])⟩
theorem zbnv (s : Sh) (D : Dv) (C : List UInt8) (hC : C.length = D.C.length) : devL s { D with C := C } = devL s D := by simp [devL, hC]
theorem zbnx (s : Sh) (D : Dv) (L : List Bool) (hC : L.length = D.L.length) : devL s { D with L := L } = devL s D := by simp [devL, hC]
theorem zbnw (s : Sh) (D : Dv) (E : List Int) (hC : E.length = D.E.length) : devL s { D with E := E } = devL s D := by simp [devL, hC]
theorem Dev.putC {w w' : World} {s : Sh} {D : Dv} (h : Dev w s D) (C : List UInt8) (hr : Row w' s.o1 5 (bytes C ++ s.z1)) (ho : Only s.o1 w w') (hC : C.length = D.C.length) : Dev w' s { D with C := C } := by
 have hn := h.ne
 simp only [Sh.S, List.nodup_cons, List.mem_cons, not_or] at hn
 exact ⟨by rw [zbnv s D C hC]; exact h.row.only ho hn.1.1, hr, h.l.only ho (Ne.symm hn.2.1.1), h.e.only ho (Ne.symm hn.2.1.2.1), h.ne, by rw [show ({ D with C := C } : Dv).C = C from rfl, hC]; exact h.room, h.cap, Dv.Ok.same h.ok hC rfl rfl⟩
theorem Dev.putL {w w' : World} {s : Sh} {D : Dv} (h : Dev w s D) (L : List Bool) (hr : Row w' s.o2 4 (fbools L ++ s.z2)) (ho : Only s.o2 w w') (hC : L.length = D.L.length) : Dev w' s { D with L := L } := by
 have hn := h.ne
 simp only [Sh.S, List.nodup_cons, List.mem_cons, not_or] at hn
 exact ⟨by rw [zbnx s D L hC]; exact h.row.only ho hn.1.2.1, h.c.only ho hn.2.1.1, hr, h.e.only ho (Ne.symm hn.2.2.1.1), h.ne, h.room, h.cap, Dv.Ok.same h.ok rfl hC rfl⟩
theorem Dev.putE {w w' : World} {s : Sh} {D : Dv} (h : Dev w s D) (E : List Int) (hr : Row w' s.o3 3 (ints E ++ s.z3)) (ho : Only s.o3 w w') (hC : E.length = D.E.length) : Dev w' s { D with E := E } := by
 have hn := h.ne
 simp only [Sh.S, List.nodup_cons, List.mem_cons, not_or] at hn
 exact ⟨by rw [zbnw s D E hC]; exact h.row.only ho hn.1.2.2.1, h.c.only ho hn.2.1.2.1, h.l.only ho hn.2.2.1.1, hr, h.ne, h.room, h.cap, Dv.Ok.same h.ok rfl rfl hC⟩
theorem Sh.b_mem (s : Sh) : s.b ∈ s.S := by simp [Sh.S]
theorem Sh.o1_mem (s : Sh) : s.o1 ∈ s.S := by simp [Sh.S]
theorem Sh.o2_mem (s : Sh) : s.o2 ∈ s.S := by simp [Sh.S]
theorem Sh.o3_mem (s : Sh) : s.o3 ∈ s.S := by simp [Sh.S]
theorem zez : (Tryz.prog.info? 5).map (·.size) = some 1 := by kernel_rfl
theorem ziz : (Tryz.prog.info? 4).map (·.size) = some 1 := by kernel_rfl
theorem zcx : (Tryz.prog.info? 3).map (·.size) = some 1 := by kernel_rfl
theorem zbw (k : IntKind) (x : Int) : (Value.int k x).cells = #[.int k x] := rfl
theorem zcs (k : IntKind) (x : Int) : (Value.int k x).oneCell' = true := rfl
theorem ziu (x : Bool) : (Value.bool x).cells = #[.bool x] := rfl
theorem znf (x : Bool) : (Value.bool x).oneCell' = true := rfl
theorem zrk : Fits Tryz.prog 104 2 := ⟨⟨_, Tryz.underlying104, rfl⟩, by kernel_rfl⟩
theorem Dev.setL {w w' : World} {s : Sh} {D : Dv} (h : Dev w s D) (k : Nat) (x : Bool) (hk : k < D.L.length) (hr : Row w' s.o2 4 ((fbools D.L ++ s.z2).set k (.bool x))) (ho : Only s.o2 w w') : Dev w' s { D with L := D.L.set k x } :=
 h.putL _ (by rw [List.set_append_left _ _ (by rw [zcn]; exact hk), zbaq] at hr; exact hr) ho (by simp)
theorem Dev.setC {w w' : World} {s : Sh} {D : Dv} (h : Dev w s D) (k : Nat) (x : UInt8) (hk : k < D.C.length) (hr : Row w' s.o1 5 ((bytes D.C ++ s.z1).set k (.int .u8 (x.toNat : Int)))) (ho : Only s.o1 w w') : Dev w' s { D with C := D.C.set k x } :=
 h.putC _ (by rw [List.set_append_left _ _ (by rw [zaa]; exact hk), show (bytes D.C).set k (.int .u8 (x.toNat : Int)) = bytes (D.C.set k x) by simp [bytes, List.map_set]] at hr; exact hr) ho (by simp)
theorem Dev.setE {w w' : World} {s : Sh} {D : Dv} (h : Dev w s D) (k : Nat) (x : Int) (hk : k < D.E.length) (hr : Row w' s.o3 3 ((ints D.E ++ s.z3).set k (.int .i64 x))) (ho : Only s.o3 w w') : Dev w' s { D with E := D.E.set k x } :=
 h.putE _ (by rw [List.set_append_left _ _ (by rw [zbn]; exact hk), show (ints D.E).set k (.int .i64 x) = ints (D.E.set k x) by simp [ints, List.map_set]] at hr; exact hr) ho (by simp)
theorem zbpo (x y : Int) (w : World) : Calls Tryz.prog 22 #[.pointer none, .int .i64 x, .int .i64 y] w fun e w' => e = .returned (.int .i64 1) ∧ w = w' := by
 have HX := zh (zbji w)
 go_enter Tryz.func22, Tryz.ntmps22
 go_wp2_with (go_at_call 53; (with_reducible refine HX.out.mono ?_); rintro e u1 ⟨rfl, rfl⟩)
 go_ret
 exact ⟨rfl, rfl⟩
theorem zbez (s : Sh) (D : Dv) (a c : Nat) (w : World) (h : Dev w s D) (hac : a <= c) (hc : c <= D.L.length) :
  Calls Tryz.prog 22 #[.pointer (some ⟨s.b, 0, none⟩), .int .i64 (a : Int), .int .i64 (c : Int)] w fun e w' => e = .returned (.int .i64 0) ∧ Dev w' s { D with L := lockF D.L a c } ∧ Onl s.S w w' := by
 have HX := zh (znn s D w h)
 have HS := zh (zef s D w h)
 have HD := zh h
 have h2 := h.ok.top
 obtain ⟨n, hn⟩ : ∃ n, D.L.length = n := ⟨_, rfl⟩
 rw [hn] at hc h2 HS
 have HN := zh hn
 have a1 : (a : Int) <= c := by omega
 have a2 : (c : Int) <= n := by omega
 have a3 : (n : Int) <= 512 := by omega
 have a4 : 0 <= (a : Int) := by omega
 have d1 : decide ((a : Int) < 0) = false := decide_eq_false (by omega)
 have d2 : decide ((c : Int) < a) = false := decide_eq_false (by omega)
 have d3 : decide (c < a) = false := decide_eq_false (by omega)
 have d4 : decide ((n : Int) < c) = false := decide_eq_false (by omega)
 have d5 : decide (n < c) = false := decide_eq_false (by omega)
 clear h hn h2
 go_enter Tryz.func22, Tryz.ntmps22
 go_wp2_with (first
  | (go_at_call 53; (with_reducible refine HX.out.mono ?_); rintro e u1 ⟨rfl, rfl⟩)
  | (go_at_call 54; (with_reducible refine HS.out.mono ?_); rintro e u1 ⟨rfl, rfl⟩))
 go_loopw [7] (fun x wr => ∃ k : Nat, a <= k ∧ k <= c ∧ x = .int .i64 k ∧ Dev wr s { D with L := lockF D.L a k } ∧ Onl s.S w wr) (fun x _ => c - (intOf x).toNat)
 case atStart => exact ⟨a, Nat.le_refl _, hac, rfl, by rw [zbbc]; exact HD.out, Onl.refl _ _⟩
 case round =>
  obtain ⟨k, hk1, hk2, rfl, hd, ho⟩ := hrel
  have h5 : wr.cell? ⟨s.b, 5, none⟩ = some (.slice (some ⟨s.o2, 0, none⟩) n s.k2) := by have := hd.c5; rwa [show ({ D with L := lockF D.L a k } : Dv).L.length = n by rw [<- HN.out]; exact zbr _ _ _] at this
  by_cases hlt : k < c
  .have e1 : (k : Int) < c := by omega
   have e2 : (k : Int) < n := by omega
   have HLE : Hid (k < (fbools (lockF D.L a k) ++ s.z2).length) := zh (by rw [List.length_append, zcn, zbr, HN.out]; omega)
   have HK : Hid (k < (lockF D.L a k).length) := zh (by rw [zbr, HN.out]; omega)
   have RL : Hid (Row wr s.o2 4 (fbools (lockF D.L a k) ++ s.z2)) := zh hd.l
   have H0 := zh hd; have HO := zh ho; clear hd ho
   go_wp2_with ((with_reducible refine RL.out.wpStore1K k 4 (.bool true) ziz HLE.out (ziu _) (znf _) ?_ ?_); rfl; intro w1 r1 o1 s1; have R1 := zh r1; have O1 := zh o1; clear r1 o1 s1)
   go_roundw
   case rel =>
    have hd := H0.out.setL k true HK.out R1.out O1.out; rw [show (({ D with L := lockF D.L a k } : Dv).L.set k true) = lockF D.L a (k + 1) from zbbd _ _ _ hk1] at hd
    exact ⟨k + 1, by omega, by omega, by go_num, hd, HO.out.trans (Onl.of_only O1.out s.o2_mem)⟩
   case measure => simp [intOf]; omega
  .have ek : k = c := by omega
   subst ek; have H0 := zh hd; have HO := zh ho; clear hd ho; go_wp2; go_ret; exact ⟨rfl, H0.out, HO.out⟩
theorem zbiw (s : Sh) (D : Dv) (x y : Int) (w : World) (h : Dev w s D) (hb : x < 0 ∨ y < x ∨ (D.L.length : Int) < y) :
  Calls Tryz.prog 22 #[.pointer (some ⟨s.b, 0, none⟩), .int .i64 x, .int .i64 y] w fun e w' => e = .returned (.int .i64 2) ∧ w = w' := by
 have HX := zh (znn s D w h)
 have HS := zh (zef s D w h)
 have h2 := h.ok.top
 obtain ⟨n, hn⟩ : ∃ n, D.L.length = n := ⟨_, rfl⟩
 rw [hn] at HS hb
 clear h hn h2
 by_cases h1 : x < 0
 .clear hb
  go_enter Tryz.func22, Tryz.ntmps22
  go_wp2_with (first
   | (go_at_call 53; (with_reducible refine HX.out.mono ?_); rintro e u1 ⟨rfl, rfl⟩)
   | (go_at_call 54; (with_reducible refine HS.out.mono ?_); rintro e u1 ⟨rfl, rfl⟩))
  go_ret
  exact ⟨rfl, rfl⟩
 .by_cases h2 : y < x
  .clear hb
   go_enter Tryz.func22, Tryz.ntmps22
   go_wp2_with (first
    | (go_at_call 53; (with_reducible refine HX.out.mono ?_); rintro e u1 ⟨rfl, rfl⟩)
    | (go_at_call 54; (with_reducible refine HS.out.mono ?_); rintro e u1 ⟨rfl, rfl⟩))
   go_ret; exact ⟨rfl, rfl⟩
  .have h3 : (n : Int) < y := by omega
   clear hb
   go_enter Tryz.func22, Tryz.ntmps22
   go_wp2_with (first
    | (go_at_call 53; (with_reducible refine HX.out.mono ?_); rintro e u1 ⟨rfl, rfl⟩)
    | (go_at_call 54; (with_reducible refine HS.out.mono ?_); rintro e u1 ⟨rfl, rfl⟩))
   go_ret; exact ⟨rfl, rfl⟩
theorem zbiv (s : Sh) (D : Dv) (x y : Int) (w : World) (h : Dev w s D) :
  Calls Tryz.prog 22 #[.pointer (some ⟨s.b, 0, none⟩), .int .i64 x, .int .i64 y] w fun e w' => e = .returned (.int .i64 (lockE D.L.length x y)) ∧ Dev w' s (D.lock x y) ∧ Onl s.S w w' := by
 by_cases hb : x < 0 ∨ y < x ∨ (D.L.length : Int) < y
 .refine (zbiw s D x y w h hb).mono ?_
  rintro e w' ⟨rfl, rfl⟩
  exact ⟨by rw [lockE, if_pos hb], by rw [Dv.lock, if_pos hb]; exact h, Onl.refl _ _⟩
 .obtain ⟨a, rfl⟩ : ∃ a : Nat, x = a := ⟨x.toNat, by omega⟩
  obtain ⟨c, rfl⟩ : ∃ c : Nat, y = c := ⟨y.toNat, by omega⟩
  refine (zbez s D a c w h (by omega) (by omega)).mono ?_
  rintro e w' ⟨rfl, h1, h2⟩
  exact ⟨by rw [lockE, if_neg hb], by rw [Dv.lock, if_neg hb]; exact h1, h2⟩
theorem zbbp (s : Sh) (D : Dv) (a n : Nat) (w : World) (h : Dev w s D) (hd : D.dn = false) (ha : a + n <= D.C.length) (hk : a < s.k1) :
  Calls Tryz.prog 67 #[.pointer (some ⟨s.b, 0, none⟩), .int .i64 (a : Int), .int .i64 (n : Int)] w fun e w' => e = .returned (.tuple #[.string (str ((D.C.drop a).take n)), .int .i64 0]) ∧ Dev w' s { D with ops := wrap64 (D.ops + 1) } ∧ Onl s.S w w' := by
 have HX : Hid (Calls Tryz.prog 81 #[.pointer (some ⟨s.b, 0, none⟩)] w fun e w' => e = .returned (.int .i64 0) ∧ w = w') := zh (by have := zbz s D w h; rwa [hd] at this)
 have hb : bey D.C.length a n = false := decide_eq_false (by omega)
 have hc := h.ok.cells
 have ht := h.ok.top
 have HY : Hid (Calls Tryz.prog 103 #[.pointer (some ⟨s.b, 0, none⟩), .int .i64 (a : Int), .int .i64 (n : Int)] w fun e w' => e = .returned (.bool false) ∧ w = w') := zh (by
  have := zgb s D a n w h (by omega); rwa [hb] at this)
 have HD := zh h
 have h7 := h.c7
 have h4 := h.c4
 have hrm := h.room
 have R0 : Hid (Row w s.b 110 (devL s D)) := zh h.row
 have HL : Hid (7 < (devL s D).length) := zh (by rw [zby]; decide)
 obtain ⟨p, hp⟩ : ∃ p, wrap64 (D.ops + 1) = p := ⟨_, rfl⟩
 have HE : Hid ((devL s D).set 7 (.int .i64 p) = devL s { D with ops := p }) := zh rfl
 have HR : Hid (∀ w1, Dev w1 s { D with ops := p } -> (convert 107 9 (.slice (some ⟨s.o1, a, none⟩) n (s.k1 - a))).run Tryz.prog w1 = .ok (.string (str ((D.C.drop a).take n))) w1) := zh fun w1 h1 => h1.read a n _ ha
 obtain ⟨S, hS⟩ : ∃ S, str ((D.C.drop a).take n) = S := ⟨_, rfl⟩
 rw [hS] at HR ⊢
 rw [hp]
 obtain ⟨m, hm⟩ : ∃ m, D.C.length = m := ⟨_, rfl⟩
 have H4 : Hid (∀ w1, Dev w1 s { D with ops := p } -> w1.cell? ⟨s.b, 4, none⟩ = some (.slice (some ⟨s.o1, 0, none⟩) m s.k1)) := zh fun w1 h1 => by have := h1.c4; rwa [show ({ D with ops := p } : Dv).C.length = m from hm] at this
 rw [hm] at h4 hrm ha hc
 have ew : wrap64 ((a : Int) + (n : Int)) = (a : Int) + n := by unfold wrap64; omega
 have e0 : (a : Int) + (n : Int) = ((a + n : Nat) : Int) := by omega
 have e1 : ((a + n : Nat) : Int) <= s.k1 := by omega
 have e2 : (a : Int) <= ((a + n : Nat) : Int) := by omega
 have e3 : a + n <= s.k1 := by omega
 have e4 : a + n - a = n := by omega
 have e5 : (a : Int) + n <= s.k1 := by omega
 have e6 : 0 <= (n : Int) := by omega
 have e7 : ((a : Int) + n).toNat = a + n := by omega
 have e8 : 0 <= (a : Int) + n := by omega
 have e9 : ¬ s.k1 - a = 0 := by omega
 have e10 : ¬ (s.k1 : Int) - a = 0 := by omega
 have e11 : ¬ s.k1 = a := by omega
 have e12 : ¬ s.k1 <= a := by omega
 obtain ⟨k1, hk1⟩ : ∃ k, s.k1 = k := ⟨_, rfl⟩
 rw [hk1] at e1 e3 e5 h4 HR H4 e9 e10 e11 e12 hk
 clear h hb hd hS hm hrm hc hk1 e0
 go_enter Tryz.func67, Tryz.ntmps67
 go_wp2_with (first
  | (go_at_call 81; (with_reducible refine HX.out.mono ?_); rintro e u1 ⟨rfl, rfl⟩)
  | (go_at_call 103; (with_reducible refine HY.out.mono ?_); rintro e u1 ⟨rfl, rfl⟩)
  | ((with_reducible refine R0.out.wpStore1K 7 3 (.int .i64 p) zcx HL.out (zbw _ _) (zcs _ _) ?_ ?_); (simp only [storeOf, Act.eval]; exact congrArg (fun z => some (_, _, Value.int .i64 z)) hp); intro w1 r1 o1 s1; have D1 := zh (HD.out.put { D with ops := p } (by rw [<- HE.out]; exact r1) o1 rfl rfl rfl); have O1 := zh o1; have h41 := H4.out w1 D1.out; have hr1 := HR.out w1 D1.out; clear r1 o1 s1))
 go_ret2
 exact ⟨rfl, D1.out, Onl.of_only O1.out s.b_mem⟩
def OffS (w : World) (S : List Nat) (a : Option Addr) (xs : List Value) : Prop :=
 0 < xs.length -> ∃ bl off, a = some ⟨bl, off, none⟩ ∧ bl < w.heap.size ∧ bl ∉ S ∧ ∀ j u, xs[j]? = some u -> w.cell? ⟨bl, off + j, none⟩ = some u
theorem OffS.onl {w w' : World} {S : List Nat} {a : Option Addr} {xs : List Value} (h : OffS w S a xs) (ho : Onl S w w') : OffS w' S a xs := by
 intro hx
 obtain ⟨bl, off, e, hl, hne, hc⟩ := h hx
 refine ⟨bl, off, e, Nat.lt_of_lt_of_le hl ho.size, hne, fun j u hj => ?_⟩
 rw [World.cell?_of_block (a := ⟨bl, off + j, none⟩) (ho.2.2.2.2 bl hl hne)]
 exact hc j u hj
theorem zbgq (x y : UInt8) : bits .and .u8 (x.toNat : Int) (y.toNat : Int) = ((x &&& y).toNat : Int) := by rw [u8_and_nat _ _ x.toNat_lt y.toNat_lt, UInt8.toNat_and]
theorem zbld (x y : UInt8) : bits .or .u8 (x.toNat : Int) (y.toNat : Int) = ((x ||| y).toNat : Int) := by rw [u8_or_nat _ _ x.toNat_lt y.toNat_lt, UInt8.toNat_or]
def burnB (D : Dv) : Bool := D.lit && decide (wrap64 (D.left - 1) < 0)
def burned (D : Dv) : Dv := if D.lit then { D with left := wrap64 (D.left - 1) } else D
theorem ziv (s : Sh) (D : Dv) (w : World) (h : Dev w s D) :
  Calls Tryz.prog 121 #[.pointer (some ⟨s.b, 0, none⟩)] w fun e w' => e = .returned (.bool (burnB D)) ∧ Dev w' s (burned D) ∧ Onl s.S w w' := by
 have h2 := h.c2
 have h3 := h.c3
 have HD := zh h
 have R0 : Hid (Row w s.b 110 (devL s D)) := zh h.row
 have HL : Hid (3 < (devL s D).length) := zh (by rw [zby]; decide)
 cases hl : D.lit with
 | false =>
  rw [hl] at h2
  have HB : Hid (burnB D = false) := zh (by rw [burnB, hl]; rfl)
  have HB2 : Hid (burned D = D) := zh (by rw [burned, hl]; rfl)
  clear h hl
  go_enter Tryz.func121, Tryz.ntmps121
  go_wp2
  go_ret
  exact ⟨zap HB.out.symm, by rw [HB2.out]; exact HD.out, Onl.refl _ _⟩
 | true =>
  rw [hl] at h2
  obtain ⟨p, hp⟩ : ∃ p, wrap64 (D.left - 1) = p := ⟨_, rfl⟩
  have HB : Hid (burnB D = decide (p < 0)) := zh (by rw [burnB, hl, hp]; rfl)
  have HB2 : Hid (burned D = { D with left := p }) := zh (by rw [burned, hl, hp]; rfl)
  have HE : Hid ((devL s D).set 3 (.int .i64 p) = devL s { D with left := p }) := zh rfl
  obtain ⟨x, hx⟩ : ∃ x, D.left = x := ⟨_, rfl⟩
  rw [hx] at h3 hp
  clear h hl hx
  go_enter Tryz.func121, Tryz.ntmps121
  go_wp2_with ((with_reducible refine R0.out.wpStore1K 3 3 (.int .i64 p) zcx HL.out (zbw _ _) (zcs _ _) ?_ ?_); (simp only [storeOf, Act.eval]; exact congrArg (fun z => some (_, _, Value.int .i64 z)) hp); intro w1 r1 o1 s1; have D1 := zh (HD.out.put { D with left := p } (by rw [<- HE.out]; exact r1) o1 rfl rfl rfl); have O1 := zh o1; have h31 := D1.out.c3; clear r1 o1 s1)
  go_ret
  exact ⟨zap HB.out.symm, by rw [HB2.out]; exact D1.out, Onl.of_only O1.out s.b_mem⟩
theorem zry (fb : Int) (m : Int) (n : Nat) (w : World) (hn : n <= 1000) :
  Calls Tryz.prog 122 #[.agg #[.int .i64 fb, .int .u8 m], .int .i64 (n : Int)] w fun e w' => e = .returned (.int .i64 (reach fb n : Int)) ∧ Below w.heap.size w w' := by
 have hq0 := Int.lt_tmod_of_pos fb (b := (n : Int) + 1) (by omega)
 have hq1 := Int.tmod_lt_of_pos fb (b := (n : Int) + 1) (by omega)
 have hre := reach_eq fb n
 obtain ⟨q, hq⟩ : ∃ q, fb.tmod ((n : Int) + 1) = q := ⟨_, rfl⟩
 rw [hq] at hq0 hq1 hre
 have w1 : wrap64 ((n : Int) + 1) = (n : Int) + 1 := by unfold wrap64; omega
 have w2 : wrap64 (q + n) = q + n := by unfold wrap64; omega
 have w3 : wrap64 (q + n + 1) = q + n + 1 := by unfold wrap64; omega
 have hz : ¬ (n : Int) + 1 = 0 := by omega
 have hle := znu fb n
 obtain ⟨r, hr⟩ : ∃ r, reach fb n = r := ⟨_, rfl⟩
 rw [hr] at hre hle ⊢
 have w4 : wrap64 (q : Int) = q := by unfold wrap64; omega
 have w5 : wrap64 (r : Int) = r := by unfold wrap64; omega
 clear hr hle hn hq0 hq1
 go_enter Tryz.func122, Tryz.ntmps122
 go_wp2_with ((with_reducible refine wpBoxK [Value.int .i64 fb, .int .u8 m] 104 ?_ ?_); rfl; intro u1 r1 b1 s1; have c1 := r1.cell 0; have B1 := zh b1; clear r1 b1 s1)
 go_ret
 exact ⟨rfl, B1.out⟩
structure CapE (w : World) (s : Sh) (o n cp vb vd : Nat) : Prop where
 b : w.cell? ⟨vb, 0, none⟩ = some (.slice (some ⟨s.o1, o, none⟩) n cp)
 d : w.cell? ⟨vd, 0, none⟩ = some (.pointer (some ⟨s.b, 0, none⟩))
 lb : vb < w.heap.size
 ld : vd < w.heap.size
 nb : vb ∉ s.S
 nd : vd ∉ s.S
theorem zgt {w w' : World} {S : List Nat} {g : Nat} (o : Nat) (h : Onl S w w') (hg : g < w.heap.size) (hn : g ∉ S) : w'.cell? ⟨g, o, none⟩ = w.cell? ⟨g, o, none⟩ := World.cell?_of_block (a := ⟨g, o, none⟩) (h.2.2.2.2 g hg hn)
theorem CapE.onl {w w' : World} {s : Sh} {o n cp vb vd : Nat} (h : CapE w s o n cp vb vd) (ho : Onl s.S w w') : CapE w' s o n cp vb vd :=
 ⟨(zgt 0 ho h.lb h.nb).trans h.b, (zgt 0 ho h.ld h.nd).trans h.d, Nat.lt_of_lt_of_le h.lb ho.size, Nat.lt_of_lt_of_le h.ld ho.size, h.nb, h.nd⟩
structure CapP (w : World) (s : Sh) (o cp vb vp vd : Nat) (n : Nat) (t : ByteArray) : Prop where
 b : w.cell? ⟨vb, 0, none⟩ = some (.slice (some ⟨s.o1, o, none⟩) n cp)
 p : w.cell? ⟨vp, 0, none⟩ = some (.string t)
 d : w.cell? ⟨vd, 0, none⟩ = some (.pointer (some ⟨s.b, 0, none⟩))
 lb : vb < w.heap.size
 lp : vp < w.heap.size
 ld : vd < w.heap.size
 nb : vb ∉ s.S
 np : vp ∉ s.S
 nd : vd ∉ s.S
theorem CapP.onl {w w' : World} {s : Sh} {o cp vb vp vd n : Nat} {t : ByteArray} (h : CapP w s o cp vb vp vd n t) (ho : Onl s.S w w') : CapP w' s o cp vb vp vd n t :=
 ⟨(zgt 0 ho h.lb h.nb).trans h.b, (zgt 0 ho h.lp h.np).trans h.p, (zgt 0 ho h.ld h.nd).trans h.d, Nat.lt_of_lt_of_le h.lb ho.size, Nat.lt_of_lt_of_le h.lp ho.size, Nat.lt_of_lt_of_le h.ld ho.size, h.nb, h.np, h.nd⟩
theorem zoq (s : Sh) (D : Dv) (o n cp vb vd k : Nat) (w : World) (h : Dev w s D) (hv : CapE w s o n cp vb vd) (hk : k < n) (ho : o + k < D.C.length) :
  Calls Tryz.prog 85 #[.int .i64 (k : Int), .pointer (some ⟨vb, 0, none⟩)] w fun e w' => e = .returned (.tuple #[]) ∧ Dev w' s { D with C := D.C.set (o + k) (fE k D.C[o + k]) } ∧ Onl s.S w w' := by
 have hb := hv.b
 have e1 : (k : Int) < n := by omega
 have R0 : Hid (Row w s.o1 5 (bytes D.C ++ s.z1)) := zh h.c
 have HL : Hid (o + k < (bytes D.C ++ s.z1).length) := zh (by rw [List.length_append, zaa]; omega)
 have HD := zh h
 have HK := zh ho
 rw [show fE k D.C[o + k] = 255 from rfl]
 clear h hv ho
 go_enter Tryz.func85, Tryz.ntmps85
 go_wp2_with ((with_reducible refine R0.out.wpStore1K (o + k) 5 (.int .u8 255) zez HL.out (zbw _ _) (zcs _ _) ?_ ?_); rfl; intro w1 r1 o1 s1; have D1 := zh (HD.out.setC (o + k) 255 HK.out r1 o1); have O1 := zh (Onl.of_only o1 s.o1_mem); clear r1 o1 s1)
 go_end0
 exact ⟨rfl, D1.out, O1.out⟩
theorem zbak (s : Sh) (D : Dv) (o n cp vb vd k : Nat) (w : World) (h : Dev w s D) (hv : CapE w s o n cp vb vd) (hk : k < n) (ho : o + k < D.C.length) :
  Calls Tryz.prog 86 #[.int .i64 (k : Int), .pointer (some ⟨vb, 0, none⟩), .pointer (some ⟨vd, 0, none⟩)] w fun e w' => e = .returned (.tuple #[]) ∧ Dev w' s { D with C := D.C.set (o + k) (gE D.fm k D.C[o + k]) } ∧ Onl s.S w w' := by
 have hb := hv.b
 have hd := hv.d
 have h1 := h.c1
 have hc := h.cc (o + k) ho
 have e1 : (k : Int) < n := by omega
 rw [show gE D.fm k D.C[o + k] = D.C[o + k] ||| D.fm from rfl]
 obtain ⟨x, hx⟩ : ∃ x, D.C[o + k] = x := ⟨_, rfl⟩
 obtain ⟨m, hm⟩ : ∃ m, D.fm = m := ⟨_, rfl⟩
 rw [hx] at hc ⊢
 rw [hm] at h1
 rw [show x ||| D.fm = x ||| m by rw [hm]]
 have hor := zbld x m
 have R0 : Hid (Row w.drew s.o1 5 (bytes D.C ++ s.z1)) := zh h.c.drew
 have HL : Hid (o + k < (bytes D.C ++ s.z1).length) := zh (by rw [List.length_append, zaa]; omega)
 have HD : Hid (Dev w.drew s D) := zh (h.step ((zb).drew))
 have HO : Hid (Onl s.S w w.drew) := zh (Onl.of_below ((zb).drew))
 have HK := zh ho
 clear h hv ho hx hm
 go_enter Tryz.func86, Tryz.ntmps86
 go_wp2
 go_still_tail 12, (by kernel_rfl)
 change wpList _ _ _ _ _ w.drew
 generalize w.drew = wq at *
 go_wp2_with ((with_reducible refine R0.out.wpStore1K (o + k) 5 (.int .u8 ((x ||| m).toNat : Int)) zez HL.out (zbw _ _) (zcs _ _) ?_ ?_); rfl; intro w1 r1 o1 s1; have D1 := zh (HD.out.setC (o + k) (x ||| m) HK.out r1 o1); have O1 := zh (HO.out.trans (Onl.of_only o1 s.o1_mem)); clear r1 o1 s1)
 go_end0
 exact ⟨rfl, D1.out, O1.out⟩
theorem zrv (s : Sh) (D : Dv) (o cp vb vp vd n : Nat) (t : ByteArray) (k : Nat) (w : World) (h : Dev w s D) (hv : CapP w s o cp vb vp vd n t) (hk : k < n) (hs : k < t.size) (ho : o + k < D.C.length) :
  Calls Tryz.prog 113 #[.int .i64 (k : Int), .pointer (some ⟨vb, 0, none⟩), .pointer (some ⟨vp, 0, none⟩)] w fun e w' => e = .returned (.tuple #[]) ∧ Dev w' s { D with C := D.C.set (o + k) (fP t.data.toList k D.C[o + k]) } ∧ Onl s.S w w' := by
 have hb := hv.b
 have hp := hv.p
 have hc := h.cc (o + k) ho
 have e1 : (k : Int) < n := by omega
 have e2 : (k : Int) < t.size := by omega
 have et : t.data.toList.getD k 0 = t[k] := by
  rw [List.getD_eq_getElem?_getD, List.getElem?_eq_getElem (by rw [zak]; exact hs)]; rfl
 rw [show fP t.data.toList k D.C[o + k] = D.C[o + k] &&& t[k] by rw [fP, et]]
 obtain ⟨x, hx⟩ : ∃ x, D.C[o + k] = x := ⟨_, rfl⟩
 rw [hx] at hc ⊢
 have hor := zbgq x t[k]
 have R0 : Hid (Row w.drew s.o1 5 (bytes D.C ++ s.z1)) := zh h.c.drew
 have HL : Hid (o + k < (bytes D.C ++ s.z1).length) := zh (by rw [List.length_append, zaa]; omega)
 have HD : Hid (Dev w.drew s D) := zh (h.step ((zb).drew))
 have HO : Hid (Onl s.S w w.drew) := zh (Onl.of_below ((zb).drew))
 have HK := zh ho
 clear h hv ho hx et
 go_enter Tryz.func113, Tryz.ntmps113
 go_wp2
 go_still_tail 9, (by kernel_rfl)
 change wpList _ _ _ _ _ w.drew
 generalize w.drew = wq at *
 go_wp2_with ((with_reducible refine R0.out.wpStore1K (o + k) 5 (.int .u8 ((x &&& t[k]).toNat : Int)) zez HL.out (zbw _ _) (zcs _ _) ?_ ?_); rfl; intro w1 r1 o1 s1; have D1 := zh (HD.out.setC (o + k) (x &&& t[k]) HK.out r1 o1); have O1 := zh (HO.out.trans (Onl.of_only o1 s.o1_mem)); clear r1 o1 s1)
 go_end0
 exact ⟨rfl, D1.out, O1.out⟩
theorem zbft (s : Sh) (D : Dv) (o cp vb vp vd n : Nat) (t : ByteArray) (k : Nat) (w : World) (h : Dev w s D) (hv : CapP w s o cp vb vp vd n t) (hk : k < n) (hs : k < t.size) (ho : o + k < D.C.length) :
  Calls Tryz.prog 114 #[.int .i64 (k : Int), .pointer (some ⟨vb, 0, none⟩), .pointer (some ⟨vp, 0, none⟩), .pointer (some ⟨vd, 0, none⟩)] w fun e w' => e = .returned (.tuple #[]) ∧ Dev w' s { D with C := D.C.set (o + k) (gP t.data.toList D.fm k D.C[o + k]) } ∧ Onl s.S w w' := by
 have hb := hv.b
 have hp := hv.p
 have hd := hv.d
 have h1 := h.c1
 have hc := h.cc (o + k) ho
 have e1 : (k : Int) < n := by omega
 have e2 : (k : Int) < t.size := by omega
 have et : t.data.toList.getD k 0 = t[k] := by
  rw [List.getD_eq_getElem?_getD, List.getElem?_eq_getElem (by rw [zak]; exact hs)]; rfl
 rw [show gP t.data.toList D.fm k D.C[o + k] = D.C[o + k] &&& (t[k] ||| D.fm) by rw [gP, et]]
 obtain ⟨x, hx⟩ : ∃ x, D.C[o + k] = x := ⟨_, rfl⟩
 obtain ⟨m, hm⟩ : ∃ m, D.fm = m := ⟨_, rfl⟩
 rw [hx] at hc ⊢
 rw [hm] at h1
 rw [show x &&& (t[k] ||| D.fm) = x &&& (t[k] ||| m) by rw [hm]]
 have hor := zbld t[k] m
 have han := zbgq x (t[k] ||| m)
 have han2 : bits .and .u8 (x.toNat : Int) ((t[k].toNat ||| m.toNat : Nat) : Int) = ((x &&& (t[k] ||| m)).toNat : Int) := by rw [<- UInt8.toNat_or]; exact han
 obtain ⟨z, hz⟩ : ∃ z, x &&& (t[k] ||| m) = z := ⟨_, rfl⟩
 rw [hz] at han han2 ⊢
 have R0 : Hid (Row w.drew s.o1 5 (bytes D.C ++ s.z1)) := zh h.c.drew
 have HL : Hid (o + k < (bytes D.C ++ s.z1).length) := zh (by rw [List.length_append, zaa]; omega)
 have HD : Hid (Dev w.drew s D) := zh (h.step ((zb).drew))
 have HO : Hid (Onl s.S w w.drew) := zh (Onl.of_below ((zb).drew))
 have HK := zh ho
 clear h hv ho hx et hm hz
 go_enter Tryz.func114, Tryz.ntmps114
 go_wp2
 go_still_tail 16, (by kernel_rfl)
 change wpList _ _ _ _ _ w.drew
 generalize w.drew = wq at *
 go_wp2_with ((with_reducible refine R0.out.wpStore1K (o + k) 5 (.int .u8 (z.toNat : Int)) zez HL.out (zbw _ _) (zcs _ _) ?_ ?_); rfl; intro w1 r1 o1 s1; have D1 := zh (HD.out.setC (o + k) z HK.out r1 o1); have O1 := zh (HO.out.trans (Onl.of_only o1 s.o1_mem)); clear r1 o1 s1)
 go_end0
 exact ⟨rfl, D1.out, O1.out⟩
def workD (D : Dv) (o n : Nat) (f g : Nat -> UInt8 -> UInt8) : Dv :=
 { burned D with ops := wrap64 (D.ops + 1), dn := burnB D, C := FlaMath.work D.C o n (if burnB D then reach D.fb n else n) f g }
theorem ziw (D : Dv) : (burned D).C = D.C := by unfold burned; split <;> rfl
theorem zhm (D : Dv) : (burned D).fm = D.fm := by unfold burned; split <;> rfl
theorem zhl (D : Dv) : (burned D).fb = D.fb := by unfold burned; split <;> rfl
theorem zrg (D : Dv) : (burned D).dn = D.dn := by unfold burned; split <;> rfl
theorem zbhi (D : Dv) : (burned D).L = D.L := by unfold burned; split <;> rfl
theorem zgc (D : Dv) (p : Int) : burned { D with ops := p } = { burned D with ops := p } := by unfold burned; cases h : D.lit <;> simp [h]
theorem zyj (s : Sh) (D : Dv) (o n cp vb vd : Nat) (w : World) (h : Dev w s D) (hv : CapE w s o n cp vb vd) (ho : o + n <= D.C.length) (hn : n <= 1000) (hB : burnB D = false) (hdn : D.dn = false) :
  Calls Tryz.prog 84 #[.pointer (some ⟨s.b, 0, none⟩), .int .i64 (n : Int), .func (.func 85) #[] #[.pointer (some ⟨vb, 0, none⟩)], .func (.func 86) #[] #[.pointer (some ⟨vb, 0, none⟩), .pointer (some ⟨vd, 0, none⟩)]] w
   fun e w' => e = .returned (.int .i64 (idl false)) ∧ Dev w' s (workD D o n fE (gE D.fm)) ∧ Onl s.S w w' := by
 obtain ⟨p, hp⟩ : ∃ p, wrap64 (D.ops + 1) = p := ⟨_, rfl⟩
 have h7 := h.c7
 have R0 : Hid (Row w s.b 110 (devL s D)) := zh h.row
 have HL : Hid (7 < (devL s D).length) := zh (by rw [zby]; decide)
 have HL8 : Hid (∀ D', 8 < (devL s D').length) := zh fun D' => by rw [zby]; decide
 have HD := zh h
 have HE : Hid ((devL s D).set 7 (.int .i64 p) = devL s { D with ops := p }) := zh rfl
 obtain ⟨D2, hD2⟩ : ∃ D2, D2 = burned { D with ops := p } := ⟨_, rfl⟩
 have HBU : Hid (∀ w1, Dev w1 s { D with ops := p } -> Calls Tryz.prog 121 #[.pointer (some ⟨s.b, 0, none⟩)] w1 fun e w' => e = .returned (.bool false) ∧ Dev w' s D2 ∧ Onl s.S w1 w') := zh fun w1 h1 => by
  have := ziv s _ w1 h1
  rw [<- hD2, show burnB { D with ops := p } = false from hB] at this
  exact this
 obtain ⟨D3, hD3⟩ : ∃ D3, D3 = { D2 with dn := false } := ⟨_, rfl⟩
 have h3C : D3.C = D.C := by rw [hD3, hD2]; exact ziw _
 have h2fb : D2.fb = D.fb := by rw [hD2]; exact zhl _
 have h3fm : D3.fm = D.fm := by rw [hD3, hD2]; exact zhm _
 have h3dn : D3.dn = false := by rw [hD3]
 have HD23 : Hid (D2 = D3) := zh (by
   rw [hD3]; have : D2.dn = false := by rw [hD2, zrg]; exact hdn
   cases D2; simp_all)
 obtain ⟨r, hr⟩ : ∃ r, (if burnB D then reach D.fb n else n) = r := ⟨_, rfl⟩
 have hrn : r = n := by rw [hB, if_neg (by simp)] at hr; exact hr.symm
 have hrle : r <= n := by omega
 have HF : Hid (∀ C, C = FlaMath.work D.C o n r fE (gE D.fm) -> { D3 with C := C } = workD D o n fE (gE D.fm)) := zh fun C hC => by
  rw [hC, hD3, hD2, zgc, hp.symm, workD, hr, hB]
 have HOC : Hid (∀ wx, Onl s.S w wx -> CapE wx s o n cp vb vd) := zh fun wx hx => hv.onl hx
 have H1 : Hid (∀ wx k, Dev wx s { D3 with C := prog D.C o k fE } -> Onl s.S w wx -> k < n -> Calls Tryz.prog 85 #[.int .i64 (k : Int), .pointer (some ⟨vb, 0, none⟩)] wx fun e w' => e = .returned (.tuple #[]) ∧ Dev w' s { D3 with C := prog D.C o (k + 1) fE } ∧ Onl s.S wx w') := zh fun wx k h1 h2 h3 => by
  have hlt : o + k < D.C.length := by omega
  have hc : o + k < ({ D3 with C := prog D.C o k fE } : Dv).C.length := by show _ < (prog _ _ _ _).length; rw [zbs]; exact hlt
  have := zoq s _ o n cp vb vd k wx h1 (HOC.out wx h2) h3 hc
  have e : ({ D3 with C := prog D.C o k fE } : Dv).C.set (o + k) (fE k ({ D3 with C := prog D.C o k fE } : Dv).C[o + k]) = prog D.C o (k + 1) fE := by
   show (prog D.C o k fE).set (o + k) (fE k ((prog D.C o k fE)[o + k])) = _
   rw [zgo D.C o k _ hlt]; exact zhq D.C o k _ hlt
  rw [e] at this
  exact this
 have HID : Hid (∀ wx Dx, Dev wx s Dx -> Dx.dn = false -> Calls Tryz.prog 81 #[.pointer (some ⟨s.b, 0, none⟩)] wx fun e w' => e = .returned (.int .i64 (idl false)) ∧ wx = w') := zh fun wx Dx h1 h2 => by
  have := zbz s Dx wx h1; rwa [h2] at this
 have HW : Hid ((workD D o n fE (gE D.fm)).dn = false) := zh hB
 have H3 : Hid (∀ wx, Dev wx s { D3 with C := prog D.C o n fE } -> r = n -> Dev wx s (workD D o n fE (gE D.fm))) := zh fun wx h1 hq => by
  rw [<- HF.out _ rfl, FlaMath.work, if_neg (by omega), hq]; exact h1
 have H0 : Hid (Dev w s D -> ∀ wx, Dev wx s D3 -> Dev wx s { D3 with C := prog D.C o 0 fE }) := zh fun _ wx h1 => by rw [zhr, <- h3C]; exact h1
 have HR := zh hrle
 have HHV := zh hv
 have hrI : (r : Int) <= n := by omega
 have hrM : (r : Int) <= 1000 := by omega
 subst hrn
 clear h hv ho hn hB hdn hD2 hD3 h3C h2fb h3fm h3dn hr hrle
 go_enter Tryz.func84, Tryz.ntmps84
 go_wp2_with (first
  | ((with_reducible refine R0.out.wpStore1K 7 3 (.int .i64 p) zcx HL.out (zbw _ _) (zcs _ _) ?_ ?_); (simp only [storeOf, Act.eval]; exact congrArg (fun z => some (_, _, Value.int .i64 z)) hp); intro w1 r1 o1 s1; have D1 := zh (HD.out.put { D with ops := p } (by rw [<- HE.out]; exact r1) o1 rfl rfl rfl); have O1 := zh (Onl.of_only o1 s.b_mem); clear r1 o1 s1)
  | (go_at_call 121; (with_reducible refine (HBU.out w1 D1.out).mono ?_); rintro e w2 ⟨rfl, d2, o2⟩; have D2' := zh d2; have R2 := zh d2.row; have O2 := zh (O1.out.trans o2); clear d2 o2)
  )
 go_loopw [34] (fun x wr => ∃ k : Nat, k <= r ∧ x = .int .i64 k ∧ Dev wr s { D3 with C := prog D.C o k fE } ∧ Onl s.S w wr) (fun x _ => r - (intOf x).toNat)
 case atStart => exact ⟨0, Nat.zero_le _, rfl, H0.out HD.out _ (by rw [<- HD23.out]; exact D2'.out), O2.out⟩
 case round =>
  obtain ⟨k, hk, rfl, hd, hoo⟩ := hrel
  by_cases hlt : k < r
  .have e1 : (k : Int) < r := by omega
   have ew : wrap64 ((k : Int) + 1) = (k : Int) + 1 := by unfold wrap64; omega
   have HC := zh (H1.out wr k hd hoo (by have := HR.out; omega))
   have HO := zh hoo; clear hd hoo
   go_wp2_with (go_at_call 85; (with_reducible refine HC.out.mono ?_); rintro e w5 ⟨rfl, d5, o5⟩; have D5 := zh d5; have O5 := zh (HO.out.trans o5); clear d5 o5)
   go_roundw
   case rel => exact ⟨k + 1, by omega, by go_num, D5.out, O5.out⟩
   case measure => simp [intOf]; omega
  .have ek : k = r := by omega
   subst ek
   have D5 : Hid (Dev wr s (workD D o k fE (gE D.fm))) := zh (H3.out wr hd (by simp))
   have HI5 := zh (HID.out wr _ D5.out HW.out); have HO := zh hoo; clear hd hoo
   go_wp2_with (go_at_call 81; (with_reducible refine HI5.out.mono ?_); rintro e w6 ⟨rfl, rfl⟩)
   go_ret; exact ⟨rfl, D5.out, HO.out⟩
theorem zbcj (s : Sh) (D : Dv) (o n cp vb vd : Nat) (w : World) (h : Dev w s D) (hv : CapE w s o n cp vb vd) (ho : o + n <= D.C.length) (hn : n <= 1000) (hB : burnB D = true) (hdn : D.dn = false) :
  Calls Tryz.prog 84 #[.pointer (some ⟨s.b, 0, none⟩), .int .i64 (n : Int), .func (.func 85) #[] #[.pointer (some ⟨vb, 0, none⟩)], .func (.func 86) #[] #[.pointer (some ⟨vb, 0, none⟩), .pointer (some ⟨vd, 0, none⟩)]] w
   fun e w' => e = .returned (.int .i64 (idl true)) ∧ Dev w' s (workD D o n fE (gE D.fm)) ∧ Onl s.S w w' := by
 obtain ⟨p, hp⟩ : ∃ p, wrap64 (D.ops + 1) = p := ⟨_, rfl⟩
 have h7 := h.c7
 have R0 : Hid (Row w s.b 110 (devL s D)) := zh h.row
 have HL : Hid (7 < (devL s D).length) := zh (by rw [zby]; decide)
 have HL8 : Hid (∀ D', 8 < (devL s D').length) := zh fun D' => by rw [zby]; decide
 have HD := zh h
 have HE : Hid ((devL s D).set 7 (.int .i64 p) = devL s { D with ops := p }) := zh rfl
 obtain ⟨D2, hD2⟩ : ∃ D2, D2 = burned { D with ops := p } := ⟨_, rfl⟩
 have HBU : Hid (∀ w1, Dev w1 s { D with ops := p } -> Calls Tryz.prog 121 #[.pointer (some ⟨s.b, 0, none⟩)] w1 fun e w' => e = .returned (.bool true) ∧ Dev w' s D2 ∧ Onl s.S w1 w') := zh fun w1 h1 => by
  have := ziv s _ w1 h1
  rw [<- hD2, show burnB { D with ops := p } = true from hB] at this
  exact this
 obtain ⟨D3, hD3⟩ : ∃ D3, D3 = { D2 with dn := true } := ⟨_, rfl⟩
 have h3C : D3.C = D.C := by rw [hD3, hD2]; exact ziw _
 have h2fb : D2.fb = D.fb := by rw [hD2]; exact zhl _
 have h3fm : D3.fm = D.fm := by rw [hD3, hD2]; exact zhm _
 have h3dn : D3.dn = true := by rw [hD3]
 have HD23 : Hid ({ D2 with dn := true } = D3) := zh hD3.symm
 obtain ⟨r, hr⟩ : ∃ r, (if burnB D then reach D.fb n else n) = r := ⟨_, rfl⟩
 have hrr : reach D.fb n = r := by rw [hB, if_pos rfl] at hr; exact hr
 have hrle : r <= n := by rw [<- hrr]; exact znu _ _
 have HF : Hid (∀ C, C = FlaMath.work D.C o n r fE (gE D.fm) -> { D3 with C := C } = workD D o n fE (gE D.fm)) := zh fun C hC => by
  rw [hC, hD3, hD2, zgc, hp.symm, workD, hr, hB]
 have HE8 : Hid (∀ w3, Row w3 s.b 110 ((devL s D2).set 8 (.bool true)) -> Row w3 s.b 110 (devL s { D2 with dn := true })) := zh fun w3 h3 => h3
 have HE9 : Hid (∀ w3, Row w3 s.b 110 ((devL s D2).set 8 (.bool true)) -> Row w3 s.b 110 ([] ++ [Value.int .i64 D2.fb, .int .u8 (D2.fm.toNat : Int)] ++ (devL s { D2 with dn := true }).drop 2)) := zh fun w3 h3 => h3
 have HRE : Hid (∀ w1, Calls Tryz.prog 122 #[.agg #[.int .i64 D2.fb, .int .u8 (D2.fm.toNat : Int)], .int .i64 (n : Int)] w1 fun e w' => e = .returned (.int .i64 (r : Int)) ∧ Below w1.heap.size w1 w') := zh fun w1 => by
  have := zry D2.fb (D2.fm.toNat : Int) n w1 hn
  have e : reach D2.fb n = r := by rw [h2fb]; exact hrr
  rw [e] at this
  exact this
 have HOC : Hid (∀ wx, Onl s.S w wx -> CapE wx s o n cp vb vd) := zh fun wx hx => hv.onl hx
 have H1 : Hid (∀ wx k, Dev wx s { D3 with C := prog D.C o k fE } -> Onl s.S w wx -> k < n -> Calls Tryz.prog 85 #[.int .i64 (k : Int), .pointer (some ⟨vb, 0, none⟩)] wx fun e w' => e = .returned (.tuple #[]) ∧ Dev w' s { D3 with C := prog D.C o (k + 1) fE } ∧ Onl s.S wx w') := zh fun wx k h1 h2 h3 => by
  have hlt : o + k < D.C.length := by omega
  have hc : o + k < ({ D3 with C := prog D.C o k fE } : Dv).C.length := by show _ < (prog _ _ _ _).length; rw [zbs]; exact hlt
  have := zoq s _ o n cp vb vd k wx h1 (HOC.out wx h2) h3 hc
  have e : ({ D3 with C := prog D.C o k fE } : Dv).C.set (o + k) (fE k ({ D3 with C := prog D.C o k fE } : Dv).C[o + k]) = prog D.C o (k + 1) fE := by
   show (prog D.C o k fE).set (o + k) (fE k ((prog D.C o k fE)[o + k])) = _
   rw [zgo D.C o k _ hlt]; exact zhq D.C o k _ hlt
  rw [e] at this
  exact this
 have H2 : Hid (∀ wx, Dev wx s { D3 with C := prog D.C o r fE } -> Onl s.S w wx -> r < n -> Calls Tryz.prog 86 #[.int .i64 (r : Int), .pointer (some ⟨vb, 0, none⟩), .pointer (some ⟨vd, 0, none⟩)] wx fun e w' => e = .returned (.tuple #[]) ∧ Dev w' s (workD D o n fE (gE D.fm)) ∧ Onl s.S wx w') := zh fun wx h1 h2 h3 => by
  have hlt : o + r < D.C.length := by omega
  have hc : o + r < ({ D3 with C := prog D.C o r fE } : Dv).C.length := by show _ < (prog _ _ _ _).length; rw [zbs]; exact hlt
  have := zbak s _ o n cp vb vd r wx h1 (HOC.out wx h2) h3 hc
  have e : ({ D3 with C := prog D.C o r fE } : Dv).C.set (o + r) (gE D3.fm r ({ D3 with C := prog D.C o r fE } : Dv).C[o + r]) = FlaMath.work D.C o n r fE (gE D.fm) := by
   show (prog D.C o r fE).set (o + r) (gE D3.fm r ((prog D.C o r fE)[o + r])) = _
   rw [zgo D.C o r _ hlt, FlaMath.work, if_pos h3, h3fm, List.getD_eq_getElem?_getD, List.getElem?_eq_getElem hlt]; rfl
  rw [e] at this
  refine this.mono ?_
  rintro e w' ⟨rfl, d, o⟩
  exact ⟨rfl, by rw [<- HF.out _ rfl]; exact d, o⟩
 have HID : Hid (∀ wx Dx, Dev wx s Dx -> Dx.dn = true -> Calls Tryz.prog 81 #[.pointer (some ⟨s.b, 0, none⟩)] wx fun e w' => e = .returned (.int .i64 (idl true)) ∧ wx = w') := zh fun wx Dx h1 h2 => by
  have := zbz s Dx wx h1; rwa [h2] at this
 have HW : Hid ((workD D o n fE (gE D.fm)).dn = true) := zh hB
 have H3 : Hid (∀ wx, Dev wx s { D3 with C := prog D.C o n fE } -> r = n -> Dev wx s (workD D o n fE (gE D.fm))) := zh fun wx h1 hq => by
  rw [<- HF.out _ rfl, FlaMath.work, if_neg (by omega), hq]; exact h1
 have H0 : Hid (Dev w s D -> ∀ wx, Dev wx s D3 -> Dev wx s { D3 with C := prog D.C o 0 fE }) := zh fun _ wx h1 => by rw [zhr, <- h3C]; exact h1
 have HR := zh hrle
 have HHV := zh hv
 have hrI : (r : Int) <= n := by omega
 have hrM : (r : Int) <= 1000 := by omega
 clear h hv ho hn hB hdn hD2 hD3 h3C h2fb h3fm h3dn hr hrle
 go_enter Tryz.func84, Tryz.ntmps84
 go_wp2_with (first
  | ((with_reducible refine R0.out.wpStore1K 7 3 (.int .i64 p) zcx HL.out (zbw _ _) (zcs _ _) ?_ ?_); (simp only [storeOf, Act.eval]; exact congrArg (fun z => some (_, _, Value.int .i64 z)) hp); intro w1 r1 o1 s1; have D1 := zh (HD.out.put { D with ops := p } (by rw [<- HE.out]; exact r1) o1 rfl rfl rfl); have O1 := zh (Onl.of_only o1 s.b_mem); clear r1 o1 s1)
  | (go_at_call 121; (with_reducible refine (HBU.out w1 D1.out).mono ?_); rintro e w2 ⟨rfl, d2, o2⟩; have D2' := zh d2; have R2 := zh d2.row; have O2 := zh (O1.out.trans o2); clear d2 o2)
  | ((with_reducible refine R2.out.wpStore1K 8 4 (.bool true) ziz (HL8.out D2) (ziu _) (znf _) ?_ ?_); rfl; intro w3 r3 o3 s3; have D3' := zh (D2'.out.put { D2 with dn := true } (HE8.out w3 r3) o3 rfl rfl rfl); have R3 : Hid (Row w3 s.b 110 ([] ++ [Value.int .i64 D2.fb, .int .u8 (D2.fm.toNat : Int)] ++ (devL s { D2 with dn := true }).drop 2)) := zh (HE9.out w3 r3); have O3 := zh (O2.out.trans (Onl.of_only o3 s.b_mem)); clear r3 o3 s3)
  | ((with_reducible refine R3.out.wpLoadMidK 0 rfl 104 zrk rfl ?_ ?_); rfl)
  | (go_at_call 122; (with_reducible refine (HRE.out w3).mono ?_); rintro e w4 ⟨rfl, b4⟩; have D4 := zh (D3'.out.step b4); have O4 := zh (O3.out.step b4); clear b4)
  )
 go_loopw [34] (fun x wr => ∃ k : Nat, k <= r ∧ x = .int .i64 k ∧ Dev wr s { D3 with C := prog D.C o k fE } ∧ Onl s.S w wr) (fun x _ => r - (intOf x).toNat)
 case atStart => exact ⟨0, Nat.zero_le _, rfl, H0.out HD.out _ (by rw [<- HD23.out]; exact D4.out), O4.out⟩
 case round =>
  obtain ⟨k, hk, rfl, hd, hoo⟩ := hrel
  by_cases hlt : k < r
  .have e1 : (k : Int) < r := by omega
   have ew : wrap64 ((k : Int) + 1) = (k : Int) + 1 := by unfold wrap64; omega
   have HC := zh (H1.out wr k hd hoo (by have := HR.out; omega))
   have HO := zh hoo; clear hd hoo
   go_wp2_with (go_at_call 85; (with_reducible refine HC.out.mono ?_); rintro e w5 ⟨rfl, d5, o5⟩; have D5 := zh d5; have O5 := zh (HO.out.trans o5); clear d5 o5)
   go_roundw
   case rel => exact ⟨k + 1, by omega, by go_num, D5.out, O5.out⟩
   case measure => simp [intOf]; omega
  .have ek : k = r := by omega
   subst ek
   by_cases hkn : k < n
   .have e1 : (k : Int) < n := by omega
    have HC := zh (H2.out wr hd hoo hkn); have HO := zh hoo; clear hd hoo
    go_wp2_with (first
     | (go_at_call 86; (with_reducible refine HC.out.mono ?_); rintro e w5 ⟨rfl, d5, o5⟩; have D5 := zh d5; have O5 := zh (HO.out.trans o5); have HI5 := zh (HID.out w5 _ d5 HW.out); clear d5 o5)
     | (go_at_call 81; (with_reducible refine HI5.out.mono ?_); rintro e w6 ⟨rfl, rfl⟩))
    go_ret; exact ⟨rfl, D5.out, O5.out⟩
   .have ekn : k = n := by have := HR.out; omega
    have e2 : ¬ (k : Int) < n := by omega
    have D5 : Hid (Dev wr s (workD D o n fE (gE D.fm))) := zh (H3.out wr (by rw [<- ekn]; exact hd) ekn)
    have HI5 := zh (HID.out wr _ D5.out HW.out); have HO := zh hoo; clear hd hoo ekn
    go_wp2_with (go_at_call 81; (with_reducible refine HI5.out.mono ?_); rintro e w6 ⟨rfl, rfl⟩)
    go_ret; exact ⟨rfl, D5.out, HO.out⟩
theorem zbgu (s : Sh) (D : Dv) (o n cp vb vd : Nat) (w : World) (h : Dev w s D) (hv : CapE w s o n cp vb vd) (ho : o + n <= D.C.length) (hn : n <= 1000) (hdn : D.dn = false) :
  Calls Tryz.prog 84 #[.pointer (some ⟨s.b, 0, none⟩), .int .i64 (n : Int), .func (.func 85) #[] #[.pointer (some ⟨vb, 0, none⟩)], .func (.func 86) #[] #[.pointer (some ⟨vb, 0, none⟩), .pointer (some ⟨vd, 0, none⟩)]] w
   fun e w' => e = .returned (.int .i64 (idl (burnB D))) ∧ Dev w' s (workD D o n fE (gE D.fm)) ∧ Onl s.S w w' := by
 cases hB : burnB D with
 | false => exact zyj s D o n cp vb vd w h hv ho hn hB hdn
 | true => exact zbcj s D o n cp vb vd w h hv ho hn hB hdn
theorem zyk (s : Sh) (D : Dv) (o n cp vb vp vd q : Nat) (t : ByteArray) (w : World) (h : Dev w s D) (hv : CapP w s o cp vb vp vd q t) (ho : o + n <= D.C.length) (hn : n <= 1000) (ht : n <= t.size) (hq : n <= q) (hB : burnB D = false) (hdn : D.dn = false) :
  Calls Tryz.prog 84 #[.pointer (some ⟨s.b, 0, none⟩), .int .i64 (n : Int), .func (.func 113) #[] #[.pointer (some ⟨vb, 0, none⟩), .pointer (some ⟨vp, 0, none⟩)], .func (.func 114) #[] #[.pointer (some ⟨vb, 0, none⟩), .pointer (some ⟨vp, 0, none⟩), .pointer (some ⟨vd, 0, none⟩)]] w
   fun e w' => e = .returned (.int .i64 (idl false)) ∧ Dev w' s (workD D o n (fP t.data.toList) (gP t.data.toList D.fm)) ∧ Onl s.S w w' := by
 obtain ⟨p, hp⟩ : ∃ p, wrap64 (D.ops + 1) = p := ⟨_, rfl⟩
 have h7 := h.c7
 have R0 : Hid (Row w s.b 110 (devL s D)) := zh h.row
 have HL : Hid (7 < (devL s D).length) := zh (by rw [zby]; decide)
 have HL8 : Hid (∀ D', 8 < (devL s D').length) := zh fun D' => by rw [zby]; decide
 have HD := zh h
 have HE : Hid ((devL s D).set 7 (.int .i64 p) = devL s { D with ops := p }) := zh rfl
 obtain ⟨D2, hD2⟩ : ∃ D2, D2 = burned { D with ops := p } := ⟨_, rfl⟩
 have HBU : Hid (∀ w1, Dev w1 s { D with ops := p } -> Calls Tryz.prog 121 #[.pointer (some ⟨s.b, 0, none⟩)] w1 fun e w' => e = .returned (.bool false) ∧ Dev w' s D2 ∧ Onl s.S w1 w') := zh fun w1 h1 => by
  have := ziv s _ w1 h1
  rw [<- hD2, show burnB { D with ops := p } = false from hB] at this
  exact this
 obtain ⟨D3, hD3⟩ : ∃ D3, D3 = { D2 with dn := false } := ⟨_, rfl⟩
 have h3C : D3.C = D.C := by rw [hD3, hD2]; exact ziw _
 have h2fb : D2.fb = D.fb := by rw [hD2]; exact zhl _
 have h3fm : D3.fm = D.fm := by rw [hD3, hD2]; exact zhm _
 have h3dn : D3.dn = false := by rw [hD3]
 have HD23 : Hid (D2 = D3) := zh (by
   rw [hD3]; have : D2.dn = false := by rw [hD2, zrg]; exact hdn
   cases D2; simp_all)
 obtain ⟨r, hr⟩ : ∃ r, (if burnB D then reach D.fb n else n) = r := ⟨_, rfl⟩
 have hrn : r = n := by rw [hB, if_neg (by simp)] at hr; exact hr.symm
 have hrle : r <= n := by omega
 have HF : Hid (∀ C, C = FlaMath.work D.C o n r (fP t.data.toList) (gP t.data.toList D.fm) -> { D3 with C := C } = workD D o n (fP t.data.toList) (gP t.data.toList D.fm)) := zh fun C hC => by
  rw [hC, hD3, hD2, zgc, hp.symm, workD, hr, hB]
 have HOC : Hid (∀ wx, Onl s.S w wx -> CapP wx s o cp vb vp vd q t) := zh fun wx hx => hv.onl hx
 have H1 : Hid (∀ wx k, Dev wx s { D3 with C := prog D.C o k (fP t.data.toList) } -> Onl s.S w wx -> k < n -> Calls Tryz.prog 113 #[.int .i64 (k : Int), .pointer (some ⟨vb, 0, none⟩), .pointer (some ⟨vp, 0, none⟩)] wx fun e w' => e = .returned (.tuple #[]) ∧ Dev w' s { D3 with C := prog D.C o (k + 1) (fP t.data.toList) } ∧ Onl s.S wx w') := zh fun wx k h1 h2 h3 => by
  have hlt : o + k < D.C.length := by omega
  have hc : o + k < ({ D3 with C := prog D.C o k (fP t.data.toList) } : Dv).C.length := by show _ < (prog _ _ _ _).length; rw [zbs]; exact hlt
  have := zrv s _ o cp vb vp vd q t k wx h1 (HOC.out wx h2) (by omega) (by omega) hc
  have e : ({ D3 with C := prog D.C o k (fP t.data.toList) } : Dv).C.set (o + k) ((fP t.data.toList) k ({ D3 with C := prog D.C o k (fP t.data.toList) } : Dv).C[o + k]) = prog D.C o (k + 1) (fP t.data.toList) := by
   show (prog D.C o k (fP t.data.toList)).set (o + k) ((fP t.data.toList) k ((prog D.C o k (fP t.data.toList))[o + k])) = _
   rw [zgo D.C o k _ hlt]; exact zhq D.C o k _ hlt
  rw [e] at this
  exact this
 have HID : Hid (∀ wx Dx, Dev wx s Dx -> Dx.dn = false -> Calls Tryz.prog 81 #[.pointer (some ⟨s.b, 0, none⟩)] wx fun e w' => e = .returned (.int .i64 (idl false)) ∧ wx = w') := zh fun wx Dx h1 h2 => by
  have := zbz s Dx wx h1; rwa [h2] at this
 have HW : Hid ((workD D o n (fP t.data.toList) (gP t.data.toList D.fm)).dn = false) := zh hB
 have H3 : Hid (∀ wx, Dev wx s { D3 with C := prog D.C o n (fP t.data.toList) } -> r = n -> Dev wx s (workD D o n (fP t.data.toList) (gP t.data.toList D.fm))) := zh fun wx h1 hq => by
  rw [<- HF.out _ rfl, FlaMath.work, if_neg (by omega), hq]; exact h1
 have H0 : Hid (Dev w s D -> ∀ wx, Dev wx s D3 -> Dev wx s { D3 with C := prog D.C o 0 (fP t.data.toList) }) := zh fun _ wx h1 => by rw [zhr, <- h3C]; exact h1
 have HR := zh hrle
 have HHV := zh hv
 have hrI : (r : Int) <= n := by omega
 have hrM : (r : Int) <= 1000 := by omega
 subst hrn
 clear h hv ho hn hB hdn hD2 hD3 h3C h2fb h3fm h3dn hr hrle ht hq
 go_enter Tryz.func84, Tryz.ntmps84
 go_wp2_with (first
  | ((with_reducible refine R0.out.wpStore1K 7 3 (.int .i64 p) zcx HL.out (zbw _ _) (zcs _ _) ?_ ?_); (simp only [storeOf, Act.eval]; exact congrArg (fun z => some (_, _, Value.int .i64 z)) hp); intro w1 r1 o1 s1; have D1 := zh (HD.out.put { D with ops := p } (by rw [<- HE.out]; exact r1) o1 rfl rfl rfl); have O1 := zh (Onl.of_only o1 s.b_mem); clear r1 o1 s1)
  | (go_at_call 121; (with_reducible refine (HBU.out w1 D1.out).mono ?_); rintro e w2 ⟨rfl, d2, o2⟩; have D2' := zh d2; have R2 := zh d2.row; have O2 := zh (O1.out.trans o2); clear d2 o2)
  )
 go_loopw [34] (fun x wr => ∃ k : Nat, k <= r ∧ x = .int .i64 k ∧ Dev wr s { D3 with C := prog D.C o k (fP t.data.toList) } ∧ Onl s.S w wr) (fun x _ => r - (intOf x).toNat)
 case atStart => exact ⟨0, Nat.zero_le _, rfl, H0.out HD.out _ (by rw [<- HD23.out]; exact D2'.out), O2.out⟩
 case round =>
  obtain ⟨k, hk, rfl, hd, hoo⟩ := hrel
  by_cases hlt : k < r
  .have e1 : (k : Int) < r := by omega
   have ew : wrap64 ((k : Int) + 1) = (k : Int) + 1 := by unfold wrap64; omega
   have HC := zh (H1.out wr k hd hoo (by have := HR.out; omega))
   have HO := zh hoo; clear hd hoo
   go_wp2_with (go_at_call 113; (with_reducible refine HC.out.mono ?_); rintro e w5 ⟨rfl, d5, o5⟩; have D5 := zh d5; have O5 := zh (HO.out.trans o5); clear d5 o5)
   go_roundw
   case rel => exact ⟨k + 1, by omega, by go_num, D5.out, O5.out⟩
   case measure => simp [intOf]; omega
  .have ek : k = r := by omega
   subst ek
   have D5 : Hid (Dev wr s (workD D o k (fP t.data.toList) (gP t.data.toList D.fm))) := zh (H3.out wr hd (by simp))
   have HI5 := zh (HID.out wr _ D5.out HW.out); have HO := zh hoo; clear hd hoo
   go_wp2_with (go_at_call 81; (with_reducible refine HI5.out.mono ?_); rintro e w6 ⟨rfl, rfl⟩)
   go_ret; exact ⟨rfl, D5.out, HO.out⟩
theorem zbck (s : Sh) (D : Dv) (o n cp vb vp vd q : Nat) (t : ByteArray) (w : World) (h : Dev w s D) (hv : CapP w s o cp vb vp vd q t) (ho : o + n <= D.C.length) (hn : n <= 1000) (ht : n <= t.size) (hq : n <= q) (hB : burnB D = true) (hdn : D.dn = false) :
  Calls Tryz.prog 84 #[.pointer (some ⟨s.b, 0, none⟩), .int .i64 (n : Int), .func (.func 113) #[] #[.pointer (some ⟨vb, 0, none⟩), .pointer (some ⟨vp, 0, none⟩)], .func (.func 114) #[] #[.pointer (some ⟨vb, 0, none⟩), .pointer (some ⟨vp, 0, none⟩), .pointer (some ⟨vd, 0, none⟩)]] w
   fun e w' => e = .returned (.int .i64 (idl true)) ∧ Dev w' s (workD D o n (fP t.data.toList) (gP t.data.toList D.fm)) ∧ Onl s.S w w' := by
 obtain ⟨p, hp⟩ : ∃ p, wrap64 (D.ops + 1) = p := ⟨_, rfl⟩
 have h7 := h.c7
 have R0 : Hid (Row w s.b 110 (devL s D)) := zh h.row
 have HL : Hid (7 < (devL s D).length) := zh (by rw [zby]; decide)
 have HL8 : Hid (∀ D', 8 < (devL s D').length) := zh fun D' => by rw [zby]; decide
 have HD := zh h
 have HE : Hid ((devL s D).set 7 (.int .i64 p) = devL s { D with ops := p }) := zh rfl
 obtain ⟨D2, hD2⟩ : ∃ D2, D2 = burned { D with ops := p } := ⟨_, rfl⟩
 have HBU : Hid (∀ w1, Dev w1 s { D with ops := p } -> Calls Tryz.prog 121 #[.pointer (some ⟨s.b, 0, none⟩)] w1 fun e w' => e = .returned (.bool true) ∧ Dev w' s D2 ∧ Onl s.S w1 w') := zh fun w1 h1 => by
  have := ziv s _ w1 h1
  rw [<- hD2, show burnB { D with ops := p } = true from hB] at this
  exact this
 obtain ⟨D3, hD3⟩ : ∃ D3, D3 = { D2 with dn := true } := ⟨_, rfl⟩
 have h3C : D3.C = D.C := by rw [hD3, hD2]; exact ziw _
 have h2fb : D2.fb = D.fb := by rw [hD2]; exact zhl _
 have h3fm : D3.fm = D.fm := by rw [hD3, hD2]; exact zhm _
 have h3dn : D3.dn = true := by rw [hD3]
 have HD23 : Hid ({ D2 with dn := true } = D3) := zh hD3.symm
 obtain ⟨r, hr⟩ : ∃ r, (if burnB D then reach D.fb n else n) = r := ⟨_, rfl⟩
 have hrr : reach D.fb n = r := by rw [hB, if_pos rfl] at hr; exact hr
 have hrle : r <= n := by rw [<- hrr]; exact znu _ _
 have HF : Hid (∀ C, C = FlaMath.work D.C o n r (fP t.data.toList) (gP t.data.toList D.fm) -> { D3 with C := C } = workD D o n (fP t.data.toList) (gP t.data.toList D.fm)) := zh fun C hC => by
  rw [hC, hD3, hD2, zgc, hp.symm, workD, hr, hB]
 have HE8 : Hid (∀ w3, Row w3 s.b 110 ((devL s D2).set 8 (.bool true)) -> Row w3 s.b 110 (devL s { D2 with dn := true })) := zh fun w3 h3 => h3
 have HE9 : Hid (∀ w3, Row w3 s.b 110 ((devL s D2).set 8 (.bool true)) -> Row w3 s.b 110 ([] ++ [Value.int .i64 D2.fb, .int .u8 (D2.fm.toNat : Int)] ++ (devL s { D2 with dn := true }).drop 2)) := zh fun w3 h3 => h3
 have HRE : Hid (∀ w1, Calls Tryz.prog 122 #[.agg #[.int .i64 D2.fb, .int .u8 (D2.fm.toNat : Int)], .int .i64 (n : Int)] w1 fun e w' => e = .returned (.int .i64 (r : Int)) ∧ Below w1.heap.size w1 w') := zh fun w1 => by
  have := zry D2.fb (D2.fm.toNat : Int) n w1 hn
  have e : reach D2.fb n = r := by rw [h2fb]; exact hrr
  rw [e] at this
  exact this
 have HOC : Hid (∀ wx, Onl s.S w wx -> CapP wx s o cp vb vp vd q t) := zh fun wx hx => hv.onl hx
 have H1 : Hid (∀ wx k, Dev wx s { D3 with C := prog D.C o k (fP t.data.toList) } -> Onl s.S w wx -> k < n -> Calls Tryz.prog 113 #[.int .i64 (k : Int), .pointer (some ⟨vb, 0, none⟩), .pointer (some ⟨vp, 0, none⟩)] wx fun e w' => e = .returned (.tuple #[]) ∧ Dev w' s { D3 with C := prog D.C o (k + 1) (fP t.data.toList) } ∧ Onl s.S wx w') := zh fun wx k h1 h2 h3 => by
  have hlt : o + k < D.C.length := by omega
  have hc : o + k < ({ D3 with C := prog D.C o k (fP t.data.toList) } : Dv).C.length := by show _ < (prog _ _ _ _).length; rw [zbs]; exact hlt
  have := zrv s _ o cp vb vp vd q t k wx h1 (HOC.out wx h2) (by omega) (by omega) hc
  have e : ({ D3 with C := prog D.C o k (fP t.data.toList) } : Dv).C.set (o + k) ((fP t.data.toList) k ({ D3 with C := prog D.C o k (fP t.data.toList) } : Dv).C[o + k]) = prog D.C o (k + 1) (fP t.data.toList) := by
   show (prog D.C o k (fP t.data.toList)).set (o + k) ((fP t.data.toList) k ((prog D.C o k (fP t.data.toList))[o + k])) = _
   rw [zgo D.C o k _ hlt]; exact zhq D.C o k _ hlt
  rw [e] at this
  exact this
 have H2 : Hid (∀ wx, Dev wx s { D3 with C := prog D.C o r (fP t.data.toList) } -> Onl s.S w wx -> r < n -> Calls Tryz.prog 114 #[.int .i64 (r : Int), .pointer (some ⟨vb, 0, none⟩), .pointer (some ⟨vp, 0, none⟩), .pointer (some ⟨vd, 0, none⟩)] wx fun e w' => e = .returned (.tuple #[]) ∧ Dev w' s (workD D o n (fP t.data.toList) (gP t.data.toList D.fm)) ∧ Onl s.S wx w') := zh fun wx h1 h2 h3 => by
  have hlt : o + r < D.C.length := by omega
  have hc : o + r < ({ D3 with C := prog D.C o r (fP t.data.toList) } : Dv).C.length := by show _ < (prog _ _ _ _).length; rw [zbs]; exact hlt
  have := zbft s _ o cp vb vp vd q t r wx h1 (HOC.out wx h2) (by omega) (by omega) hc
  have e : ({ D3 with C := prog D.C o r (fP t.data.toList) } : Dv).C.set (o + r) (gP t.data.toList D3.fm r ({ D3 with C := prog D.C o r (fP t.data.toList) } : Dv).C[o + r]) = FlaMath.work D.C o n r (fP t.data.toList) (gP t.data.toList D.fm) := by
   show (prog D.C o r (fP t.data.toList)).set (o + r) (gP t.data.toList D3.fm r ((prog D.C o r (fP t.data.toList))[o + r])) = _
   rw [zgo D.C o r _ hlt, FlaMath.work, if_pos h3, h3fm, List.getD_eq_getElem?_getD, List.getElem?_eq_getElem hlt]; rfl
  rw [e] at this
  refine this.mono ?_
  rintro e w' ⟨rfl, d, o⟩
  exact ⟨rfl, by rw [<- HF.out _ rfl]; exact d, o⟩
 have HID : Hid (∀ wx Dx, Dev wx s Dx -> Dx.dn = true -> Calls Tryz.prog 81 #[.pointer (some ⟨s.b, 0, none⟩)] wx fun e w' => e = .returned (.int .i64 (idl true)) ∧ wx = w') := zh fun wx Dx h1 h2 => by
  have := zbz s Dx wx h1; rwa [h2] at this
 have HW : Hid ((workD D o n (fP t.data.toList) (gP t.data.toList D.fm)).dn = true) := zh hB
 have H3 : Hid (∀ wx, Dev wx s { D3 with C := prog D.C o n (fP t.data.toList) } -> r = n -> Dev wx s (workD D o n (fP t.data.toList) (gP t.data.toList D.fm))) := zh fun wx h1 hq => by
  rw [<- HF.out _ rfl, FlaMath.work, if_neg (by omega), hq]; exact h1
 have H0 : Hid (Dev w s D -> ∀ wx, Dev wx s D3 -> Dev wx s { D3 with C := prog D.C o 0 (fP t.data.toList) }) := zh fun _ wx h1 => by rw [zhr, <- h3C]; exact h1
 have HR := zh hrle
 have HHV := zh hv
 have hrI : (r : Int) <= n := by omega
 have hrM : (r : Int) <= 1000 := by omega
 clear h hv ho hn hB hdn hD2 hD3 h3C h2fb h3fm h3dn hr hrle ht hq
 go_enter Tryz.func84, Tryz.ntmps84
 go_wp2_with (first
  | ((with_reducible refine R0.out.wpStore1K 7 3 (.int .i64 p) zcx HL.out (zbw _ _) (zcs _ _) ?_ ?_); (simp only [storeOf, Act.eval]; exact congrArg (fun z => some (_, _, Value.int .i64 z)) hp); intro w1 r1 o1 s1; have D1 := zh (HD.out.put { D with ops := p } (by rw [<- HE.out]; exact r1) o1 rfl rfl rfl); have O1 := zh (Onl.of_only o1 s.b_mem); clear r1 o1 s1)
  | (go_at_call 121; (with_reducible refine (HBU.out w1 D1.out).mono ?_); rintro e w2 ⟨rfl, d2, o2⟩; have D2' := zh d2; have R2 := zh d2.row; have O2 := zh (O1.out.trans o2); clear d2 o2)
  | ((with_reducible refine R2.out.wpStore1K 8 4 (.bool true) ziz (HL8.out D2) (ziu _) (znf _) ?_ ?_); rfl; intro w3 r3 o3 s3; have D3' := zh (D2'.out.put { D2 with dn := true } (HE8.out w3 r3) o3 rfl rfl rfl); have R3 : Hid (Row w3 s.b 110 ([] ++ [Value.int .i64 D2.fb, .int .u8 (D2.fm.toNat : Int)] ++ (devL s { D2 with dn := true }).drop 2)) := zh (HE9.out w3 r3); have O3 := zh (O2.out.trans (Onl.of_only o3 s.b_mem)); clear r3 o3 s3)
  | ((with_reducible refine R3.out.wpLoadMidK 0 rfl 104 zrk rfl ?_ ?_); rfl)
  | (go_at_call 122; (with_reducible refine (HRE.out w3).mono ?_); rintro e w4 ⟨rfl, b4⟩; have D4 := zh (D3'.out.step b4); have O4 := zh (O3.out.step b4); clear b4)
  )
 go_loopw [34] (fun x wr => ∃ k : Nat, k <= r ∧ x = .int .i64 k ∧ Dev wr s { D3 with C := prog D.C o k (fP t.data.toList) } ∧ Onl s.S w wr) (fun x _ => r - (intOf x).toNat)
 case atStart => exact ⟨0, Nat.zero_le _, rfl, H0.out HD.out _ (by rw [<- HD23.out]; exact D4.out), O4.out⟩
 case round =>
  obtain ⟨k, hk, rfl, hd, hoo⟩ := hrel
  by_cases hlt : k < r
  .have e1 : (k : Int) < r := by omega
   have ew : wrap64 ((k : Int) + 1) = (k : Int) + 1 := by unfold wrap64; omega
   have HC := zh (H1.out wr k hd hoo (by have := HR.out; omega))
   have HO := zh hoo; clear hd hoo
   go_wp2_with (go_at_call 113; (with_reducible refine HC.out.mono ?_); rintro e w5 ⟨rfl, d5, o5⟩; have D5 := zh d5; have O5 := zh (HO.out.trans o5); clear d5 o5)
   go_roundw
   case rel => exact ⟨k + 1, by omega, by go_num, D5.out, O5.out⟩
   case measure => simp [intOf]; omega
  .have ek : k = r := by omega
   subst ek
   by_cases hkn : k < n
   .have e1 : (k : Int) < n := by omega
    have HC := zh (H2.out wr hd hoo hkn); have HO := zh hoo; clear hd hoo
    go_wp2_with (first
     | (go_at_call 114; (with_reducible refine HC.out.mono ?_); rintro e w5 ⟨rfl, d5, o5⟩; have D5 := zh d5; have O5 := zh (HO.out.trans o5); have HI5 := zh (HID.out w5 _ d5 HW.out); clear d5 o5)
     | (go_at_call 81; (with_reducible refine HI5.out.mono ?_); rintro e w6 ⟨rfl, rfl⟩))
    go_ret; exact ⟨rfl, D5.out, O5.out⟩
   .have ekn : k = n := by have := HR.out; omega
    have e2 : ¬ (k : Int) < n := by omega
    have D5 : Hid (Dev wr s (workD D o n (fP t.data.toList) (gP t.data.toList D.fm))) := zh (H3.out wr (by rw [<- ekn]; exact hd) ekn)
    have HI5 := zh (HID.out wr _ D5.out HW.out); have HO := zh hoo; clear hd hoo ekn
    go_wp2_with (go_at_call 81; (with_reducible refine HI5.out.mono ?_); rintro e w6 ⟨rfl, rfl⟩)
    go_ret; exact ⟨rfl, D5.out, HO.out⟩
theorem zbgv (s : Sh) (D : Dv) (o n cp vb vp vd q : Nat) (t : ByteArray) (w : World) (h : Dev w s D) (hv : CapP w s o cp vb vp vd q t) (ho : o + n <= D.C.length) (hn : n <= 1000) (ht : n <= t.size) (hq : n <= q) (hdn : D.dn = false) :
  Calls Tryz.prog 84 #[.pointer (some ⟨s.b, 0, none⟩), .int .i64 (n : Int), .func (.func 113) #[] #[.pointer (some ⟨vb, 0, none⟩), .pointer (some ⟨vp, 0, none⟩)], .func (.func 114) #[] #[.pointer (some ⟨vb, 0, none⟩), .pointer (some ⟨vp, 0, none⟩), .pointer (some ⟨vd, 0, none⟩)]] w
   fun e w' => e = .returned (.int .i64 (idl (burnB D))) ∧ Dev w' s (workD D o n (fP t.data.toList) (gP t.data.toList D.fm)) ∧ Onl s.S w w' := by
 cases hB : burnB D with
 | false => exact zyk s D o n cp vb vp vd q t w h hv ho hn ht hq hB hdn
 | true => exact zbck s D o n cp vb vp vd q t w h hv ho hn ht hq hB hdn
section
variable {P : Program}
theorem wpBox1K {ops : Array Oper} {rest : List Oper} {o : Oper} {a : Act} {w : World} {Q : Exit -> Act -> World -> Prop} (v : Value) (ty : TypeId) (hv : v.cells = #[v]) (hb : boxOf o a = some (ty, v))
  (k : ∀ w', Row w' w.heap.size ty [v] -> Below w.heap.size w w' -> w'.heap.size = w.heap.size + 1 -> wpList P ops Q rest (a.put o.dst (.pointer (some ⟨w.heap.size, 0, none⟩))) w') : wpList P ops Q (o :: rest) a w := by
 obtain ⟨hgd, x, ho, hx⟩ := zok hb
 exact wpList_plain hgd fun _ hK => by
  unfold Oper.wp execOp
  simp only [ho, hx, Instr.box, newVar, hv]
  simp [go_sem]
  exact hK _ _ (k _ (Row.new w ty [v]) ((zb).alloc (Nat.le_refl _) _) (by simp))
theorem wpAlloc1K {ops : Array Oper} {rest : List Oper} {o : Oper} {a : Act} {w : World} {Q : Exit -> Act -> World -> Prop} (z : Value) (ty : TypeId) (hv : z.cells = #[z]) (hz : ∀ u, (zeroValue ty).run P u = .ok z u) (ho : allocOf o = some ty)
  (k : ∀ w', Row w' w.heap.size ty [z] -> Below w.heap.size w w' -> w'.heap.size = w.heap.size + 1 -> wpList P ops Q rest (a.put o.dst (.pointer (some ⟨w.heap.size, 0, none⟩))) w') : wpList P ops Q (o :: rest) a w := by
 obtain ⟨hgd, ho⟩ := zkk ho
 exact wpList_plain hgd fun _ hK => by
  have h := hz w
  unfold Oper.wp execOp
  simp only [ho, Instr.alloc, Sem.run_bind, h, Result.andThen_ok, newVar, hv]
  simp [go_sem]
  exact hK _ _ (k _ (Row.new w ty [z]) ((zb).alloc (Nat.le_refl _) _) (by simp))
end
theorem zpu : ∀ u, (zeroValue 107).run Tryz.prog u = .ok (.slice none 0 0) u := fun u => by kernel_rfl
theorem zmn : (Tryz.prog.info? 107).map (·.size) = some 1 := by kernel_rfl
theorem zfo (p : Option Addr) (n c : Nat) : (Value.slice p n c).cells = #[.slice p n c] := rfl
theorem zsb (p : Option Addr) (n c : Nat) : (Value.slice p n c).oneCell' = true := rfl
theorem zcq (p : Option Addr) : (Value.pointer p).cells = #[.pointer p] := rfl
theorem zdw (t : ByteArray) : (Value.string t).cells = #[.string t] := rfl
def eraseB (D : Dv) (i : Int) : Bool := !D.dn && decide (0 <= i ∧ i < D.L.length) && !D.L.getD i.toNat false
def eraseE (D : Dv) (i : Int) : Int := if D.dn then 5 else if 0 <= i ∧ i < D.L.length then (if D.L.getD i.toNat false then 4 else idl (burnB D)) else 2
def worn (D : Dv) (i : Nat) : Dv := { D with E := D.E.set i (wrap64 (D.E.getD i 0 + 1)) }
def eraseD (D : Dv) (i : Int) : Dv := if eraseB D i then workD (worn D i.toNat) (i.toNat * 64) 64 fE (gE D.fm) else D
theorem zbal (s : Sh) (D : Dv) (i : Int) (w : World) (h : Dev w s D) (hd : D.dn = true) :
  Calls Tryz.prog 49 #[.pointer (some ⟨s.b, 0, none⟩), .int .i64 i] w fun e w' => e = .returned (.int .i64 5) ∧ Below w.heap.size w w' := by
 have HX : Hid (∀ w1, Below w.heap.size w w1 -> Calls Tryz.prog 81 #[.pointer (some ⟨s.b, 0, none⟩)] w1 fun e w' => e = .returned (.int .i64 5) ∧ w1 = w') := zh fun w1 hb => by
  have := zbz s D w1 (h.step hb); rwa [hd] at this
 clear h hd
 go_enter Tryz.func49, Tryz.ntmps49
 go_wp2_with (first
  | ((with_reducible refine wpBox1K (.pointer (some ⟨s.b, 0, none⟩)) 44 (zcq _) ?_ ?_); rfl; intro w1 r1 b1 s1; have c1 := r1.cell 0; have B1 := zh b1; clear r1 b1 s1)
  | (go_at_call 81; (with_reducible refine (HX.out w1 B1.out).mono ?_); rintro e u1 ⟨rfl, rfl⟩))
 go_ret
 exact ⟨rfl, B1.out⟩
theorem zbec (s : Sh) (D : Dv) (i : Int) (w : World) (h : Dev w s D) (hd : D.dn = false) (hi : ¬ (0 <= i ∧ i < D.L.length)) :
  Calls Tryz.prog 49 #[.pointer (some ⟨s.b, 0, none⟩), .int .i64 i] w fun e w' => e = .returned (.int .i64 2) ∧ Below w.heap.size w w' := by
 have HX : Hid (∀ w1, Below w.heap.size w w1 -> Calls Tryz.prog 81 #[.pointer (some ⟨s.b, 0, none⟩)] w1 fun e w' => e = .returned (.int .i64 0) ∧ w1 = w') := zh fun w1 hb => by
  have := zbz s D w1 (h.step hb); rwa [hd] at this
 have HY : Hid (∀ w1, Below w.heap.size w w1 -> Calls Tryz.prog 82 #[.pointer (some ⟨s.b, 0, none⟩), .int .i64 i] w1 fun e w' => e = .returned (.bool false) ∧ w1 = w') := zh fun w1 hb => by
  have := zqf s D i w1 (h.step hb); rwa [decide_eq_false hi] at this
 clear h hd hi
 go_enter Tryz.func49, Tryz.ntmps49
 go_wp2_with (first
  | ((with_reducible refine wpBox1K (.pointer (some ⟨s.b, 0, none⟩)) 44 (zcq _) ?_ ?_); rfl; intro w1 r1 b1 s1; have c1 := r1.cell 0; have B1 := zh b1; clear r1 b1 s1)
  | (go_at_call 81; (with_reducible refine (HX.out w1 B1.out).mono ?_); rintro e u1 ⟨rfl, rfl⟩)
  | (go_at_call 82; (with_reducible refine (HY.out w1 B1.out).mono ?_); rintro e u1 ⟨rfl, rfl⟩))
 go_ret
 exact ⟨rfl, B1.out⟩
theorem zud (s : Sh) (D : Dv) (i : Nat) (w : World) (h : Dev w s D) (hd : D.dn = false) (hi : i < D.L.length) (hl : D.L.getD i false = true) :
  Calls Tryz.prog 49 #[.pointer (some ⟨s.b, 0, none⟩), .int .i64 (i : Int)] w fun e w' => e = .returned (.int .i64 4) ∧ Below w.heap.size w w' := by
 have HX : Hid (∀ w1, Below w.heap.size w w1 -> Calls Tryz.prog 81 #[.pointer (some ⟨s.b, 0, none⟩)] w1 fun e w' => e = .returned (.int .i64 0) ∧ w1 = w') := zh fun w1 hb => by
  have := zbz s D w1 (h.step hb); rwa [hd] at this
 have HY : Hid (∀ w1, Below w.heap.size w w1 -> Calls Tryz.prog 82 #[.pointer (some ⟨s.b, 0, none⟩), .int .i64 (i : Int)] w1 fun e w' => e = .returned (.bool true) ∧ w1 = w') := zh fun w1 hb => by
  have := zqf s D i w1 (h.step hb); rwa [decide_eq_true (by omega)] at this
 have H5 : Hid (∀ w1, Below w.heap.size w w1 -> w1.cell? ⟨s.b, 5, none⟩ = some (.slice (some ⟨s.o2, 0, none⟩) D.L.length s.k2)) := zh fun w1 hb => (h.step hb).c5
 have H6 : Hid (∀ w1, Below w.heap.size w w1 -> w1.cell? ⟨s.o2, i, none⟩ = some (.bool true)) := zh fun w1 hb => by
  have := (h.step hb).cl i hi
  rwa [show D.L[i] = true by rw [List.getD_eq_getElem?_getD, List.getElem?_eq_getElem hi] at hl; exact hl] at this
 have e1 : (i : Int) < D.L.length := by omega
 obtain ⟨n, hn⟩ : ∃ n, D.L.length = n := ⟨_, rfl⟩
 rw [hn] at e1 H5
 clear h hd hi hl hn
 go_enter Tryz.func49, Tryz.ntmps49
 go_wp2_with (first
  | ((with_reducible refine wpBox1K (.pointer (some ⟨s.b, 0, none⟩)) 44 (zcq _) ?_ ?_); rfl; intro w1 r1 b1 s1; have c1 := r1.cell 0; have c5 := H5.out w1 b1; have c6 := H6.out w1 b1; have B1 := zh b1; clear r1 b1 s1)
  | (go_at_call 81; (with_reducible refine (HX.out w1 B1.out).mono ?_); rintro e u1 ⟨rfl, rfl⟩)
  | (go_at_call 82; (with_reducible refine (HY.out w1 B1.out).mono ?_); rintro e u1 ⟨rfl, rfl⟩))
 go_ret
 exact ⟨rfl, B1.out⟩
theorem zmt {w : World} {s : Sh} {D : Dv} (h : Dev w s D) {k : Nat} (hk : w.heap.size <= k) : k ∉ s.S := fun hm => by have := h.lt k hm; omega
theorem zbam (s : Sh) (D : Dv) (i : Nat) (w : World) (h : Dev w s D) (hd : D.dn = false) (hi : i < D.L.length) (hl : D.L.getD i false = false) :
  Calls Tryz.prog 49 #[.pointer (some ⟨s.b, 0, none⟩), .int .i64 (i : Int)] w fun e w' => e = .returned (.int .i64 (idl (burnB D))) ∧ Dev w' s (workD (worn D i) (i * 64) 64 fE (gE D.fm)) ∧ Onl s.S w w' := by
 have HX : Hid (∀ w1, Below w.heap.size w w1 -> Calls Tryz.prog 81 #[.pointer (some ⟨s.b, 0, none⟩)] w1 fun e w' => e = .returned (.int .i64 0) ∧ w1 = w') := zh fun w1 hb => by
  have := zbz s D w1 (h.step hb); rwa [hd] at this
 have HY : Hid (∀ w1, Below w.heap.size w w1 -> Calls Tryz.prog 82 #[.pointer (some ⟨s.b, 0, none⟩), .int .i64 (i : Int)] w1 fun e w' => e = .returned (.bool true) ∧ w1 = w') := zh fun w1 hb => by
  have := zqf s D i w1 (h.step hb); rwa [decide_eq_true (by omega)] at this
 have H5 : Hid (∀ w1, Below w.heap.size w w1 -> w1.cell? ⟨s.b, 5, none⟩ = some (.slice (some ⟨s.o2, 0, none⟩) D.L.length s.k2)) := zh fun w1 hb => (h.step hb).c5
 have H6 : Hid (∀ w1, Below w.heap.size w w1 -> w1.cell? ⟨s.o2, i, none⟩ = some (.bool false)) := zh fun w1 hb => by
  have := (h.step hb).cl i hi
  rwa [show D.L[i] = false by rw [List.getD_eq_getElem?_getD, List.getElem?_eq_getElem hi] at hl; exact hl] at this
 have hiE : i < D.E.length := by rw [h.ok.worn]; exact hi
 have H7 : Hid (∀ w1, Below w.heap.size w w1 -> w1.cell? ⟨s.b, 6, none⟩ = some (.slice (some ⟨s.o3, 0, none⟩) D.E.length s.k3)) := zh fun w1 hb => (h.step hb).c6
 have H8 : Hid (∀ w1, Below w.heap.size w w1 -> w1.cell? ⟨s.o3, i, none⟩ = some (.int .i64 D.E[i])) := zh fun w1 hb => (h.step hb).ce i hiE
 obtain ⟨x, hx⟩ : ∃ x, D.E[i] = x := ⟨_, rfl⟩
 obtain ⟨p, hp⟩ : ∃ p, wrap64 (x + 1) = p := ⟨_, rfl⟩
 have hwo : ({ D with E := D.E.set i p } : Dv) = worn D i := by
  rw [worn, List.getD_eq_getElem?_getD, List.getElem?_eq_getElem hiE, <- hp, <- hx]; rfl
 have HSE : Hid (∀ w1 w2, Below w.heap.size w w1 -> Row w2 s.o3 3 ((ints D.E ++ s.z3).set i (.int .i64 p)) -> Only s.o3 w1 w2 -> Dev w2 s (worn D i)) := zh fun w1 w2 hb hr ho => by
  rw [<- hwo]; exact (h.step hb).setE i p hiE hr ho
 rw [hx] at H8
 have RE : Hid (∀ w1, Below w.heap.size w w1 -> Row w1 s.o3 3 (ints D.E ++ s.z3)) := zh fun w1 hb => (h.step hb).e
 have HLE : Hid (i < (ints D.E ++ s.z3).length) := zh (by rw [List.length_append, zbn]; omega)
 have HSC : Hid (∀ w2, Dev w2 s (worn D i) -> Calls Tryz.prog 83 #[.pointer (some ⟨s.b, 0, none⟩), .int .i64 (i : Int)] w2 fun e w' => e = .returned (.slice (some ⟨s.o1, i * 64, none⟩) 64 (s.k1 - i * 64)) ∧ w2 = w') := zh fun w2 h2 => zqe s _ i w2 h2 hi
 have hcl := h.ok.cells
 have HWK : Hid (∀ w4 vb vd cp, Dev w4 s (worn D i) -> CapE w4 s (i * 64) 64 cp vb vd -> Calls Tryz.prog 84 #[.pointer (some ⟨s.b, 0, none⟩), .int .i64 64, .func (.func 85) #[] #[.pointer (some ⟨vb, 0, none⟩)], .func (.func 86) #[] #[.pointer (some ⟨vb, 0, none⟩), .pointer (some ⟨vd, 0, none⟩)]] w4
   fun e w' => e = .returned (.int .i64 (idl (burnB D))) ∧ Dev w' s (workD (worn D i) (i * 64) 64 fE (gE D.fm)) ∧ Onl s.S w4 w') := zh fun w4 vb vd cp h4 hv => zbgu s (worn D i) (i * 64) 64 cp vb vd w4 h4 hv (by show _ <= D.C.length; omega) (by omega) hd
 have HNV : Hid (∀ k, w.heap.size <= k -> k ∉ s.S) := zh fun k hk => zmt h hk
 have HO3 : Hid (s.o3 < w.heap.size) := zh h.e.lt
 have e1 : (i : Int) < D.L.length := by omega
 have e2 : (i : Int) < D.E.length := by omega
 obtain ⟨n, hn⟩ : ∃ n, D.L.length = n := ⟨_, rfl⟩
 rw [hn] at e1 H5
 obtain ⟨m, hm⟩ : ∃ m, D.E.length = m := ⟨_, rfl⟩
 rw [hm] at e2 H7
 have hmf : ∀ (fn : Fn) (first cap : Array Value) (w : World), (Instr.makeFunc fn first cap).run Tryz.prog w = .ok (.func fn first cap) w := fun _ _ _ _ => rfl
 obtain ⟨c, hc⟩ : ∃ c, s.k1 - i * 64 = c := ⟨_, rfl⟩
 obtain ⟨of, hof⟩ : ∃ of, i * 64 = of := ⟨_, rfl⟩
 rw [hc, hof] at HSC
 rw [hof] at HWK ⊢
 clear h hd hi hl hn hm hcl hwo hx hiE hc hof
 go_enter Tryz.func49, Tryz.ntmps49
 go_wp2_with (first
  | ((with_reducible refine wpBox1K (.pointer (some ⟨s.b, 0, none⟩)) 44 (zcq _) ?_ ?_); rfl; intro w1 r1 b1 s1; have c1 := r1.cell 0; have c5 := H5.out w1 b1; have c6 := H6.out w1 b1; have c7 := H7.out w1 b1; have c8 := H8.out w1 b1; have R1 := zh r1; have RE1 := zh (RE.out w1 b1); have B1 := zh b1; clear r1 b1 s1)
  | (go_at_call 81; (with_reducible refine (HX.out w1 B1.out).mono ?_); rintro e u1 ⟨rfl, rfl⟩)
  | (go_at_call 82; (with_reducible refine (HY.out w1 B1.out).mono ?_); rintro e u1 ⟨rfl, rfl⟩)
  | ((with_reducible refine RE1.out.wpStore1K i 3 (.int .i64 p) zcx HLE.out (zbw _ _) (zcs _ _) ?_ ?_); (simp only [storeOf, Act.eval]; exact congrArg (fun z => some (_, _, Value.int .i64 z)) hp); intro w2 r2 o2 s2; have D2 := zh (HSE.out w1 w2 B1.out r2 o2); have R2 := zh (R1.out.only o2 (by have := HO3.out; omega)); have O2 := zh ((Onl.of_below (S := s.S) B1.out).trans (Onl.of_only o2 s.o3_mem)); have c12 := R2.out.cell 0; clear r2 o2 s2)
  | (go_at_call 83; (with_reducible refine (HSC.out w2 D2.out).mono ?_); rintro e u1 ⟨rfl, rfl⟩)
  | ((with_reducible refine wpAlloc1K (.slice none 0 0) 107 (zfo _ _ _) zpu ?_ ?_); rfl; intro w3 r3 b3 s3; have D3 := zh (D2.out.step b3); have R3 := zh (R2.out.step b3); have RB3 := zh r3; have O3 := zh (O2.out.step b3); clear r3 b3 s3)
  | ((with_reducible refine RB3.out.wpStore1K 0 107 (.slice (some ⟨s.o1, of, none⟩) 64 c) zmn (by decide) (zfo _ _ _) (zsb _ _ _) ?_ ?_); rfl; intro w4 r4 o4 s4; have D4 := zh (D3.out.onl (S := [w2.heap.size]) (Onl.of_only o4 (by simp)) (fun k hk hq => by have := D2.out.lt k hk; simp at hq; omega)); have R4 := zh (R3.out.only o4 (by have := R2.out.lt; omega)); have RB4 : Hid (Row w4 w2.heap.size 107 [.slice (some ⟨s.o1, of, none⟩) 64 c]) := zh r4; have O4 := zh (O3.out.only o4 (Or.inr O2.out.size)); have c14 := R4.out.cell 0; have c24 := RB4.out.cell 0; have CP : Hid (CapE w4 s of 64 c w2.heap.size w.heap.size) := zh ⟨c24, c14, RB4.out.lt, R4.out.lt, HNV.out _ O2.out.size, HNV.out _ (Nat.le_refl _)⟩; clear r4 o4 s4)
  | (go_at_call 84; (with_reducible refine (HWK.out w4 _ _ _ D4.out CP.out).mono ?_); rintro e w5 ⟨rfl, d5, o5⟩; have D5 := zh d5; have O5 := zh (O4.out.trans o5); clear d5 o5))
 go_ret
 exact ⟨rfl, D5.out, O5.out⟩
theorem zso (s : Sh) (D : Dv) (i : Int) (w : World) (h : Dev w s D) :
  Calls Tryz.prog 49 #[.pointer (some ⟨s.b, 0, none⟩), .int .i64 i] w fun e w' => e = .returned (.int .i64 (eraseE D i)) ∧ Dev w' s (eraseD D i) ∧ Onl s.S w w' := by
 cases hd : D.dn with
 | true =>
  refine (zbal s D i w h hd).mono ?_
  rintro e w' ⟨rfl, hb⟩
  exact ⟨by rw [eraseE, hd]; rfl, by rw [eraseD, eraseB, hd]; exact h.step hb, Onl.of_below hb⟩
 | false =>
  by_cases hi : 0 <= i ∧ i < D.L.length
  .obtain ⟨j, rfl⟩ : ∃ j : Nat, i = j := ⟨i.toNat, by omega⟩
   cases hl : D.L.getD j false with
   | true =>
    refine (zud s D j w h hd (by omega) hl).mono ?_
    rintro e w' ⟨rfl, hb⟩
    have hE : eraseB D (j : Int) = false := by rw [eraseB, hd, Int.toNat_natCast, hl]; simp
    exact ⟨by rw [eraseE, hd, if_pos hi, Int.toNat_natCast, hl]; rfl, by rw [eraseD, hE]; exact h.step hb, Onl.of_below hb⟩
   | false =>
    refine (zbam s D j w h hd (by omega) hl).mono ?_
    rintro e w' ⟨rfl, h1, h2⟩
    have hE : eraseB D (j : Int) = true := by rw [eraseB, hd, Int.toNat_natCast, hl, decide_eq_true hi]; rfl
    exact ⟨by rw [eraseE, hd, if_pos hi, Int.toNat_natCast, hl]; rfl, by rw [eraseD, if_pos hE, Int.toNat_natCast]; exact h1, h2⟩
  .refine (zbec s D i w h hd hi).mono ?_
   rintro e w' ⟨rfl, hb⟩
   have hE : eraseB D i = false := by rw [eraseB, decide_eq_false hi]; simp
   exact ⟨by rw [eraseE, hd, if_neg hi]; rfl, by rw [eraseD, hE]; exact h.step hb, Onl.of_below hb⟩
end
section
open Go.RowKit FlaMath
def programE (D : Dv) (x : Int) (l : List UInt8) : Int :=
 if D.dn then 5 else if x.tmod 16 ≠ 0 ∨ l.length ≠ 16 then 3 else if bey D.C.length x 16 then 2 else if D.L.getD (x.toNat / 64) false then 4 else idl (burnB D)
def programB (D : Dv) (x : Int) (l : List UInt8) : Bool := !D.dn && !(decide (x.tmod 16 ≠ 0 ∨ l.length ≠ 16)) && !(bey D.C.length x 16) && !(D.L.getD (x.toNat / 64) false)
def programD (D : Dv) (x : Int) (l : List UInt8) : Dv := if programB D x l then workD D x.toNat 16 (fP l) (gP l D.fm) else D
theorem zvk (s : Sh) (D : Dv) (x : Int) (t : ByteArray) (w : World) (h : Dev w s D) (hd : D.dn = true) :
  Calls Tryz.prog 75 #[.pointer (some ⟨s.b, 0, none⟩), .int .i64 x, .string t] w fun e w' => e = .returned (.int .i64 5) ∧ Below w.heap.size w w' := by
 have HX : Hid (∀ w1, Below w.heap.size w w1 -> Calls Tryz.prog 81 #[.pointer (some ⟨s.b, 0, none⟩)] w1 fun e w' => e = .returned (.int .i64 5) ∧ w1 = w') := zh fun w1 hb => by
  have := zbz s D w1 (h.step hb); rwa [hd] at this
 clear h hd
 go_enter Tryz.func75, Tryz.ntmps75
 go_wp2_with (first
  | ((with_reducible refine wpBox1K (.pointer (some ⟨s.b, 0, none⟩)) 44 (zcq _) ?_ ?_); rfl; intro w1 r1 b1 s1; have R1 := zh r1; have B1 := zh b1; clear r1 b1 s1)
  | ((with_reducible refine wpBox1K (.string t) 9 (zdw _) ?_ ?_); rfl; intro w2 r2 b2 s2; have c1 := (R1.out.step b2).cell 0; have B2 := zh (B1.out.next b2); clear r2 b2 s2)
  | (go_at_call 81; (with_reducible refine (HX.out w2 B2.out).mono ?_); rintro e u1 ⟨rfl, rfl⟩))
 go_ret
 exact ⟨rfl, B2.out⟩
theorem zsr (s : Sh) (D : Dv) (x : Int) (t : ByteArray) (w : World) (h : Dev w s D) (hd : D.dn = false) (hs : t.size <= 140737488355328) (hb : x.tmod 16 ≠ 0 ∨ t.size ≠ 16) :
    Calls Tryz.prog 75 #[.pointer (some ⟨s.b, 0, none⟩), .int .i64 x, .string t] w fun e w' => e = .returned (.int .i64 3) ∧ Below w.heap.size w w' := by
  have HX : Hid (∀ w1, Below w.heap.size w w1 -> Calls Tryz.prog 81 #[.pointer (some ⟨s.b, 0, none⟩)] w1 fun e w' => e = .returned (.int .i64 0) ∧ w1 = w') := zh fun w1 hb => by
    have := zbz s D w1 (h.step hb); rwa [hd] at this
  clear h hd
  by_cases hm : x.tmod 16 = 0
  . have hz : ¬ t.size = 16 := by
        rcases hb with h | h
        . exact absurd hm h
        . exact h
    have hz1 : ((t.size : Int) != 16) = true := bne_iff_ne.2 (by omega)
    have hz2 : ¬ (t.size : Int) = 16 := by omega
    have hm1 : (x.tmod 16 != 0) = false := by rw [hm]; rfl
    clear hb
    go_enter Tryz.func75, Tryz.ntmps75
    go_wp2_with (first
      | ((with_reducible refine wpBox1K (.pointer (some ⟨s.b, 0, none⟩)) 44 (zcq _) ?_ ?_); rfl; intro w1 r1 b1 s1; have R1 := zh r1; have B1 := zh b1; clear r1 b1 s1)
      | ((with_reducible refine wpBox1K (.string t) 9 (zdw _) ?_ ?_); rfl; intro w2 r2 b2 s2; have c1 := (R1.out.step b2).cell 0; have c2 := r2.cell 0; have B2 := zh (B1.out.next b2); clear r2 b2 s2)
      | (go_at_call 81; (with_reducible refine (HX.out w2 B2.out).mono ?_); rintro e u1 ⟨rfl, rfl⟩))
    go_ret; exact ⟨rfl, B2.out⟩
  . have hm1 : (x.tmod 16 != 0) = true := bne_iff_ne.2 hm
    clear hb
    go_enter Tryz.func75, Tryz.ntmps75
    go_wp2_with (first
      | ((with_reducible refine wpBox1K (.pointer (some ⟨s.b, 0, none⟩)) 44 (zcq _) ?_ ?_); rfl; intro w1 r1 b1 s1; have R1 := zh r1; have B1 := zh b1; clear r1 b1 s1)
      | ((with_reducible refine wpBox1K (.string t) 9 (zdw _) ?_ ?_); rfl; intro w2 r2 b2 s2; have c1 := (R1.out.step b2).cell 0; have c2 := r2.cell 0; have B2 := zh (B1.out.next b2); clear r2 b2 s2)
      | (go_at_call 81; (with_reducible refine (HX.out w2 B2.out).mono ?_); rintro e u1 ⟨rfl, rfl⟩))
    go_ret; exact ⟨rfl, B2.out⟩
theorem zxt (s : Sh) (D : Dv) (x : Int) (t : ByteArray) (w : World) (h : Dev w s D) (hd : D.dn = false) (hx : x < 9223372036854775808) (hs : t.size = 16) (hm : x.tmod 16 = 0) (hb : bey D.C.length x 16 = true) :
  Calls Tryz.prog 75 #[.pointer (some ⟨s.b, 0, none⟩), .int .i64 x, .string t] w fun e w' => e = .returned (.int .i64 2) ∧ Below w.heap.size w w' := by
 have HX : Hid (∀ w1, Below w.heap.size w w1 -> Calls Tryz.prog 81 #[.pointer (some ⟨s.b, 0, none⟩)] w1 fun e w' => e = .returned (.int .i64 0) ∧ w1 = w') := zh fun w1 hb => by
  have := zbz s D w1 (h.step hb); rwa [hd] at this
 have HY : Hid (∀ w1, Below w.heap.size w w1 -> Calls Tryz.prog 103 #[.pointer (some ⟨s.b, 0, none⟩), .int .i64 x, .int .i64 16] w1 fun e w' => e = .returned (.bool true) ∧ w1 = w') := zh fun w1 hb1 => by
  have := zgb s D x 16 w1 (h.step hb1) hx; rwa [hb] at this
 have HYn : Hid (∀ w1, Below w.heap.size w w1 -> Calls Tryz.prog 103 #[.pointer (some ⟨s.b, 0, none⟩), .int .i64 x, .int .i64 (t.size : Int)] w1 fun e w' => e = .returned (.bool true) ∧ w1 = w') := zh fun w1 hb1 => by
  rw [hs]; exact HY.out w1 hb1
 have hz1 : ((t.size : Int) != 16) = false := by rw [hs]; rfl
 have hm1 : (x.tmod 16 != 0) = false := by rw [hm]; rfl
 clear h hd hx hm hb
 go_enter Tryz.func75, Tryz.ntmps75
 go_wp2_with (first
  | ((with_reducible refine wpBox1K (.pointer (some ⟨s.b, 0, none⟩)) 44 (zcq _) ?_ ?_); rfl; intro w1 r1 b1 s1; have R1 := zh r1; have B1 := zh b1; clear r1 b1 s1)
  | ((with_reducible refine wpBox1K (.string t) 9 (zdw _) ?_ ?_); rfl; intro w2 r2 b2 s2; have R2 := zh (R1.out.step b2); have RT2 := zh r2; have c1 := (R1.out.step b2).cell 0; have c2 := r2.cell 0; have B2 := zh (B1.out.next b2); clear r2 b2 s2)
  | (go_at_call 81; (with_reducible refine (HX.out w2 B2.out).mono ?_); rintro e u1 ⟨rfl, rfl⟩)
  | (go_at_call 103; (first | (with_reducible refine (HY.out w2 B2.out).mono ?_) | (with_reducible refine (HYn.out w2 B2.out).mono ?_)); rintro e u1 ⟨rfl, rfl⟩))
 go_ret
 exact ⟨rfl, B2.out⟩
theorem zqq (s : Sh) (D : Dv) (a : Nat) (t : ByteArray) (w : World) (h : Dev w s D) (hd : D.dn = false) (hx : (a : Int) < 9223372036854775808) (hs : t.size = 16) (hm : (a : Int).tmod 16 = 0) (hb : bey D.C.length a 16 = false) (hl : D.L.getD (a / 64) false = true) :
  Calls Tryz.prog 75 #[.pointer (some ⟨s.b, 0, none⟩), .int .i64 (a : Int), .string t] w fun e w' => e = .returned (.int .i64 4) ∧ Below w.heap.size w w' := by
 have HX : Hid (∀ w1, Below w.heap.size w w1 -> Calls Tryz.prog 81 #[.pointer (some ⟨s.b, 0, none⟩)] w1 fun e w' => e = .returned (.int .i64 0) ∧ w1 = w') := zh fun w1 hb => by
  have := zbz s D w1 (h.step hb); rwa [hd] at this
 have HY : Hid (∀ w1, Below w.heap.size w w1 -> Calls Tryz.prog 103 #[.pointer (some ⟨s.b, 0, none⟩), .int .i64 (a : Int), .int .i64 16] w1 fun e w' => e = .returned (.bool false) ∧ w1 = w') := zh fun w1 hb1 => by
  have := zgb s D (a : Int) 16 w1 (h.step hb1) hx; rwa [hb] at this
 have HYn : Hid (∀ w1, Below w.heap.size w w1 -> Calls Tryz.prog 103 #[.pointer (some ⟨s.b, 0, none⟩), .int .i64 (a : Int), .int .i64 (t.size : Int)] w1 fun e w' => e = .returned (.bool false) ∧ w1 = w') := zh fun w1 hb1 => by
  rw [hs]; exact HY.out w1 hb1
 have hz1 : ((t.size : Int) != 16) = false := by rw [hs]; rfl
 have hm1 : ((a : Int).tmod 16 != 0) = false := by rw [hm]; rfl
 have hca := h.ok.cells
 have hb2 := of_decide_eq_false hb
 have hjn : a / 64 < D.L.length := by omega
 have H5 : Hid (∀ w1, Below w.heap.size w w1 -> w1.cell? ⟨s.b, 5, none⟩ = some (.slice (some ⟨s.o2, 0, none⟩) D.L.length s.k2)) := zh fun w1 hb => (h.step hb).c5
 have H6 : Hid (∀ w1, Below w.heap.size w w1 -> w1.cell? ⟨s.o2, a / 64, none⟩ = some (.bool true)) := zh fun w1 hb => by
  have := (h.step hb).cl (a / 64) hjn
  rwa [show D.L[a / 64] = true by rw [List.getD_eq_getElem?_getD, List.getElem?_eq_getElem hjn] at hl; exact hl] at this
 obtain ⟨n, hn⟩ : ∃ n, D.L.length = n := ⟨_, rfl⟩
 obtain ⟨j, hj⟩ : ∃ j, a / 64 = j := ⟨_, rfl⟩
 have q1 : (a : Int).tdiv 64 = (j : Int) := by rw [<- hj]; rfl
 have q2 : (a : Int) / 64 = (j : Int) := by rw [<- hj]; rfl
 have q3 : (j : Int) < n := by omega
 have hm3 : ((a : Int) % 16 != 0) = false := by
  have : (a : Int) % 16 = (a : Int).tmod 16 := (Int.tmod_eq_emod_of_nonneg (by omega)).symm
  rw [this, hm]; rfl
 have hm2 : (a : Int) % 16 = 0 := beq_iff_eq.1 (by simpa using hm3)
 have q4 : a / 64 = j := hj
 have hjb : (j : Int) <= 512 := by have := h.ok.top; omega
 have q5 : wrap64 (j : Int) = j := by unfold wrap64; omega
 rw [hn] at H5
 rw [hj] at H6
 clear h hd hx hm hb hl hn hca hb2 hjn hj
 go_enter Tryz.func75, Tryz.ntmps75
 go_wp2_with (first
  | ((with_reducible refine wpBox1K (.pointer (some ⟨s.b, 0, none⟩)) 44 (zcq _) ?_ ?_); rfl; intro w1 r1 b1 s1; have R1 := zh r1; have B1 := zh b1; clear r1 b1 s1)
  | ((with_reducible refine wpBox1K (.string t) 9 (zdw _) ?_ ?_); rfl; intro w2 r2 b2 s2; have R2 := zh (R1.out.step b2); have RT2 := zh r2; have c1 := (R1.out.step b2).cell 0; have c2 := r2.cell 0; have B2 := zh (B1.out.next b2); have c5 := H5.out w2 B2.out; have c6 := H6.out w2 B2.out; clear r2 b2 s2)
  | (go_at_call 81; (with_reducible refine (HX.out w2 B2.out).mono ?_); rintro e u1 ⟨rfl, rfl⟩)
  | (go_at_call 103; (first | (with_reducible refine (HY.out w2 B2.out).mono ?_) | (with_reducible refine (HYn.out w2 B2.out).mono ?_)); rintro e u1 ⟨rfl, rfl⟩))
 go_ret
 exact ⟨rfl, B2.out⟩
theorem zvl (s : Sh) (D : Dv) (a : Nat) (t : ByteArray) (w : World) (h : Dev w s D) (hd : D.dn = false) (hx : (a : Int) < 9223372036854775808) (hs : t.size = 16) (hm : (a : Int).tmod 16 = 0) (hb : bey D.C.length a 16 = false) (hl : D.L.getD (a / 64) false = false) :
  Calls Tryz.prog 75 #[.pointer (some ⟨s.b, 0, none⟩), .int .i64 (a : Int), .string t] w fun e w' => e = .returned (.int .i64 (idl (burnB D))) ∧ Dev w' s (workD D a 16 (fP t.data.toList) (gP t.data.toList D.fm)) ∧ Onl s.S w w' := by
 have HX : Hid (∀ w1, Below w.heap.size w w1 -> Calls Tryz.prog 81 #[.pointer (some ⟨s.b, 0, none⟩)] w1 fun e w' => e = .returned (.int .i64 0) ∧ w1 = w') := zh fun w1 hb => by
  have := zbz s D w1 (h.step hb); rwa [hd] at this
 have HY : Hid (∀ w1, Below w.heap.size w w1 -> Calls Tryz.prog 103 #[.pointer (some ⟨s.b, 0, none⟩), .int .i64 (a : Int), .int .i64 16] w1 fun e w' => e = .returned (.bool false) ∧ w1 = w') := zh fun w1 hb1 => by
  have := zgb s D (a : Int) 16 w1 (h.step hb1) hx; rwa [hb] at this
 have HYn : Hid (∀ w1, Below w.heap.size w w1 -> Calls Tryz.prog 103 #[.pointer (some ⟨s.b, 0, none⟩), .int .i64 (a : Int), .int .i64 (t.size : Int)] w1 fun e w' => e = .returned (.bool false) ∧ w1 = w') := zh fun w1 hb1 => by
  rw [hs]; exact HY.out w1 hb1
 have hz1 : ((t.size : Int) != 16) = false := by rw [hs]; rfl
 have hm1 : ((a : Int).tmod 16 != 0) = false := by rw [hm]; rfl
 have hca := h.ok.cells
 have hb2 := of_decide_eq_false hb
 have hjn : a / 64 < D.L.length := by omega
 have H5 : Hid (∀ w1, Below w.heap.size w w1 -> w1.cell? ⟨s.b, 5, none⟩ = some (.slice (some ⟨s.o2, 0, none⟩) D.L.length s.k2)) := zh fun w1 hb => (h.step hb).c5
 have H6 : Hid (∀ w1, Below w.heap.size w w1 -> w1.cell? ⟨s.o2, a / 64, none⟩ = some (.bool false)) := zh fun w1 hb => by
  have := (h.step hb).cl (a / 64) hjn
  rwa [show D.L[a / 64] = false by rw [List.getD_eq_getElem?_getD, List.getElem?_eq_getElem hjn] at hl; exact hl] at this
 have H4 : Hid (∀ w1, Below w.heap.size w w1 -> w1.cell? ⟨s.b, 4, none⟩ = some (.slice (some ⟨s.o1, 0, none⟩) D.C.length s.k1)) := zh fun w1 hb => (h.step hb).c4
 have hrm := h.room
 have HDS : Hid (∀ w1, Below w.heap.size w w1 -> Dev w1 s D) := zh fun w1 hb => h.step hb
 have HWK : Hid (∀ w4 vb vp vd cp q, Dev w4 s D -> 16 <= q -> CapP w4 s a cp vb vp vd q t -> Calls Tryz.prog 84 #[.pointer (some ⟨s.b, 0, none⟩), .int .i64 16, .func (.func 113) #[] #[.pointer (some ⟨vb, 0, none⟩), .pointer (some ⟨vp, 0, none⟩)], .func (.func 114) #[] #[.pointer (some ⟨vb, 0, none⟩), .pointer (some ⟨vp, 0, none⟩), .pointer (some ⟨vd, 0, none⟩)]] w4
   fun e w' => e = .returned (.int .i64 (idl (burnB D))) ∧ Dev w' s (workD D a 16 (fP t.data.toList) (gP t.data.toList D.fm)) ∧ Onl s.S w4 w') := zh fun w4 vb vp vd cp q h4 hq hv => zbgv s D a 16 cp vb vp vd q t w4 h4 hv (by omega) (by omega) (by omega) hq hd
 have HWKn : Hid (∀ w4 vb vp vd cp q, Dev w4 s D -> 16 <= q -> CapP w4 s a cp vb vp vd q t -> Calls Tryz.prog 84 #[.pointer (some ⟨s.b, 0, none⟩), .int .i64 (t.size : Int), .func (.func 113) #[] #[.pointer (some ⟨vb, 0, none⟩), .pointer (some ⟨vp, 0, none⟩)], .func (.func 114) #[] #[.pointer (some ⟨vb, 0, none⟩), .pointer (some ⟨vp, 0, none⟩), .pointer (some ⟨vd, 0, none⟩)]] w4
   fun e w' => e = .returned (.int .i64 (idl (burnB D))) ∧ Dev w' s (workD D a 16 (fP t.data.toList) (gP t.data.toList D.fm)) ∧ Onl s.S w4 w') := zh fun w4 vb vp vd cp q h4 hq hv => by rw [hs]; exact HWK.out w4 vb vp vd cp q h4 hq hv
 have HNV : Hid (∀ k, w.heap.size <= k -> k ∉ s.S) := zh fun k hk => zmt h hk
 have HLT : Hid (∀ k ∈ s.S, k < w.heap.size) := zh h.lt
 have hmf : ∀ (fn : Fn) (first cap : Array Value) (w : World), (Instr.makeFunc fn first cap).run Tryz.prog w = .ok (.func fn first cap) w := fun _ _ _ _ => rfl
 obtain ⟨n, hn⟩ : ∃ n, D.L.length = n := ⟨_, rfl⟩
 obtain ⟨j, hj⟩ : ∃ j, a / 64 = j := ⟨_, rfl⟩
 have q1 : (a : Int).tdiv 64 = (j : Int) := by rw [<- hj]; rfl
 have q2 : (a : Int) / 64 = (j : Int) := by rw [<- hj]; rfl
 have q3 : (j : Int) < n := by omega
 have hm3 : ((a : Int) % 16 != 0) = false := by
  have : (a : Int) % 16 = (a : Int).tmod 16 := (Int.tmod_eq_emod_of_nonneg (by omega)).symm
  rw [this, hm]; rfl
 have hm2 : (a : Int) % 16 = 0 := beq_iff_eq.1 (by simpa using hm3)
 have q4 : a / 64 = j := hj
 have hjb : (j : Int) <= 512 := by have := h.ok.top; omega
 have q5 : wrap64 (j : Int) = j := by unfold wrap64; omega
 rw [hn] at H5
 rw [hj] at H6
 obtain ⟨m, hme⟩ : ∃ m, D.C.length = m := ⟨_, rfl⟩
 obtain ⟨k1, hk1⟩ : ∃ k, s.k1 = k := ⟨_, rfl⟩
 rw [hme, hk1] at H4
 have e1 : (a : Int) <= m := by omega
 have e2 : (m : Int) <= k1 := by omega
 have e3 : ¬ k1 - a = 0 := by omega
 have e4 : ¬ (k1 : Int) - a = 0 := by omega
 have e5 : ¬ k1 = a := by omega
 have e6 : ¬ k1 <= a := by omega
 have e7 : a <= m := by omega
 have e8 : m <= k1 := by omega
 have e9 : (a : Int) < k1 := by omega
 have HQ : Hid (16 <= m - a) := zh (by omega)
 clear h hd hx hm hb hl hn hca hb2 hjn hj hrm hme hk1
 go_enter Tryz.func75, Tryz.ntmps75
 go_wp2_with (first
  | ((with_reducible refine wpBox1K (.pointer (some ⟨s.b, 0, none⟩)) 44 (zcq _) ?_ ?_); rfl; intro w1 r1 b1 s1; have R1 := zh r1; have B1 := zh b1; clear r1 b1 s1)
  | ((with_reducible refine wpBox1K (.string t) 9 (zdw _) ?_ ?_); rfl; intro w2 r2 b2 s2; have R2 := zh (R1.out.step b2); have RT2 := zh r2; have c1 := (R1.out.step b2).cell 0; have c2 := r2.cell 0; have B2 := zh (B1.out.next b2); have c4 := H4.out w2 B2.out; have c5 := H5.out w2 B2.out; have c6 := H6.out w2 B2.out; have D2 := zh (HDS.out w2 B2.out); have O2 := zh (Onl.of_below (S := s.S) B2.out); have S1 := zh B1.out.size; clear r2 b2 s2)
  | (go_at_call 81; (with_reducible refine (HX.out w2 B2.out).mono ?_); rintro e u1 ⟨rfl, rfl⟩)
  | (go_at_call 103; (first | (with_reducible refine (HY.out w2 B2.out).mono ?_) | (with_reducible refine (HYn.out w2 B2.out).mono ?_)); rintro e u1 ⟨rfl, rfl⟩)
  | ((with_reducible refine wpAlloc1K (.slice none 0 0) 107 (zfo _ _ _) zpu ?_ ?_); rfl; intro w3 r3 b3 s3; have D3 := zh (D2.out.step b3); have R3 := zh (R2.out.step b3); have RT3 := zh (RT2.out.step b3); have RB3 := zh r3; have O3 := zh (O2.out.step b3); clear r3 b3 s3)
  | ((with_reducible refine RB3.out.wpStore1K 0 107 (.slice (some ⟨s.o1, a, none⟩) (m - a) (k1 - a)) zmn (by decide) (zfo _ _ _) (zsb _ _ _) ?_ ?_); rfl; intro w4 r4 o4 s4; have D4 := zh (D3.out.onl (S := [w2.heap.size]) (Onl.of_only o4 (by simp)) (fun k hk hq => by have := D2.out.lt k hk; simp at hq; omega)); have R4 := zh (R3.out.only o4 (by have := R2.out.lt; omega)); have RT4 := zh (RT3.out.only o4 (by have := RT2.out.lt; omega)); have RB4 : Hid (Row w4 w2.heap.size 107 [.slice (some ⟨s.o1, a, none⟩) (m - a) (k1 - a)]) := zh r4; have O4 := zh (O3.out.only o4 (Or.inr O2.out.size)); have c14 := R4.out.cell 0; have c24 := RB4.out.cell 0; have c34 := RT4.out.cell 0; have CP : Hid (CapP w4 s a (k1 - a) w2.heap.size w1.heap.size w.heap.size (m - a) t) := zh ⟨c24, c34, c14, RB4.out.lt, RT4.out.lt, R4.out.lt, HNV.out _ O2.out.size, HNV.out _ S1.out, HNV.out _ (Nat.le_refl _)⟩; clear r4 o4 s4)
  | (go_at_call 84; (first | (with_reducible refine (HWK.out w4 _ _ _ _ _ D4.out HQ.out CP.out).mono ?_) | (with_reducible refine (HWKn.out w4 _ _ _ _ _ D4.out HQ.out CP.out).mono ?_)); rintro e w5 ⟨rfl, d5, o5⟩; have D5 := zh d5; have O5 := zh (O4.out.trans o5); clear d5 o5))
 go_ret
 exact ⟨rfl, D5.out, O5.out⟩
theorem zxs (s : Sh) (D : Dv) (x : Int) (t : ByteArray) (w : World) (h : Dev w s D) (hx : x < 9223372036854775808) (hs : t.size <= 140737488355328) :
  Calls Tryz.prog 75 #[.pointer (some ⟨s.b, 0, none⟩), .int .i64 x, .string t] w fun e w' => e = .returned (.int .i64 (programE D x t.data.toList)) ∧ Dev w' s (programD D x t.data.toList) ∧ Onl s.S w w' := by
 have hst : t.data.toList.length = t.size := zak t
 have bad : ∀ e w', programB D x t.data.toList = false -> Below w.heap.size w w' -> programE D x t.data.toList = e -> Ending.returned (.int .i64 e) = .returned (.int .i64 (programE D x t.data.toList)) ∧ Dev w' s (programD D x t.data.toList) ∧ Onl s.S w w' := fun e w' h1 hb h2 =>
  ⟨by rw [h2], by rw [programD, h1]; exact h.step hb, Onl.of_below hb⟩
 cases hd : D.dn with
 | true =>
  refine (zvk s D x t w h hd).mono ?_
  rintro e w' ⟨rfl, hb⟩
  exact bad _ _ (by rw [programB, hd]; rfl) hb (by rw [programE, hd]; rfl)
 | false =>
  by_cases hal : x.tmod 16 ≠ 0 ∨ t.size ≠ 16
  .refine (zsr s D x t w h hd hs hal).mono ?_
   rintro e w' ⟨rfl, hb⟩
   exact bad _ _ (by rw [programB, hd, hst, decide_eq_true hal]; rfl) hb (by rw [programE, hd, hst, if_pos hal]; rfl)
  .have h16 : t.size = 16 := by omega
   have hm : x.tmod 16 = 0 := by omega
   cases hb : bey D.C.length x 16 with
   | true =>
    refine (zxt s D x t w h hd hx h16 hm hb).mono ?_
    rintro e w' ⟨rfl, hbl⟩
    exact bad _ _ (by rw [programB, hb]; simp) hbl (by rw [programE, hd, hst, if_neg hal, hb]; rfl)
   | false =>
    have hb2 := of_decide_eq_false hb; obtain ⟨a, rfl⟩ : ∃ a : Nat, x = a := ⟨x.toNat, by omega⟩
    cases hl : D.L.getD (a / 64) false with
    | true =>
     refine (zqq s D a t w h hd hx h16 hm hb hl).mono ?_
     rintro e w' ⟨rfl, hbl⟩
     exact bad _ _ (by rw [programB, Int.toNat_natCast, hl]; simp) hbl (by rw [programE, hd, hst, if_neg hal, hb, Int.toNat_natCast, hl]; rfl)
    | false =>
     refine (zvl s D a t w h hd hx h16 hm hb hl).mono ?_
     rintro e w' ⟨rfl, h1, h2⟩
     have hE : programB D (a : Int) t.data.toList = true := by rw [programB, hd, hst, decide_eq_false hal, hb, Int.toNat_natCast, hl]; rfl
     exact ⟨by rw [programE, hd, hst, if_neg hal, hb, Int.toNat_natCast, hl]; rfl, by rw [programD, if_pos hE, Int.toNat_natCast]; exact h1, h2⟩
end
section
open Go.RowKit
section
variable {P : Program} {ops : Array Oper} {Q : Exit -> Act -> World -> Prop}
def puts (D : List (Nat × Nat)) (a : Act) (u : Nat -> Value) : Act := D.foldl (fun a p => a.put (some p.2) (u p.1)) a
def upd (u : Nat -> Value) (i : Nat) (v : Value) : Nat -> Value := fun j => if j = i then v else u j
theorem zbmz (a : Act) (d : Nat) (v v' : Value) : (a.put (some d) v).put (some d) v' = a.put (some d) v' := by
 simp [Act.put]
theorem zbjt (a : Act) (d : Nat) : a.put (some d) (a.tmps.getD d undef) = a := by
 simp only [Act.put]
 congr 1
 apply Array.ext_getElem?
 intro i
 rw [Array.getElem?_setIfInBounds]
 split
 .rename_i h
  subst h
  split
  .rename_i h; simp [h]
  .rename_i h; rw [Array.getElem?_eq_none (by omega)]
 .rfl
theorem zpe (u u' : Nat -> Value) : ∀ (D : List (Nat × Nat)) (a : Act), (∀ p ∈ D, u p.1 = u' p.1) -> puts D a u = puts D a u'
 | [], _, _ => rfl
 | p :: D, a, h => by
  show puts D (a.put (some p.2) (u p.1)) u = puts D (a.put (some p.2) (u' p.1)) u'
  rw [h p (List.mem_cons_self ..)]
  exact zpe u u' D _ fun q hq => h q (List.mem_cons_of_mem _ hq)
theorem zlg (u : Nat -> Value) : ∀ (D : List (Nat × Nat)) (a : Act) (d : Nat) (v : Value), (∀ p ∈ D, p.2 ≠ d) -> (puts D a u).put (some d) v = puts D (a.put (some d) v) u
 | [], _, _, _, _ => rfl
 | p :: D, a, d, v, h => by
  show (puts D _ u).put (some d) v = puts D _ u
  rw [zlg u D _ d v fun q hq => h q (List.mem_cons_of_mem _ hq)]
  rw [Act.put_comm a _ _ (fun x hx hy => h p (List.mem_cons_self ..) (by cases hx; cases hy; rfl))]
theorem zdd (u : Nat -> Value) (i d : Nat) (v : Value) : ∀ (D : List (Nat × Nat)) (a : Act), (D.map (·.1)).Nodup -> (D.map (·.2)).Nodup -> (i, d) ∈ D ->
  (puts D a u).put (some d) v = puts D a (upd u i v)
 | p :: D, a, h1, h2, hm => by
  rw [List.map_cons, List.nodup_cons] at h1 h2
  show (puts D _ u).put (some d) v = puts D (a.put (some p.2) (upd u i v p.1)) (upd u i v)
  rcases List.mem_cons.1 hm with rfl | hm
  .rw [zlg u D _ d v (fun q hq e => h2.1 (List.mem_map.2 ⟨q, hq, e⟩)), zbmz]
   have e1 : upd u i v i = v := by simp [upd]
   show puts D (a.put (some d) v) u = puts D (a.put (some d) (upd u i v i)) (upd u i v)
   rw [e1]
   refine zpe _ _ D _ fun q hq => ?_
   have : q.1 ≠ i := fun e => h1.1 (List.mem_map.2 ⟨q, hq, e⟩)
   simp [upd, this]
  .have hne : p.1 ≠ i := fun e => h1.1 (List.mem_map.2 ⟨(i, d), hm, e.symm⟩)
   have e1 : upd u i v p.1 = u p.1 := by simp [upd, hne]
   rw [e1]; exact zdd u i d v D _ h1.2 h2.2 hm
theorem zdi (u : Nat -> Value) (a : Act) : ∀ (D : List (Nat × Nat)), (∀ p ∈ D, u p.1 = a.tmps.getD p.2 undef) -> puts D a u = a
 | [], _ => rfl
 | p :: D, h => by
  show puts D (a.put (some p.2) (u p.1)) u = a
  rw [h p (List.mem_cons_self ..), zbjt]
  exact zdi u a D fun q hq => h q (List.mem_cons_of_mem _ hq)
def Came (ops : Array Oper) (φ : Nat -> Value -> World -> Prop) (u : Nat -> Value) (w : World) (i : Nat) : Prop :=
 ∀ o, ops[i]? = some o -> ∀ e ∈ o.after.toList, Region.binds .any e = true -> φ e.on (u e.on) w
def waitsB (ops : Array Oper) (i j : Nat) : Bool := (ops[i]?.map fun o => o.after.toList.any fun e => Region.binds .any e && Nat.beq e.on j).getD false
theorem Came.at {φ : Nat -> Value -> World -> Prop} {u : Nat -> Value} {w : World} {i : Nat} (h : Came ops φ u w i) (j : Nat) (hw : waitsB ops i j = true) : φ j (u j) w := by
 unfold waitsB at hw
 cases ho : ops[i]? with
 | none => rw [ho] at hw; cases hw
 | some o =>
  rw [ho] at hw
  simp only [Option.map_some, Option.getD_some, List.any_eq_true, Bool.and_eq_true, Nat.beq_eq] at hw
  obtain ⟨e, he, hb, rfl⟩ := hw
  exact h o ho e he hb
theorem mem_ready {listed : Array Bool} {i : Nat} : i ∈ Region.ready .any ops listed ↔
  i < ops.size ∧ listed.getD i true = false ∧ ∃ o, ops[i]? = some o ∧ ∀ e ∈ o.after.toList, Region.binds .any e = true -> listed.getD e.on false = true := by
 unfold Region.ready
 rw [List.mem_filter, List.mem_range]
 simp only [Bool.and_eq_true, Bool.not_eq_true']
 constructor
 .rintro ⟨h1, h2, h3⟩
  refine ⟨h1, h2, ?_⟩
  rw [Array.getElem?_eq_getElem h1] at h3
  refine ⟨_, Array.getElem?_eq_getElem h1, fun e he hb => ?_⟩
  simp only [Option.map_some, Option.getD_some, Array.all_eq_true_iff_forall_mem] at h3
  have := h3 e (by simpa using he)
  simpa [hb] using this
 .rintro ⟨h1, h2, o, ho, h3⟩
  refine ⟨h1, h2, ?_⟩
  rw [ho]
  simp only [Option.map_some, Option.getD_some, Array.all_eq_true_iff_forall_mem]
  intro e he
  cases hb : Region.binds .any e with
  | false => simp
  | true => simpa using h3 e (by simpa using he) hb
def ordB (ops : Array Oper) : Bool := (List.range ops.size).all fun i => (ops[i]?.map fun o => o.after.all fun e => decide (e.on < i)).getD true
theorem zog (hord : ordB ops = true) {listed : Array Bool} (hs : listed.size = ops.size) (h : Region.ready .any ops listed = []) : ∀ i, listed.getD i true = true := by
 intro i
 induction i using Nat.strongRecOn with
 | ind i ih =>
  cases hi : listed.getD i true with
  | true => rfl
  | false =>
   have hlt : i < ops.size := by
    rw [<- hs]
    by_cases hl : i < listed.size
    .exact hl
    .simp [Array.getD, hl] at hi
   have : i ∈ Region.ready .any ops listed := by
    refine mem_ready.2 ⟨hlt, hi, _, Array.getElem?_eq_getElem hlt, fun e he _ => ?_⟩
    unfold ordB at hord
    rw [List.all_eq_true] at hord; have h1 := hord i (List.mem_range.2 hlt); rw [Array.getElem?_eq_getElem hlt] at h1
    simp only [Option.map_some, Option.getD_some, Array.all_eq_true_iff_forall_mem] at h1
    have h2 := h1 e (by simpa using he)
    have hlt2 : e.on < i := by simpa using h2
    have h3 := ih e.on hlt2
    have hl : e.on < listed.size := by omega
    simpa [Array.getD, hl] using h3
   rw [h] at this
   cases this
theorem zbcc {o : Oper} {a : Act} {d : Nat} {R : Value -> World -> Prop} (hd : o.dst = some d) (hs : d < a.tmps.size) (r : Result Next)
  (h : o.upon P a (fun a' w' => a'.defers = a.defers ∧ R (a'.tmps.getD d undef) w') Q r) : o.upon P a (fun a' w' => ∃ v, a' = a.put (some d) v ∧ R v w') Q r := by
 have hg : ∀ v, (a.put o.dst v).tmps.getD d undef = v := fun v => by rw [hd]; simp [Act.put, hs]
 have hk : ∀ v w', (fun (a' : Act) (w' : World) => a'.defers = a.defers ∧ R (a'.tmps.getD d undef) w') (a.put o.dst v) w' -> (fun (a' : Act) (w' : World) => ∃ v, a' = a.put (some d) v ∧ R v w') (a.put o.dst v) w' := fun v w' h => by
  have h2 := h.2
  rw [hg] at h2
  exact ⟨v, by rw [hd], h2⟩
 cases r with
 | ok n w' =>
  cases n with
  | value v => exact hk v w' h
  | skip => exact hk undef w' h
  | defer e =>
   simp only [Oper.upon, hd, Act.put] at h
   have := congrArg List.length h.1
   simp at this
  | enter f args =>
   simp only [Oper.upon] at h ⊢
   refine Calls.mono h fun e w'' he => ?_
   cases e with
   | returned v => exact hk v w'' he
   | panicked c => exact he
   | outgrown => exact he
  | row row args =>
   simp only [Oper.upon] at h ⊢
   exact Rows.mono h fun v w'' he => hk v w'' he
  | _ => exact h
 | halt x w' => cases x <;> exact h
theorem zcp {i d : Nat} {o : Oper} {a : Act} {w : World} {R : Value -> World -> Prop} (ho : ops[i]? = some o) (hd : o.dst = some d) (hs : d < a.tmps.size)
  (h : wpOp P ops Q i (fun a' w' => a'.defers = a.defers ∧ R (a'.tmps.getD d undef) w') a w) : wpOp P ops Q i (fun a' w' => ∃ v, a' = a.put (some d) v ∧ R v w') a w := by
 unfold wpOp at *
 rw [ho] at h ⊢
 simp only at h ⊢
 split at h
 .rename_i hw
  rw [if_pos hw]
  rcases h with h | h
  .exact Or.inl (zbcc hd hs _ h)
  .exact Or.inr h
 .rename_i hw
  rw [if_neg hw]
  have h2 := h.2
  rw [hd] at h2 ⊢
  refine ⟨undef, rfl, ?_⟩
  simpa [Act.put, hs] using h2
theorem zcj (u : Nat -> Value) : ∀ (D : List (Nat × Nat)) (a : Act), (puts D a u).tmps.size = a.tmps.size
 | [], _ => rfl
 | p :: D, a => by
  show (puts D (a.put (some p.2) (u p.1)) u).tmps.size = _
  rw [zcj u D]
  simp [Act.put]
theorem zbpl {id : Nat} {a : Act} {w : World} (D : List (Nat × Nat)) (φ : Nat -> Value -> World -> Prop) (G : World -> Prop) (hm : P.follows .mixedOrders = true)
  (hord : ordB ops = true) (hD1 : D.map (·.1) = List.range ops.size) (hD2 : (D.map (·.2)).Nodup) (hD3 : (D.all fun p => (ops[p.1]?.bind (·.dst)) == some p.2) = true) (hD4 : (D.all fun p => Nat.blt p.2 a.tmps.size) = true)
  (hmono : ∀ i v w w', φ i v w -> Below w.heap.size w w' -> φ i v w') (hG : G w.drew)
  (step : ∀ p ∈ D, ∀ u w, G w -> Came ops φ u w p.1 ->
   wpOp P ops Q p.1 (fun a' w' => a'.defers = (puts D a u).defers ∧ φ p.1 (a'.tmps.getD p.2 undef) w' ∧ G w' ∧ Below w.heap.size w w') (puts D a u) w)
  (fin : ∀ u w, G w -> (∀ p ∈ D, φ p.1 (u p.1) w) -> Q .normal (puts D a u) w) : (Code.region id ops true).wp P Q a w := by
 refine wp_region_any hm ?_
 have hnd1 : (D.map (·.1)).Nodup := by rw [hD1]; exact List.nodup_range
 have key : ∀ (fuel : Nat) (listed : Array Bool) (w : World) (u : Nat -> Value) (L : List Nat), listed.size = ops.size -> L.length <= fuel -> (∀ i, listed.getD i true = false -> i ∈ L) -> G w ->
   (∀ i, i < ops.size -> listed.getD i true = true -> φ i (u i) w) -> wpAny P .any ops Q fuel listed (puts D a u) w := by
  intro fuel
  induction fuel with
  | zero =>
   intro listed w u L hs hL hin hg hφ
   have hall : ∀ i, listed.getD i true = true := fun i => by
    cases hi : listed.getD i true with
    | true => rfl
    | false => have := hin i hi; rw [List.length_eq_zero_iff.1 (Nat.le_zero.1 hL)] at this; cases this
   refine ⟨?_, fin u w hg fun p hp => hφ p.1 ?_ (hall _)⟩
   .rw [List.eq_nil_iff_forall_not_mem]
    intro i hi
    have := (mem_ready.1 hi).2.1
    rw [hall i] at this
    cases this
   .have : p.1 ∈ D.map (·.1) := List.mem_map.2 ⟨p, hp, rfl⟩
    rw [hD1] at this; exact List.mem_range.1 this
  | succ fuel ih =>
   intro listed w u L hs hL hin hg hφ
   refine ⟨fun hr => fin u w hg fun p hp => hφ p.1 ?_ (zog hord hs hr _), fun i hi => ?_⟩
   .have : p.1 ∈ D.map (·.1) := List.mem_map.2 ⟨p, hp, rfl⟩
    rw [hD1] at this; exact List.mem_range.1 this
   .obtain ⟨h1, h2, o, ho, h3⟩ := mem_ready.1 hi
    have hiD : i ∈ D.map (·.1) := by rw [hD1]; exact List.mem_range.2 h1
    obtain ⟨⟨i', d⟩, hp, rfl⟩ := List.mem_map.1 hiD
    have hst := step _ hp u w hg (fun o' ho' e he hb => by
     have heq : o' = o := Option.some.inj (ho'.symm.trans ho)
     subst heq; have hl := h3 e he hb
     have hlt : e.on < ops.size := by
      rw [<- hs]
      by_cases hl2 : e.on < listed.size
      .exact hl2
      .simp [Array.getD, hl2] at hl
     refine hφ e.on hlt ?_
     have hl2 : e.on < listed.size := by omega
     simpa [Array.getD, hl2] using hl)
    have hd3 := List.all_eq_true.1 hD3 _ hp; have hd4 := List.all_eq_true.1 hD4 _ hp
    simp only [ho, Option.bind_some, beq_iff_eq] at hd3
    have hd5 : d < a.tmps.size := by simp [Nat.blt] at hd4; omega
    have hst2 := zcp (R := fun v w' => φ i' v w' ∧ G w' ∧ Below w.heap.size w w') ho hd3 (by rw [zcj]; exact hd5) hst
    clear hst
    refine wpOp_mono ?_ hst2
    rintro a' w' ⟨v, rfl, hv, hg', hb'⟩
    rw [zdd u i' d v D a hnd1 hD2 hp]
    refine ih _ w' (upd u i' v) (L.erase i') (by simpa using hs) ?_ ?_ hg' ?_
    .rw [List.length_erase_of_mem (hin i' h2)]
     omega
    .intro j hj
     have hji : j ≠ i' := fun e => by
      subst e
      have : j < listed.size := by omega
      simp [Array.getD, this] at hj
     refine (List.mem_erase_of_ne hji).2 (hin j ?_)
     simp only [Array.getD] at hj ⊢
     split at hj
     .rename_i hl
      rw [Array.size_setIfInBounds] at hl; rw [dif_pos hl]
      rwa [Array.getInternal_eq_getElem, Array.getElem_setIfInBounds_ne (h := Ne.symm hji)] at hj
     .cases hj
    .intro j hj hl
     by_cases hji : j = i'
     .subst hji
      simpa [upd] using hv
     .have e1 : upd u i' v j = u j := by simp [upd, hji]
      rw [e1]
      refine hmono j _ w w' (hφ j hj ?_) hb'
      have hl2 : j < listed.size := by omega
      simp only [Array.getD, Array.size_setIfInBounds, hl2, dif_pos, Array.getInternal_eq_getElem] at hl ⊢
      rwa [Array.getElem_setIfInBounds_ne (h := Ne.symm hji)] at hl
 have hu : ∃ u : Nat -> Value, puts D a u = a := by
  refine ⟨fun i => ((D.find? fun p => p.1 == i).map fun p => a.tmps.getD p.2 undef).getD undef, zdi _ _ _ fun p hp => ?_⟩
  have : D.find? (fun q => q.1 == p.1) = some p := by
   clear fin step hD2 hD1 hD3 hD4 key
   induction D with
   | nil => cases hp
   | cons q D ih =>
    rw [List.map_cons, List.nodup_cons] at hnd1
    rcases List.mem_cons.1 hp with rfl | hp
    .simp
    .have hne : (q.1 == p.1) = false := by
      rw [beq_eq_false_iff_ne]; intro e; exact hnd1.1 (List.mem_map.2 ⟨p, hp, e.symm⟩)
     rw [List.find?_cons, hne]
     exact ih hnd1.2 hp
  simp only [this, Option.map_some, Option.getD_some]
 obtain ⟨u, hu⟩ := hu
 have := key ops.size (Array.replicate ops.size false) w.drew u (List.range ops.size) (by simp) (by simp) (fun i hi => by
  rw [List.mem_range]
  by_cases hl : i < ops.size
  .exact hl
  .simp [Array.getD, hl] at hi) hG (fun i hi hl => by simp [Array.getD, hi] at hl)
 rw [hu] at this
 exact this
def reachB (ops : Array Oper) : Nat -> Nat -> Nat -> Bool
 | 0, _, _ => false
 | f + 1, i, j => (ops[i]?.map fun o => o.after.toList.any fun e => Region.binds .any e && (Nat.beq e.on j || reachB ops f e.on j)).getD false
def closeB (ops : Array Oper) (n f : Nat) : Bool := (List.range ops.size).all fun i => Nat.blt i n || (List.range n).all fun j => reachB ops f i j
def Anc (ops : Array Oper) (listed : Array Bool) : Prop := ∀ i o, ops[i]? = some o -> listed.getD i false = true -> ∀ e ∈ o.after.toList, Region.binds .any e = true -> listed.getD e.on false = true
theorem zdf {listed : Array Bool} (h : Anc ops listed) : ∀ (f i j : Nat), (∀ o, ops[i]? = some o -> ∀ e ∈ o.after.toList, Region.binds .any e = true -> listed.getD e.on false = true) -> reachB ops f i j = true -> listed.getD j false = true
 | 0, _, _, _, hr => by cases hr
 | f + 1, i, j, hi, hr => by
  rw [reachB] at hr
  cases ho : ops[i]? with
  | none => rw [ho] at hr; cases hr
  | some o =>
   rw [ho] at hr
   simp only [Option.map_some, Option.getD_some, List.any_eq_true, Bool.and_eq_true, Bool.or_eq_true, Nat.beq_eq] at hr
   obtain ⟨e, he, hb, hr⟩ := hr; have hl := hi o ho e he hb
   rcases hr with rfl | hr
   .exact hl
   .exact zdf h f e.on j (fun o' ho' e' he' hb' => h e.on o' ho' hl e' he' hb') hr
theorem zbc {l : Array Bool} {i : Nat} (h : i < l.size) : (l.setIfInBounds i true).getD i false = true := by simp [Array.getD, h]
theorem zae {l : Array Bool} {i j : Nat} {d : Bool} (h : i ≠ j) : (l.setIfInBounds i true).getD j d = l.getD j d := by
 simp only [Array.getD, Array.size_setIfInBounds]
 split
 .rename_i hl
  rw [Array.getInternal_eq_getElem, Array.getElem_setIfInBounds_ne (h := h)]
  rfl
 .rfl
theorem zdr {id : Nat} {a : Act} {w : World} (n : Nat) (D : List (Nat × Nat)) (φ : Nat -> Value -> World -> Prop) (G : World -> Prop) (hm : P.follows .mixedOrders = true) (hn : n <= ops.size)
  (hord : ordB ops = true) (hcl : closeB ops n ops.size = true) (hseq : Region.seqB .any ops (ops.size - n) n ((Array.range ops.size).map (Nat.blt · n)) = true)
  (hD1 : D.map (·.1) = List.range n) (hD2 : (D.map (·.2)).Nodup) (hD3 : (D.all fun p => (ops[p.1]?.bind (·.dst)) == some p.2) = true) (hD4 : (D.all fun p => Nat.blt p.2 a.tmps.size) = true)
  (hmono : ∀ i v w w', φ i v w -> Below w.heap.size w w' -> φ i v w') (hG : G w.drew)
  (step : ∀ p ∈ D, ∀ u w, G w -> Came ops φ u w p.1 ->
   wpOp P ops Q p.1 (fun a' w' => a'.defers = (puts D a u).defers ∧ φ p.1 (a'.tmps.getD p.2 undef) w' ∧ G w' ∧ Below w.heap.size w w') (puts D a u) w)
  (fin : ∀ u w, G w -> (∀ p ∈ D, φ p.1 (u p.1) w) -> wpList P ops Q (ops.toList.drop n) (puts D a u) w) : (Code.region id ops true).wp P Q a w := by
 refine wp_region_any hm ?_
 have hnd1 : (D.map (·.1)).Nodup := by rw [hD1]; exact List.nodup_range
 have hclose : ∀ i, n <= i -> i < ops.size -> ∀ j, j < n -> reachB ops ops.size i j = true := by
  intro i h1 h2 j hj
  have := List.all_eq_true.1 hcl i (List.mem_range.2 h2)
  rw [Bool.or_eq_true] at this
  rcases this with h | h
  .simp [Nat.blt] at h; omega
  .exact List.all_eq_true.1 h j (List.mem_range.2 hj)
 have key : ∀ (m : Nat) (L : List Nat) (listed : Array Bool) (w : World) (u : Nat -> Value), L.length = m -> L.Nodup -> listed.size = ops.size -> (∀ i, i < n -> (listed.getD i false = false ↔ i ∈ L)) -> (∀ i ∈ L, i < n) ->
   (∀ i, n <= i -> listed.getD i false = false) -> Anc ops listed -> G w -> (∀ i, i < n -> listed.getD i false = true -> φ i (u i) w) -> wpAny P .any ops Q (m + (ops.size - n)) listed (puts D a u) w := by
  intro m
  induction m with
  | zero =>
   intro L listed w u hL _ hs hin _ hout _ hg hφ
   have hLe : L = [] := List.length_eq_zero_iff.1 hL
   subst hLe
   have hall : ∀ i, i < n -> listed.getD i false = true := fun i hi => by
    cases h : listed.getD i false with
    | true => rfl
    | false => have := (hin i hi).1 h; cases this
   have el : listed = (Array.range ops.size).map (Nat.blt · n) := by
    apply Array.ext
    .simp [hs]
    .intro i h1 h2
     rw [Array.getElem_map, Array.getElem_range]
     have e1 : listed.getD i false = listed[i] := by simp [Array.getD, h1]
     rw [<- e1]
     have hb : Nat.blt i n = decide (i < n) := by
      rw [Bool.eq_iff_iff, decide_eq_true_eq]; exact Iff.of_eq Nat.ble_eq
     rw [hb]
     by_cases hi : i < n
     .rw [hall i hi, decide_eq_true hi]
     .rw [hout i (by omega), decide_eq_false hi]
   have hlen : (ops.toList.drop n).length = ops.size - n := by simp
   rw [Nat.zero_add, <- hlen]
   refine wpAny_of_seq (ops.toList.drop n) n listed _ w (fun j => by simp) (by rw [hlen, el]; exact hseq) (fin u w hg fun p hp => hφ p.1 ?_ ?_)
   .have : p.1 ∈ D.map (·.1) := List.mem_map.2 ⟨p, hp, rfl⟩
    rw [hD1] at this; exact List.mem_range.1 this
   .have : p.1 ∈ D.map (·.1) := List.mem_map.2 ⟨p, hp, rfl⟩
    rw [hD1] at this; exact hall _ (List.mem_range.1 this)
  | succ m ih =>
   intro L listed w u hL hnd hs hin hLn hout hanc hg hφ
   have hne : ∃ i0, i0 ∈ L := by
    cases L with
    | nil => cases hL
    | cons i0 L => exact ⟨i0, List.mem_cons_self ..⟩
   obtain ⟨i0, hi0⟩ := hne; have hi0n := hLn i0 hi0; have hi0f := (hin i0 hi0n).2 hi0; rw [Nat.succ_add]
   refine ⟨fun hr => ?_, fun i hi => ?_⟩
   .have := zog hord hs hr i0
    have hl : i0 < listed.size := by omega
    simp [Array.getD, hl] at this hi0f
    rw [this] at hi0f
    cases hi0f
   .obtain ⟨h1, h2, o, ho, h3⟩ := mem_ready.1 hi
    have hin' : i < n := by
     by_cases hlt : i < n
     .exact hlt
     .have := zdf hanc ops.size i i0 (fun o' ho' e he hb => by
       obtain rfl := Option.some.inj (ho'.symm.trans ho); exact h3 e he hb) (hclose i (by omega) h1 i0 hi0n)
      rw [hi0f] at this
      cases this
    have hil : i < listed.size := by omega
    have h2f : listed.getD i false = false := by simp [Array.getD, hil] at h2 ⊢; exact h2
    have hiL := (hin i hin').1 h2f
    have hiD : i ∈ D.map (·.1) := by rw [hD1]; exact List.mem_range.2 hin'
    obtain ⟨⟨i', d⟩, hp, rfl⟩ := List.mem_map.1 hiD
    simp only at h1 h2 ho h3 hin' hil h2f hiL
    have hst := step _ hp u w hg (fun o' ho' e he hb => by
     obtain rfl := Option.some.inj (ho'.symm.trans ho); have hl := h3 e he hb
     have hen : e.on < n := by
      by_cases hlt : e.on < n
      .exact hlt
      .rw [hout e.on (by omega)] at hl; cases hl
     exact hφ e.on hen hl)
    have hd3 := List.all_eq_true.1 hD3 _ hp; have hd4 := List.all_eq_true.1 hD4 _ hp
    simp only [ho, Option.bind_some, beq_iff_eq] at hd3
    have hd5 : d < a.tmps.size := by simp [Nat.blt] at hd4; omega
    have hst2 := zcp (R := fun v w' => φ i' v w' ∧ G w' ∧ Below w.heap.size w w') ho hd3 (by rw [zcj]; exact hd5) hst
    clear hst
    refine wpOp_mono ?_ hst2
    rintro a' w' ⟨v, rfl, hv, hg', hb'⟩
    rw [zdd u i' d v D a hnd1 hD2 hp]
    refine ih (L.erase i') _ w' (upd u i' v) (by rw [List.length_erase_of_mem hiL]; omega) (hnd.erase i') (by simpa using hs) ?_ (fun j hj => hLn j (List.mem_of_mem_erase hj)) ?_ ?_ hg' ?_
    .intro j hj
     by_cases e : i' = j
     .subst e
      rw [zbc hil]
      constructor
      .intro h; cases h
      .intro h; exact absurd h (hnd.not_mem_erase)
     .rw [zae e, hin j hj]
      exact (List.mem_erase_of_ne (Ne.symm e)).symm
    .intro j hj
     rw [zae (by omega)]
     exact hout j hj
    .intro j o' ho' hl e he hb
     by_cases ej : i' = j
     .subst ej
      obtain rfl := Option.some.inj (ho'.symm.trans ho)
      have := h3 e he hb
      by_cases e2 : i' = e.on
      .rw [<- e2, zbc hil]
      .rw [zae e2]; exact this
     .rw [zae ej] at hl
      have := hanc j o' ho' hl e he hb
      by_cases e2 : i' = e.on
      .rw [<- e2, zbc hil]
      .rw [zae e2]; exact this
    .intro j hj hl
     by_cases hji : j = i'
     .subst hji
      simpa [upd] using hv
     .have e1 : upd u i' v j = u j := by simp [upd, hji]
      rw [e1]; rw [zae (Ne.symm hji)] at hl; exact hmono j _ w w' (hφ j hj hl) hb'
 have hu : ∃ u : Nat -> Value, puts D a u = a := by
  refine ⟨fun i => ((D.find? fun p => p.1 == i).map fun p => a.tmps.getD p.2 undef).getD undef, zdi _ _ _ fun p hp => ?_⟩
  have : D.find? (fun q => q.1 == p.1) = some p := by
   clear fin step hD2 hD1 hD3 hD4 key
   induction D with
   | nil => cases hp
   | cons q D ih =>
    rw [List.map_cons, List.nodup_cons] at hnd1
    rcases List.mem_cons.1 hp with rfl | hp
    .simp
    .have hne : (q.1 == p.1) = false := by
      rw [beq_eq_false_iff_ne]; intro e; exact hnd1.1 (List.mem_map.2 ⟨p, hp, e.symm⟩)
     rw [List.find?_cons, hne]
     exact ih hnd1.2 hp
  simp only [this, Option.map_some, Option.getD_some]
 obtain ⟨u, hu⟩ := hu
 have hf : ∀ i, (Array.replicate ops.size false).getD i false = false := fun i => by
  by_cases h : i < ops.size <;> simp [Array.getD, h]
 have := key n (List.range n) (Array.replicate ops.size false) w.drew u (by simp) List.nodup_range (by simp) (fun i hi => by rw [hf]; simpa using hi) (fun i hi => List.mem_range.1 hi) (fun i _ => hf i)
  (fun i o _ hl => by rw [hf] at hl; cases hl) hG (fun i _ hl => by rw [hf] at hl; cases hl)
 rw [hu, show n + (ops.size - n) = ops.size by omega] at this
 exact this
end
def Is (x : Value) : Value -> World -> Prop := fun v _ => v = x
def New (xs : List Value) : Value -> World -> Prop := fun v w => ∃ b, v = .slice (some ⟨b, 0, none⟩) xs.length xs.length ∧ Lies w w.heap.size (some ⟨b, 0, none⟩) xs
def Monot (φ : Value -> World -> Prop) : Prop := ∀ v w w', φ v w -> Below w.heap.size w w' -> φ v w'
theorem Is.monot (x : Value) : Monot (Is x) := fun _ _ _ h _ => h
theorem zK {A : Act} {w : World} {D : List Deferred} {q : Act → World → Prop} {G : World → Prop} {K : Act → World → Prop} (hK : ∀ a' w', a'.defers = D ∧ q a' w' ∧ G w' ∧ Below w.heap.size w w' → K a' w') (hg : G w) (h1 : A.defers = D := by exact rfl) (h2 : q A w := by exact rfl) : K A w := hK _ _ ⟨h1, h2, hg, Below.refl _ _⟩
theorem zu {a : Act} {u : Nat → Value} : puts [] a u = a := rfl
theorem zv {i d : Nat} {D : List (Nat × Nat)} {a : Act} {u : Nat → Value} : puts ((i, d) :: D) a u = puts D (a.put (some d) (u i)) u := rfl
theorem zj {ops : Array Oper} {φ : Nat → Value → World → Prop} {u : Nat → Value} {w : World} {i : Nat} (hC : Came ops φ u w i) (j : Nat) {v : Value} (hw : waitsB ops i j = true := by kernel_rfl) (h : φ j = Is v := by rfl) : u j = v := by
 have h2 := hC.at j hw
 rw [h] at h2
 exact h2
theorem New.monot (xs : List Value) : Monot (New xs) := fun _ _ _ ⟨b, h1, h2⟩ hb => ⟨b, h1, h2.step hb⟩
end
section
open Go.RowKit
section
variable {P : Program} {ops : Array Oper} {Q : Exit -> Act -> World -> Prop}
def ordX (ops : Array Oper) : Bool := (List.range ops.size).all fun i => (ops[i]?.map fun o => o.after.all fun e => !Region.binds .any e || decide (e.on < i)).getD true
theorem zdb (hord : ordX ops = true) {listed : Array Bool} (hs : listed.size = ops.size) (h : Region.ready .any ops listed = []) : ∀ i, listed.getD i true = true := by
 intro i
 induction i using Nat.strongRecOn with
 | ind i ih =>
  cases hi : listed.getD i true with
  | true => rfl
  | false =>
   have hlt : i < ops.size := by
    rw [<- hs]
    by_cases hl : i < listed.size
    .exact hl
    .simp [Array.getD, hl] at hi
   have : i ∈ Region.ready .any ops listed := by
    refine mem_ready.2 ⟨hlt, hi, _, Array.getElem?_eq_getElem hlt, fun e he hbd => ?_⟩
    unfold ordX at hord
    rw [List.all_eq_true] at hord; have h1 := hord i (List.mem_range.2 hlt); rw [Array.getElem?_eq_getElem hlt] at h1
    simp only [Option.map_some, Option.getD_some, Array.all_eq_true_iff_forall_mem] at h1
    have h2 := h1 e (by simpa using he)
    have hlt2 : e.on < i := by simpa [hbd] using h2
    have h3 := ih e.on hlt2
    have hl : e.on < listed.size := by omega
    simpa [Array.getD, hl] using h3
   rw [h] at this
   cases this
theorem zbgs {o : Oper} {a : Act} {R : World -> Prop} (hd : o.dst = none) (r : Result Next)
  (h : o.upon P a (fun a' w' => a'.defers = a.defers ∧ R w') Q r) : o.upon P a (fun a' w' => a' = a ∧ R w') Q r := by
 have hput : ∀ v, a.put o.dst v = a := fun v => by rw [hd]; rfl
 have hk : ∀ v w', (fun (a' : Act) (w' : World) => a'.defers = a.defers ∧ R w') (a.put o.dst v) w' -> (fun (a' : Act) (w' : World) => a' = a ∧ R w') (a.put o.dst v) w' := fun v w' h => ⟨hput v, h.2⟩
 cases r with
 | ok n w' =>
  cases n with
  | value v => exact hk v w' h
  | skip => exact hk undef w' h
  | defer e =>
   simp only [Oper.upon, hd, Act.put] at h
   have := congrArg List.length h.1
   simp at this
  | enter f args =>
   simp only [Oper.upon] at h ⊢
   refine Calls.mono h fun e w'' he => ?_
   cases e with
   | returned v => exact hk v w'' he
   | panicked c => exact he
   | outgrown => exact he
  | row row args =>
   simp only [Oper.upon] at h ⊢
   exact Rows.mono h fun v w'' he => hk v w'' he
  | _ => exact h
 | halt x w' => cases x <;> exact h
theorem zsd {i : Nat} {o : Oper} {a : Act} {w : World} {R : World -> Prop} (ho : ops[i]? = some o) (hd : o.dst = none)
  (h : wpOp P ops Q i (fun a' w' => a'.defers = a.defers ∧ R w') a w) : wpOp P ops Q i (fun a' w' => a' = a ∧ R w') a w := by
 unfold wpOp at *
 rw [ho] at h ⊢
 simp only at h ⊢
 split at h
 .rename_i hw
  rw [if_pos hw]
  rcases h with h | h
  .exact Or.inl (zbgs hd _ h)
  .exact Or.inr h
 .rename_i hw
  rw [if_neg hw]
  refine ⟨by rw [hd]; rfl, h.2⟩
theorem zaj {id : Nat} {a : Act} {w : World} (D : List (Nat × Nat)) (φ : Nat -> Value -> World -> Prop) (G : World -> Prop) (hm : P.follows .mixedOrders = true)
  (hord : ordX ops = true) (hD1 : D.map (·.1) = List.range ops.size) (hD2 : (D.map (·.2)).Nodup) (hD3 : (D.all fun p => (ops[p.1]?.bind (·.dst)) == some p.2) = true) (hD4 : (D.all fun p => Nat.blt p.2 a.tmps.size) = true)
  (hmono : ∀ i v w w', φ i v w -> Below w.heap.size w w' -> φ i v w') (hG : G w.drew)
  (step : ∀ p ∈ D, ∀ u w, G w -> Came ops φ u w p.1 ->
   wpOp P ops Q p.1 (fun a' w' => a'.defers = (puts D a u).defers ∧ φ p.1 (a'.tmps.getD p.2 undef) w' ∧ G w' ∧ Below w.heap.size w w') (puts D a u) w)
  (fin : ∀ u w, G w -> (∀ p ∈ D, φ p.1 (u p.1) w) -> Q .normal (puts D a u) w) : (Code.region id ops true).wp P Q a w := by
 refine wp_region_any hm ?_
 have hnd1 : (D.map (·.1)).Nodup := by rw [hD1]; exact List.nodup_range
 have key : ∀ (fuel : Nat) (listed : Array Bool) (w : World) (u : Nat -> Value) (L : List Nat), listed.size = ops.size -> L.length <= fuel -> (∀ i, listed.getD i true = false -> i ∈ L) -> G w ->
   (∀ i, i < ops.size -> listed.getD i true = true -> φ i (u i) w) -> wpAny P .any ops Q fuel listed (puts D a u) w := by
  intro fuel
  induction fuel with
  | zero =>
   intro listed w u L hs hL hin hg hφ
   have hall : ∀ i, listed.getD i true = true := fun i => by
    cases hi : listed.getD i true with
    | true => rfl
    | false => have := hin i hi; rw [List.length_eq_zero_iff.1 (Nat.le_zero.1 hL)] at this; cases this
   refine ⟨?_, fin u w hg fun p hp => hφ p.1 ?_ (hall _)⟩
   .rw [List.eq_nil_iff_forall_not_mem]
    intro i hi
    have := (mem_ready.1 hi).2.1
    rw [hall i] at this
    cases this
   .have : p.1 ∈ D.map (·.1) := List.mem_map.2 ⟨p, hp, rfl⟩
    rw [hD1] at this; exact List.mem_range.1 this
  | succ fuel ih =>
   intro listed w u L hs hL hin hg hφ
   refine ⟨fun hr => fin u w hg fun p hp => hφ p.1 ?_ (zdb hord hs hr _), fun i hi => ?_⟩
   .have : p.1 ∈ D.map (·.1) := List.mem_map.2 ⟨p, hp, rfl⟩
    rw [hD1] at this; exact List.mem_range.1 this
   .obtain ⟨h1, h2, o, ho, h3⟩ := mem_ready.1 hi
    have hiD : i ∈ D.map (·.1) := by rw [hD1]; exact List.mem_range.2 h1
    obtain ⟨⟨i', d⟩, hp, rfl⟩ := List.mem_map.1 hiD
    have hst := step _ hp u w hg (fun o' ho' e he hb => by
     have heq : o' = o := Option.some.inj (ho'.symm.trans ho)
     subst heq; have hl := h3 e he hb
     have hlt : e.on < ops.size := by
      rw [<- hs]
      by_cases hl2 : e.on < listed.size
      .exact hl2
      .simp [Array.getD, hl2] at hl
     refine hφ e.on hlt ?_
     have hl2 : e.on < listed.size := by omega
     simpa [Array.getD, hl2] using hl)
    have hd3 := List.all_eq_true.1 hD3 _ hp; have hd4 := List.all_eq_true.1 hD4 _ hp
    simp only [ho, Option.bind_some, beq_iff_eq] at hd3
    have hd5 : d < a.tmps.size := by simp [Nat.blt] at hd4; omega
    have hst2 := zcp (R := fun v w' => φ i' v w' ∧ G w' ∧ Below w.heap.size w w') ho hd3 (by rw [zcj]; exact hd5) hst
    clear hst
    refine wpOp_mono ?_ hst2
    rintro a' w' ⟨v, rfl, hv, hg', hb'⟩
    rw [zdd u i' d v D a hnd1 hD2 hp]
    refine ih _ w' (upd u i' v) (L.erase i') (by simpa using hs) ?_ ?_ hg' ?_
    .rw [List.length_erase_of_mem (hin i' h2)]
     omega
    .intro j hj
     have hji : j ≠ i' := fun e => by
      subst e
      have : j < listed.size := by omega
      simp [Array.getD, this] at hj
     refine (List.mem_erase_of_ne hji).2 (hin j ?_)
     simp only [Array.getD] at hj ⊢
     split at hj
     .rename_i hl
      rw [Array.size_setIfInBounds] at hl; rw [dif_pos hl]
      rwa [Array.getInternal_eq_getElem, Array.getElem_setIfInBounds_ne (h := Ne.symm hji)] at hj
     .cases hj
    .intro j hj hl
     by_cases hji : j = i'
     .subst hji
      simpa [upd] using hv
     .have e1 : upd u i' v j = u j := by simp [upd, hji]
      rw [e1]
      refine hmono j _ w w' (hφ j hj ?_) hb'
      have hl2 : j < listed.size := by omega
      simp only [Array.getD, Array.size_setIfInBounds, hl2, dif_pos, Array.getInternal_eq_getElem] at hl ⊢
      rwa [Array.getElem_setIfInBounds_ne (h := Ne.symm hji)] at hl
 have hu : ∃ u : Nat -> Value, puts D a u = a := by
  refine ⟨fun i => ((D.find? fun p => p.1 == i).map fun p => a.tmps.getD p.2 undef).getD undef, zdi _ _ _ fun p hp => ?_⟩
  have : D.find? (fun q => q.1 == p.1) = some p := by
   clear fin step hD2 hD1 hD3 hD4 key
   induction D with
   | nil => cases hp
   | cons q D ih =>
    rw [List.map_cons, List.nodup_cons] at hnd1
    rcases List.mem_cons.1 hp with rfl | hp
    .simp
    .have hne : (q.1 == p.1) = false := by
      rw [beq_eq_false_iff_ne]; intro e; exact hnd1.1 (List.mem_map.2 ⟨p, hp, e.symm⟩)
     rw [List.find?_cons, hne]
     exact ih hnd1.2 hp
  simp only [this, Option.map_some, Option.getD_some]
 obtain ⟨u, hu⟩ := hu
 have := key ops.size (Array.replicate ops.size false) w.drew u (List.range ops.size) (by simp) (by simp) (fun i hi => by
  rw [List.mem_range]
  by_cases hl : i < ops.size
  .exact hl
  .simp [Array.getD, hl] at hi) hG (fun i hi hl => by simp [Array.getD, hi] at hl)
 rw [hu] at this
 exact this
theorem zdq {l : Array Bool} {i : Nat} (h : i < l.size) : l.getD i true = l.getD i false := by simp [Array.getD, h]
theorem zdu {id : Nat} {a : Act} {w : World} (s : Nat) (X : List Nat) (D : List (Nat × Nat)) (φ : Nat -> Value -> World -> Prop) (G H : World -> Prop) (hm : P.follows .mixedOrders = true)
  (hsz : ops.size = s + 1) (hord : ordX ops = true) (hcl : ((List.range s).all fun j => X.contains j || reachB ops ops.size s j) = true)
  (hD1 : D.map (·.1) = List.range s) (hD2 : (D.map (·.2)).Nodup) (hD3 : (D.all fun p => (ops[p.1]?.bind (·.dst)) == some p.2) = true) (hD4 : (D.all fun p => Nat.blt p.2 a.tmps.size) = true)
  (hS : (ops[s]?.map (·.dst)) = some none) (hmono : ∀ i v w w', φ i v w -> Below w.heap.size w w' -> φ i v w') (hG : G w.drew)
  (step : ∀ p ∈ D, ∀ u w, G w -> Came ops φ u w p.1 ->
   wpOp P ops Q p.1 (fun a' w' => a'.defers = (puts D a u).defers ∧ φ p.1 (a'.tmps.getD p.2 undef) w' ∧ G w' ∧ Below w.heap.size w w') (puts D a u) w)
  (stepX : ∀ p ∈ D, p.1 ∈ X -> ∀ u w, H w -> Came ops (fun i v _ => ∃ w1, φ i v w1) u w p.1 ->
   wpOp P ops Q p.1 (fun a' w' => a'.defers = (puts D a u).defers ∧ (∃ w1, φ p.1 (a'.tmps.getD p.2 undef) w1) ∧ H w') (puts D a u) w)
  (stepS : ∀ u w, G w -> (∀ p ∈ D, p.1 ∉ X -> φ p.1 (u p.1) w) -> wpOp P ops Q s (fun a' w' => a'.defers = (puts D a u).defers ∧ H w') (puts D a u) w)
  (fin : ∀ u w, H w -> (∀ p ∈ D, ∃ w1, φ p.1 (u p.1) w1) -> Q .normal (puts D a u) w) : (Code.region id ops true).wp P Q a w := by
 refine wp_region_any hm ?_
 have hnd1 : (D.map (·.1)).Nodup := by rw [hD1]; exact List.nodup_range
 have hmemD : ∀ i, i < s -> ∃ d, (i, d) ∈ D := fun i hi => by
  have : i ∈ D.map (·.1) := by rw [hD1]; exact List.mem_range.2 hi
  obtain ⟨⟨i', d⟩, hp, rfl⟩ := List.mem_map.1 this
  exact ⟨d, hp⟩
 have hltD : ∀ p ∈ D, p.1 < s := fun p hp => by
  have : p.1 ∈ D.map (·.1) := List.mem_map.2 ⟨p, hp, rfl⟩
  rw [hD1] at this
  exact List.mem_range.1 this
 have hclX : ∀ j, j < s -> j ∉ X -> reachB ops ops.size s j = true := fun j hj hx => by
  have := List.all_eq_true.1 hcl j (List.mem_range.2 hj)
  rw [Bool.or_eq_true] at this
  rcases this with h | h
  .exact absurd (by simpa using h) hx
  .exact h
 have hslot : ∀ p ∈ D, ∀ o, ops[p.1]? = some o -> o.dst = some p.2 ∧ p.2 < a.tmps.size := fun p hp o ho => by
  have hd3 := List.all_eq_true.1 hD3 _ hp
  have hd4 := List.all_eq_true.1 hD4 _ hp
  simp only [ho, Option.bind_some, beq_iff_eq] at hd3
  exact ⟨hd3, by simp [Nat.blt] at hd4; omega⟩
 have keyB : ∀ (fuel : Nat) (listed : Array Bool) (w : World) (u : Nat -> Value) (L : List Nat), listed.size = ops.size -> L.length <= fuel -> (∀ i, listed.getD i true = false -> i ∈ L) -> H w ->
   (∀ i, listed.getD i true = false -> i < s ∧ i ∈ X) -> (∀ i, i < s -> listed.getD i true = true -> ∃ w1, φ i (u i) w1) -> wpAny P .any ops Q fuel listed (puts D a u) w := by
  intro fuel
  induction fuel with
  | zero =>
   intro listed w u L hs hL hin hh hX hφ
   have hall : ∀ i, listed.getD i true = true := fun i => by
    cases hi : listed.getD i true with
    | true => rfl
    | false => have := hin i hi; rw [List.length_eq_zero_iff.1 (Nat.le_zero.1 hL)] at this; cases this
   refine ⟨?_, fin u w hh fun p hp => hφ p.1 (hltD p hp) (hall _)⟩
   rw [List.eq_nil_iff_forall_not_mem]; intro i hi
   have := (mem_ready.1 hi).2.1
   rw [hall i] at this
   cases this
  | succ fuel ih =>
   intro listed w u L hs hL hin hh hX hφ
   refine ⟨fun hr => fin u w hh fun p hp => hφ p.1 (hltD p hp) (zdb hord hs hr _), fun i hi => ?_⟩
   obtain ⟨h1, h2, o, ho, h3⟩ := mem_ready.1 hi; obtain ⟨his, hiX⟩ := hX i h2; obtain ⟨d, hp⟩ := hmemD i his
   have hst := stepX _ hp hiX u w hh (fun o' ho' e he hb => by
    obtain rfl := Option.some.inj (ho'.symm.trans ho); have hl := h3 e he hb
    have hlt : e.on < ops.size := by
     rw [<- hs]
     by_cases hl2 : e.on < listed.size
     .exact hl2
     .simp [Array.getD, hl2] at hl
    have hes : e.on < s := by
     unfold ordX at hord
     have h4 := List.all_eq_true.1 hord i (List.mem_range.2 h1); rw [ho] at h4
     simp only [Option.map_some, Option.getD_some, Array.all_eq_true_iff_forall_mem] at h4
     have h5 := h4 e (by simpa using he)
     have h6 : e.on < i := by simpa [hb] using h5
     omega
    refine hφ e.on hes ?_
    rw [zdq (by omega)]
    exact hl)
   obtain ⟨hd3, hd5⟩ := hslot _ hp o ho; have hst2 := zcp (R := fun v w' => (∃ w1, φ i v w1) ∧ H w') ho hd3 (by rw [zcj]; exact hd5) hst
   refine wpOp_mono ?_ hst2
   rintro a' w' ⟨v, rfl, hv, hh'⟩
   rw [zdd u i d v D a hnd1 hD2 hp]
   refine ih _ w' (upd u i v) (L.erase i) (by simpa using hs) ?_ ?_ hh' ?_ ?_
   .rw [List.length_erase_of_mem (hin i h2)]
    omega
   .intro j hj
    have hji : j ≠ i := fun e => by
     subst e
     have : j < listed.size := by omega
     simp [Array.getD, this] at hj
    rw [zae (Ne.symm hji)] at hj; exact (List.mem_erase_of_ne hji).2 (hin j hj)
   .intro j hj
    have hji : j ≠ i := fun e => by
     subst e
     have : j < listed.size := by omega
     simp [Array.getD, this] at hj
    rw [zae (Ne.symm hji)] at hj; exact hX j hj
   .intro j hj hl
    by_cases hji : j = i
    .subst hji
     simpa [upd] using hv
    .have e1 : upd u i v j = u j := by simp [upd, hji]
     rw [e1]; rw [zae (Ne.symm hji)] at hl; exact hφ j hj hl
 have keyA : ∀ (fuel : Nat) (listed : Array Bool) (w : World) (u : Nat -> Value) (L : List Nat), listed.size = ops.size -> L.length <= fuel -> (∀ i, listed.getD i true = false -> i ∈ L) -> listed.getD s true = false -> Anc ops listed -> G w ->
   (∀ i, i < s -> listed.getD i true = true -> φ i (u i) w) -> wpAny P .any ops Q fuel listed (puts D a u) w := by
  intro fuel
  induction fuel with
  | zero =>
   intro listed w u L hs hL hin hns _ hg hφ
   have := hin s hns
   rw [List.length_eq_zero_iff.1 (Nat.le_zero.1 hL)] at this
   cases this
  | succ fuel ih =>
   intro listed w u L hs hL hin hns hanc hg hφ
   refine ⟨fun hr => ?_, fun i hi => ?_⟩
   .have := zdb hord hs hr s
    rw [hns] at this
    cases this
   .obtain ⟨h1, h2, o, ho, h3⟩ := mem_ready.1 hi
    have hancn : Anc ops (listed.setIfInBounds i true) := by
     intro j o' ho' hl e he hb
     by_cases ej : i = j
     .subst ej
      obtain rfl := Option.some.inj (ho'.symm.trans ho)
      have := h3 e he hb
      by_cases e2 : i = e.on
      .rw [<- e2, zbc (by omega)]
      .rw [zae e2]; exact this
     .rw [zae ej] at hl
      have := hanc j o' ho' hl e he hb
      by_cases e2 : i = e.on
      .rw [<- e2, zbc (by omega)]
      .rw [zae e2]; exact this
    by_cases his : i = s
    .subst his
     have hall : ∀ j, j < i -> j ∉ X -> listed.getD j false = true := fun j hj hx =>
      zdf hanc ops.size i j (fun o' ho' e he hb => by
       obtain rfl := Option.some.inj (ho'.symm.trans ho); exact h3 e he hb) (hclX j hj hx)
     have hod : o.dst = none := by
      rw [ho] at hS
      simpa using hS
     refine wpOp_mono ?_ (zsd ho hod (stepS u w hg fun p hp hx => hφ p.1 (hltD p hp) (by rw [zdq (by have := hltD p hp; omega)]; exact hall p.1 (hltD p hp) hx)))
     rintro a' w' ⟨rfl, hh⟩
     refine keyB fuel _ w' u (L.erase i) (by simpa using hs) ?_ ?_ hh ?_ ?_
     .rw [List.length_erase_of_mem (hin i h2)]
      omega
     .intro j hj
      have hji : j ≠ i := fun e => by
       subst e
       have : j < listed.size := by omega
       simp [Array.getD, this] at hj
      rw [zae (Ne.symm hji)] at hj; exact (List.mem_erase_of_ne hji).2 (hin j hj)
     .intro j hj
      have hji : j ≠ i := fun e => by
       subst e
       have : j < listed.size := by omega
       simp [Array.getD, this] at hj
      rw [zae (Ne.symm hji)] at hj
      have hjl : j < listed.size := by
       by_cases hl : j < listed.size
       .exact hl
       .simp [Array.getD, hl] at hj
      refine ⟨by omega, Classical.byContradiction fun hx => ?_⟩
      have := hall j (by omega) hx
      rw [<- zdq hjl, hj] at this
      cases this
     .intro j hj hl
      have hji : i ≠ j := by omega
      rw [zae hji] at hl; exact ⟨w, hφ j hj hl⟩
    .have his2 : i < s := by omega
     obtain ⟨d, hp⟩ := hmemD i his2
     have hst := step _ hp u w hg (fun o' ho' e he hb => by
      obtain rfl := Option.some.inj (ho'.symm.trans ho); have hl := h3 e he hb
      have hlt : e.on < listed.size := by
       by_cases hl2 : e.on < listed.size
       .exact hl2
       .simp [Array.getD, hl2] at hl
      have hes : e.on < s := by
       unfold ordX at hord
       have h4 := List.all_eq_true.1 hord i (List.mem_range.2 h1); rw [ho] at h4
       simp only [Option.map_some, Option.getD_some, Array.all_eq_true_iff_forall_mem] at h4
       have h5 := h4 e (by simpa using he)
       have h6 : e.on < i := by simpa [hb] using h5
       omega
      refine hφ e.on hes ?_
      rw [zdq hlt]; exact hl)
     obtain ⟨hd3, hd5⟩ := hslot _ hp o ho; have hst2 := zcp (R := fun v w' => φ i v w' ∧ G w' ∧ Below w.heap.size w w') ho hd3 (by rw [zcj]; exact hd5) hst
     refine wpOp_mono ?_ hst2
     rintro a' w' ⟨v, rfl, hv, hg', hb'⟩
     rw [zdd u i d v D a hnd1 hD2 hp]
     refine ih _ w' (upd u i v) (L.erase i) (by simpa using hs) ?_ ?_ (by rw [zae his]; exact hns) hancn hg' ?_
     .rw [List.length_erase_of_mem (hin i h2)]
      omega
     .intro j hj
      have hji : j ≠ i := fun e => by
       subst e
       have : j < listed.size := by omega
       simp [Array.getD, this] at hj
      rw [zae (Ne.symm hji)] at hj; exact (List.mem_erase_of_ne hji).2 (hin j hj)
     .intro j hj hl
      by_cases hji : j = i
      .subst hji
       simpa [upd] using hv
      .have e1 : upd u i v j = u j := by simp [upd, hji]
       rw [e1]; rw [zae (Ne.symm hji)] at hl; exact hmono j _ w w' (hφ j hj hl) hb'
 have hu : ∃ u : Nat -> Value, puts D a u = a := by
  refine ⟨fun i => ((D.find? fun p => p.1 == i).map fun p => a.tmps.getD p.2 undef).getD undef, zdi _ _ _ fun p hp => ?_⟩
  have : D.find? (fun q => q.1 == p.1) = some p := by
   clear fin step stepX stepS hD2 hD1 hD3 hD4 keyA keyB hmemD hltD hslot
   induction D with
   | nil => cases hp
   | cons q D ih =>
    rw [List.map_cons, List.nodup_cons] at hnd1
    rcases List.mem_cons.1 hp with rfl | hp
    .simp
    .have hne : (q.1 == p.1) = false := by
      rw [beq_eq_false_iff_ne]; intro e; exact hnd1.1 (List.mem_map.2 ⟨p, hp, e.symm⟩)
     rw [List.find?_cons, hne]
     exact ih hnd1.2 hp
  simp only [this, Option.map_some, Option.getD_some]
 obtain ⟨u, hu⟩ := hu
 have hfF : ∀ i, (Array.replicate ops.size false).getD i false = false := fun i => by
  by_cases h : i < ops.size <;> simp [Array.getD, h]
 have := keyA ops.size (Array.replicate ops.size false) w.drew u (List.range ops.size) (by simp) (by simp) (fun i hi => by
  rw [List.mem_range]
  by_cases hl : i < ops.size
  .exact hl
  .simp [Array.getD, hl] at hi) (by simp [Array.getD, hsz]) (fun i o _ hl => by rw [hfF] at hl; cases hl) hG (fun i hi hl => by
  have : i < ops.size := by omega
  simp [Array.getD, this] at hl)
 rw [hu] at this
 exact this
end
end
section
open Go.RowKit
section
variable {P : Program} {ops : Array Oper} {Q : Exit -> Act -> World -> Prop}
theorem zuo {l : Array Bool} {i : Nat} (h : i < l.size) : l.getD i true = l.getD i false := by simp [Array.getD, h]
theorem zmx {id : Nat} {a : Act} {w : World} (D : List (Nat × Nat)) (φ : Nat -> Value -> World -> Prop) (G : World -> Prop) (hm : P.follows .mixedOrders = true)
  (hord : ordX ops = true) (hD1 : D.map (·.1) = List.range ops.size) (hD2 : (D.map (·.2)).Nodup) (hD3 : (D.all fun p => (ops[p.1]?.bind (·.dst)) == some p.2) = true) (hD4 : (D.all fun p => Nat.blt p.2 a.tmps.size) = true)
  (hmono : ∀ i v w w', φ i v w -> Below w.heap.size w w' -> φ i v w') (hG : G w.drew)
  (step : ∀ p ∈ D, ∀ u w, G w -> Came ops φ u w p.1 -> (∀ p' ∈ D, reachB ops ops.size p'.1 p.1 = true -> u p'.1 = a.tmps.getD p'.2 undef) ->
   wpOp P ops Q p.1 (fun a' w' => a'.defers = (puts D a u).defers ∧ φ p.1 (a'.tmps.getD p.2 undef) w' ∧ G w' ∧ Below w.heap.size w w') (puts D a u) w)
  (fin : ∀ u w, G w -> (∀ p ∈ D, φ p.1 (u p.1) w) -> Q .normal (puts D a u) w) : (Code.region id ops true).wp P Q a w := by
 refine wp_region_any hm ?_
 have hnd1 : (D.map (·.1)).Nodup := by rw [hD1]; exact List.nodup_range
 have key : ∀ (fuel : Nat) (listed : Array Bool) (w : World) (u : Nat -> Value) (L : List Nat), listed.size = ops.size -> L.length <= fuel -> (∀ i, listed.getD i true = false -> i ∈ L) -> Anc ops listed -> (∀ p ∈ D, listed.getD p.1 false = false -> u p.1 = a.tmps.getD p.2 undef) -> G w ->
   (∀ i, i < ops.size -> listed.getD i true = true -> φ i (u i) w) -> wpAny P .any ops Q fuel listed (puts D a u) w := by
  intro fuel
  induction fuel with
  | zero =>
   intro listed w u L hs hL hin hanc hold hg hφ
   have hall : ∀ i, listed.getD i true = true := fun i => by
    cases hi : listed.getD i true with
    | true => rfl
    | false => have := hin i hi; rw [List.length_eq_zero_iff.1 (Nat.le_zero.1 hL)] at this; cases this
   refine ⟨?_, fin u w hg fun p hp => hφ p.1 ?_ (hall _)⟩
   .rw [List.eq_nil_iff_forall_not_mem]
    intro i hi
    have := (mem_ready.1 hi).2.1
    rw [hall i] at this
    cases this
   .have : p.1 ∈ D.map (·.1) := List.mem_map.2 ⟨p, hp, rfl⟩
    rw [hD1] at this; exact List.mem_range.1 this
  | succ fuel ih =>
   intro listed w u L hs hL hin hanc hold hg hφ
   refine ⟨fun hr => fin u w hg fun p hp => hφ p.1 ?_ (zdb hord hs hr _), fun i hi => ?_⟩
   .have : p.1 ∈ D.map (·.1) := List.mem_map.2 ⟨p, hp, rfl⟩
    rw [hD1] at this; exact List.mem_range.1 this
   .obtain ⟨h1, h2, o, ho, h3⟩ := mem_ready.1 hi
    have hiD : i ∈ D.map (·.1) := by rw [hD1]; exact List.mem_range.2 h1
    obtain ⟨⟨i', d⟩, hp, rfl⟩ := List.mem_map.1 hiD
    have hst := step _ hp u w hg (fun o' ho' e he hb => by
     have heq : o' = o := Option.some.inj (ho'.symm.trans ho)
     subst heq; have hl := h3 e he hb
     have hlt : e.on < ops.size := by
      rw [<- hs]
      by_cases hl2 : e.on < listed.size
      .exact hl2
      .simp [Array.getD, hl2] at hl
     refine hφ e.on hlt ?_
     have hl2 : e.on < listed.size := by omega
     simpa [Array.getD, hl2] using hl) (fun p' hp' hr => by
      refine hold p' hp' ?_
      cases hl : listed.getD p'.1 false with
      | false => rfl
      | true =>
       have := zdf hanc ops.size p'.1 i' (fun o' ho' e he hb => hanc p'.1 o' ho' hl e he hb) hr
       have hii : i' < listed.size := by omega
       rw [<- zuo hii, h2] at this
       cases this)
    have hd3 := List.all_eq_true.1 hD3 _ hp; have hd4 := List.all_eq_true.1 hD4 _ hp
    simp only [ho, Option.bind_some, beq_iff_eq] at hd3
    have hd5 : d < a.tmps.size := by simp [Nat.blt] at hd4; omega
    have hst2 := zcp (R := fun v w' => φ i' v w' ∧ G w' ∧ Below w.heap.size w w') ho hd3 (by rw [zcj]; exact hd5) hst
    clear hst
    refine wpOp_mono ?_ hst2
    rintro a' w' ⟨v, rfl, hv, hg', hb'⟩
    rw [zdd u i' d v D a hnd1 hD2 hp]
    refine ih _ w' (upd u i' v) (L.erase i') (by simpa using hs) ?_ ?_ ?_ ?_ hg' ?_
    .rw [List.length_erase_of_mem (hin i' h2)]
     omega
    .intro j hj
     have hji : j ≠ i' := fun e => by
      subst e
      have : j < listed.size := by omega
      simp [Array.getD, this] at hj
     refine (List.mem_erase_of_ne hji).2 (hin j ?_)
     simp only [Array.getD] at hj ⊢
     split at hj
     .rename_i hl
      rw [Array.size_setIfInBounds] at hl; rw [dif_pos hl]
      rwa [Array.getInternal_eq_getElem, Array.getElem_setIfInBounds_ne (h := Ne.symm hji)] at hj
     .cases hj
    .intro j o' ho' hl e he hb
     by_cases ej : i' = j
     .subst ej
      obtain rfl := Option.some.inj (ho'.symm.trans ho)
      have := h3 e he hb
      by_cases e2 : i' = e.on
      .rw [<- e2, zbc (by omega)]
      .rw [zae e2]; exact this
     .rw [zae ej] at hl
      have := hanc j o' ho' hl e he hb
      by_cases e2 : i' = e.on
      .rw [<- e2, zbc (by omega)]
      .rw [zae e2]; exact this
    .intro p' hp' hl
     have hne : i' ≠ p'.1 := fun e => by
      rw [<- e, zbc (by omega)] at hl
      cases hl
     rw [zae hne] at hl
     have e1 : upd u i' v p'.1 = u p'.1 := by simp [upd, Ne.symm hne]
     rw [e1]; exact hold p' hp' hl
    .intro j hj hl
     by_cases hji : j = i'
     .subst hji
      simpa [upd] using hv
     .have e1 : upd u i' v j = u j := by simp [upd, hji]
      rw [e1]
      refine hmono j _ w w' (hφ j hj ?_) hb'
      have hl2 : j < listed.size := by omega
      simp only [Array.getD, Array.size_setIfInBounds, hl2, dif_pos, Array.getInternal_eq_getElem] at hl ⊢
      rwa [Array.getElem_setIfInBounds_ne (h := Ne.symm hji)] at hl
 have hu : ∃ u : Nat -> Value, (∀ p ∈ D, u p.1 = a.tmps.getD p.2 undef) ∧ puts D a u = a := by
  suffices hsf : ∃ u : Nat -> Value, ∀ p ∈ D, u p.1 = a.tmps.getD p.2 undef by
   obtain ⟨u, hu⟩ := hsf; exact ⟨u, hu, zdi u a D hu⟩
  refine ⟨fun i => ((D.find? fun p => p.1 == i).map fun p => a.tmps.getD p.2 undef).getD undef, fun p hp => ?_⟩
  have : D.find? (fun q => q.1 == p.1) = some p := by
   clear fin step hD2 hD1 hD3 hD4 key
   induction D with
   | nil => cases hp
   | cons q D ih =>
    rw [List.map_cons, List.nodup_cons] at hnd1
    rcases List.mem_cons.1 hp with rfl | hp
    .simp
    .have hne : (q.1 == p.1) = false := by
      rw [beq_eq_false_iff_ne]; intro e; exact hnd1.1 (List.mem_map.2 ⟨p, hp, e.symm⟩)
     rw [List.find?_cons, hne]
     exact ih hnd1.2 hp
  simp only [this, Option.map_some, Option.getD_some]
 obtain ⟨u, hu0, hu⟩ := hu
 have := key ops.size (Array.replicate ops.size false) w.drew u (List.range ops.size) (by simp) (by simp) (fun i hi => by
  rw [List.mem_range]
  by_cases hl : i < ops.size
  .exact hl
  .simp [Array.getD, hl] at hi) (fun i o _ hl => by
  have hfF : ∀ i, (Array.replicate ops.size false).getD i false = false := fun i => by
   by_cases h : i < ops.size <;> simp [Array.getD, h]
  rw [hfF] at hl; cases hl) (fun p hp _ => hu0 p hp) hG (fun i hi hl => by simp [Array.getD, hi] at hl)
 rw [hu] at this
 exact this
end
end
end Go.Proofs.YtojimgbcghiblaaGreatDoor