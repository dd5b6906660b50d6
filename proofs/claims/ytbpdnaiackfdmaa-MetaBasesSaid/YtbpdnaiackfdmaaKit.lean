/- Words that all contracts use: what a slice reads as, bytes, strings, results' equations. -/
import Derived.Test.YtbpdnaiackfdmaaProg
import Derived.WalkKit
import Derived.Lib.Hide
import Derived.BigQuiet
import Derived.Outline
import Derived.Laws.IdiomStrings
import Derived.Laws.BytesArg
import Derived.PlainAid
import Derived.Deep.QuietTactic
namespace Go.RowKit
theorem Below.drewN {B : Nat} {a w : World} (h : Below B a w) (n : Nat) : Below B a (w.drewN n) := h.trans ⟨rfl, rfl, rfl, Nat.le_refl _, fun _ _ => rfl⟩
theorem Below.next {a b c : World} (h : Below a.heap.size a b) (k : Below b.heap.size b c) : Below a.heap.size a c := h.trans (k.mono h.size)
end Go.RowKit
namespace Go.Proofs.Ytbpdnaiackfdmaa
open Go.RowKit

theorem ret_bool {a b : Bool} (h : a = b) : Ending.returned (.bool a) = .returned (.bool b) := by rw [h]
theorem ret_int {k : IntKind} {a b : Int} (h : a = b) : Ending.returned (.int k a) = .returned (.int k b) := by rw [h]
theorem ret_str {a b : ByteArray} (h : a = b) : Ending.returned (.string a) = .returned (.string b) := by rw [h]
theorem ret_str_int {k : IntKind} {a b : ByteArray} {c d : Int} (h : a = b) (h2 : c = d) : Ending.returned (.tuple #[.string a, .int k c]) = .returned (.tuple #[.string b, .int k d]) := by rw [h, h2]

/-! int's bits. -/
theorem nat_i64 (a : Nat) (h : a < 9223372036854775808) : (BitVec.ofInt 64 (a : Int)).toNat = a := by
  rw [BitVec.ofInt_natCast, BitVec.toNat_ofNat]
  exact Nat.mod_eq_of_lt (by omega)
theorem or_i64 (a b : Nat) (ha : a < 9223372036854775808) (hb : b < 9223372036854775808) : bits .or .i64 (a : Int) (b : Int) = ((a ||| b : Nat) : Int) := by
  have hx : a ||| b < 2 ^ 63 := Nat.or_lt_two_pow (by omega) (by omega)
  show IntKind.i64.wrap ((BitVec.ofInt 64 (a : Int) ||| BitVec.ofInt 64 (b : Int)).toNat : Int) = _
  rw [BitVec.toNat_or, nat_i64 a ha, nat_i64 b hb, IntKind.wrap_i64]
  omega
theorem xor_i64 (a b : Nat) (ha : a < 9223372036854775808) (hb : b < 9223372036854775808) : bits .xor .i64 (a : Int) (b : Int) = ((a ^^^ b : Nat) : Int) := by
  have hx : a ^^^ b < 2 ^ 63 := Nat.xor_lt_two_pow (by omega) (by omega)
  show IntKind.i64.wrap ((BitVec.ofInt 64 (a : Int) ^^^ BitVec.ofInt 64 (b : Int)).toNat : Int) = _
  rw [BitVec.toNat_xor, nat_i64 a ha, nat_i64 b hb, IntKind.wrap_i64]
  omega
theorem and_i64 (a b : Nat) (ha : a < 9223372036854775808) (hb : b < 9223372036854775808) : bits .and .i64 (a : Int) (b : Int) = ((a &&& b : Nat) : Int) := by
  have hx : a &&& b < 2 ^ 63 := Nat.and_lt_two_pow _ (by omega)
  show IntKind.i64.wrap ((BitVec.ofInt 64 (a : Int) &&& BitVec.ofInt 64 (b : Int)).toNat : Int) = _
  rw [BitVec.toNat_and, nat_i64 a ha, nat_i64 b hb, IntKind.wrap_i64]
  omega

theorem snoc_ind {α : Type} {P : List α → Prop} (h0 : P []) (h1 : ∀ l a, P l → P (l ++ [a])) (l : List α) : P l := by
  have h : ∀ r : List α, P r.reverse := fun r => by
    induction r with
    | nil => exact h0
    | cons a r ih => rw [List.reverse_cons]; exact h1 _ _ ih
  simpa using h l.reverse

/-- The slice of length n reads as the values xs: where there are any, they lie side by side below block number B. -/
def Lies (w : World) (B : Nat) (a : Option Addr) (xs : List Value) : Prop :=
  0 < xs.length → ∃ b off, a = some ⟨b, off, none⟩ ∧ b < B ∧ ∀ j u, xs[j]? = some u → w.cell? ⟨b, off + j, none⟩ = some u

theorem Lies.below {w w' : World} {B : Nat} {a : Option Addr} {xs : List Value} (h : Lies w B a xs) (hb : Below B w w') : Lies w' B a xs := by
  intro hx
  obtain ⟨b, off, e, hlt, hc⟩ := h hx
  exact ⟨b, off, e, hlt, fun j u hu => (hb.cell (p := ⟨b, off + j, none⟩) hlt).trans (hc j u hu)⟩
theorem Lies.mono {w : World} {B B' : Nat} {a : Option Addr} {xs : List Value} (h : Lies w B a xs) (hB : B ≤ B') : Lies w B' a xs := by
  intro hx
  obtain ⟨b, off, e, hlt, hc⟩ := h hx
  exact ⟨b, off, e, by omega, hc⟩
theorem Lies.step {w w' : World} {a : Option Addr} {xs : List Value} (h : Lies w w.heap.size a xs) (hb : Below w.heap.size w w') : Lies w' w'.heap.size a xs := (h.below hb).mono hb.size
theorem Lies.nil (w : World) (B : Nat) (a : Option Addr) : Lies w B a [] := fun h => absurd h (by simp)

/-- A slice of one value that the call has just laid. -/
theorem Lies.one {w : World} {b : Nat} {u : Value} (h : w.cell? ⟨b, 0, none⟩ = some u) (hb : b < w.heap.size) : Lies w w.heap.size (some ⟨b, 0, none⟩) [u] := by
  intro _
  refine ⟨b, 0, rfl, hb, fun j v hj => ?_⟩
  match j, hj with
  | 0, hj => simp at hj; subst hj; simpa using h

/-- A slice of values that the call has just laid. -/
theorem Lies.new (xs : List Value) (w : World) (t : TypeId) : Lies (w.alloc (.cells xs.toArray t)) (w.alloc (.cells xs.toArray t)).heap.size (some ⟨w.heap.size, 0, none⟩) xs := by
  intro _
  refine ⟨_, 0, rfl, by simp, fun j u hu => ?_⟩
  rw [Nat.zero_add, World.cell?_alloc_at xs.toArray t w.heap.size j rfl]
  simpa using hu
theorem alloc_below (w : World) (o : Obj) : Below w.heap.size w (w.alloc o) := (Below.refl _ _).alloc (Nat.le_refl _) _

/-- Numbers as values. -/
def ints (l : List Int) : List Value := l.map (Value.int .i64)
theorem ints_length (l : List Int) : (ints l).length = l.length := by simp [ints]
theorem ints_get (l : List Int) (j : Nat) (h : j < l.length) : (ints l)[j]? = some (.int .i64 l[j]) := by simp [ints, h]
theorem ints_append (l m : List Int) : ints (l ++ m) = ints l ++ ints m := by simp [ints]

/-- The bytes as values. -/
def bytes (l : List UInt8) : List Value := l.map fun b => .int .u8 (b.toNat : Int)
theorem bytes_length (l : List UInt8) : (bytes l).length = l.length := by simp [bytes]
theorem bytes_append (l m : List UInt8) : bytes (l ++ m) = bytes l ++ bytes m := by simp [bytes]
theorem bytes_get (l : List UInt8) (j : Nat) (h : j < l.length) : (bytes l)[j]? = some (.int .u8 (l[j].toNat : Int)) := by rw [bytes, List.getElem?_map, List.getElem?_eq_getElem h]; rfl

/-- Texts as values. -/
def strs (l : List ByteArray) : List Value := l.map Value.string
theorem strs_length (l : List ByteArray) : (strs l).length = l.length := by simp [strs]
theorem strs_get (l : List ByteArray) (j : Nat) (h : j < l.length) : (strs l)[j]? = some (.string l[j]) := by simp [strs, h]
/-- All texts, one behind the other. -/
def cat (l : List ByteArray) : List UInt8 := l.flatMap fun s => s.data.toList
theorem cat_snoc (l : List ByteArray) (s : ByteArray) : cat (l ++ [s]) = cat l ++ s.data.toList := by rw [cat, List.flatMap_append, List.flatMap_cons, List.flatMap_nil, List.append_nil]; rfl
theorem cat_one (s : ByteArray) : cat [s] = s.data.toList := by rw [cat, List.flatMap_cons, List.flatMap_nil, List.append_nil]

theorem take_snoc {α : Type} (l : List α) (k : Nat) (h : k < l.length) : l.take (k + 1) = l.take k ++ [l[k]] := by
  rw [List.take_succ_eq_append_getElem h]
theorem bytes_take (s : ByteArray) (k : Nat) (h : k < s.size) : s.data.toList.take (k + 1) = s.data.toList.take k ++ [s[k]] := by
  rw [List.take_succ_eq_append_getElem (by simpa using h)]; rfl
theorem size_list (s : ByteArray) : s.data.toList.length = s.size := by rw [Array.length_toList]; rfl

/-- A string of these bytes. -/
def str (l : List UInt8) : ByteArray := ⟨l.toArray⟩
theorem str_size (l : List UInt8) : (str l).size = l.length := by simp [str, ByteArray.size]
theorem str_list (l : List UInt8) : (str l).data.toList = l := by simp [str]
theorem str_of (s : ByteArray) : str s.data.toList = s := by simp [str]
theorem str_append (l m : List UInt8) : str l ++ str m = str (l ++ m) := by
  apply ByteArray.ext
  rw [ByteArray.data_append]
  simp [str]
theorem str_inj {l m : List UInt8} (h : str l = str m) : l = m := by rw [← str_list l, h, str_list]

/-- Strings held against one another, as the walk has it. -/
theorem beq_yes {a b : ByteArray} (h : a = b) : (a.toList == b.toList) = true := by rw [h]; exact beq_self_eq_true _
theorem beq_no {a b : ByteArray} (h : ¬ a = b) : (a.toList == b.toList) = false := by
  rw [beq_eq_false_iff_ne]
  intro e
  rw [ByteArray.toList_eq, ByteArray.toList_eq] at e
  exact h (ByteArray.ext (Array.toList_inj.1 e))



/-- What the call owns, as a slice that can be handed on. -/
theorem own_form {w : World} {base : Nat} {v : Value} {n : Nat} {xs : List Value} {e : TypeId} (h : w.ownsRow base e 1 v n xs) :
    ∃ a cap, v = .slice a n cap ∧ Lies w w.heap.size a xs := by
  have hn : xs.length = n := by have := h.1; omega
  rcases h.2 with ⟨rfl, rfl⟩ | ⟨g, cap, cur, rfl, hb, hh, hr⟩
  · exact ⟨none, 0, rfl, fun h0 => by omega⟩
  · refine ⟨some ⟨g, 0, none⟩, cap, rfl, fun _ => ⟨g, 0, rfl, (Array.getElem?_eq_some_iff.1 hh).1, fun j u hu => ?_⟩⟩
    have := h.cells (g := g) rfl j u hu
    rwa [Addr.add_lit] at this

/-- Block g holds the bytes l at its beginning, and they may be written. -/
def Bytes (w : World) (g : Nat) (l : List UInt8) : Prop :=
  ∃ (cs : Array Value) (T : TypeId) (lo hi : Nat), w.heap[g]? = some (.cells cs T (lo, hi)) ∧ (∀ j, j < l.length → ¬ (lo ≤ j ∧ j < hi)) ∧ ∀ j (h : j < l.length), cs[j]? = some (.int .u8 (l[j].toNat : Int))

theorem Bytes.lt {w : World} {g : Nat} {l : List UInt8} (h : Bytes w g l) : g < w.heap.size := by
  obtain ⟨cs, T, lo, hi, hh, _⟩ := h
  exact (Array.getElem?_eq_some_iff.1 hh).1
theorem Bytes.cell {w : World} {g : Nat} {l : List UInt8} (h : Bytes w g l) (j : Nat) (hj : j < l.length) : w.cell? ⟨g, j, none⟩ = some (.int .u8 (l[j].toNat : Int)) := by
  obtain ⟨cs, T, lo, hi, hh, hf, hc⟩ := h
  simp only [World.cell?, hh]
  simpa using hc j hj
theorem Bytes.frozen {w : World} {g : Nat} {l : List UInt8} (h : Bytes w g l) (j : Nat) (hj : j < l.length) : w.frozen? ⟨g, j, none⟩ = false := by
  obtain ⟨cs, T, lo, hi, hh, hf, hc⟩ := h
  simp only [World.frozen?, hh]
  have := hf j hj
  simp only [Bool.and_eq_false_iff, decide_eq_false_iff_not]
  omega
theorem Bytes.set {w : World} {g : Nat} {l : List UInt8} (h : Bytes w g l) (j : Nat) (b : UInt8) (hj : j < l.length) : Bytes (w.setCell ⟨g, j, none⟩ (.int .u8 (b.toNat : Int))) g (l.set j b) := by
  obtain ⟨cs, T, lo, hi, hh, hf, hc⟩ := h
  have hjc : j < cs.size := (Array.getElem?_eq_some_iff.1 (hc j hj)).1
  refine ⟨cs.setIfInBounds j (.int .u8 (b.toNat : Int)), T, lo, hi, ?_, by simpa using hf, fun i hi => ?_⟩
  · simp only [World.setCell, Array.getElem?_modify, if_true, hh, Option.map_some]
    rfl
  · rw [Array.getElem?_setIfInBounds]
    rw [List.length_set] at hi
    rw [List.getElem_set]
    by_cases e : j = i
    · rw [if_pos e, if_pos hjc, if_pos e]
    · rw [if_neg e, if_neg e]; exact hc i hi
theorem Bytes.drew {w : World} {g : Nat} {l : List UInt8} (h : Bytes w g l) : Bytes w.drew g l := h
theorem Bytes.below {w w' : World} {B g : Nat} {l : List UInt8} (h : Bytes w g l) (hb : Below B w w') (hlt : g < B) : Bytes w' g l := by
  obtain ⟨cs, T, lo, hi, hh, hf, hc⟩ := h
  exact ⟨cs, T, lo, hi, (hb.block g hlt).trans hh, hf, hc⟩
theorem Bytes.step {w w' : World} {g : Nat} {l : List UInt8} (h : Bytes w g l) (hb : Below w.heap.size w w') : Bytes w' g l := h.below hb h.lt
/-- What '[]byte(s)' lays. -/
theorem Bytes.new (s : ByteArray) (cap : Nat) (w : World) (e : TypeId) : Bytes (w.alloc (.cells (bytesRow s cap) e ((bytesRow s cap).size, (bytesRow s cap).size + 1))) w.heap.size s.data.toList := by
  have hs : s.data.toList.length ≤ (bytesRow s cap).size := by rw [bytesRow, Array.size_append, Array.size_map, Array.length_toList]; omega
  refine ⟨bytesRow s cap, e, (bytesRow s cap).size, (bytesRow s cap).size + 1, by show (w.heap.push _)[w.heap.size]? = _; simp, fun j hj => by omega, fun j hj => ?_⟩
  have hj2 : j < s.data.size := by rwa [Array.length_toList] at hj
  rw [bytesRow, Array.getElem?_append_left (by rw [Array.size_map]; exact hj2), Array.getElem?_map, Array.getElem?_eq_getElem hj2]
  rfl

theorem info_byte : (Try.prog.info? 5).map (fun i => (i.zero, i.size, i.bytes)) = some (some (.int .u8 0), 1, 1) := by kernel_rfl
theorem info_int : (Try.prog.info? 3).map (fun i => (i.zero, i.size, i.bytes)) = some (some (.int .i64 0), 1, 8) := by kernel_rfl

end Go.Proofs.Ytbpdnaiackfdmaa
