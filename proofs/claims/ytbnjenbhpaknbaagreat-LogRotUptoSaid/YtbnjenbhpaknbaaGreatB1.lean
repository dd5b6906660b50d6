/- The texts Kit, CrcMath, CrcA, CrcB, NumMath, Put, CrcC, CrcD, CrcE, Open, CrcF, CrcT, Row, Take, RecMath, LogMath, Slice, FlaMath, FlaA, FlaB, FlaC, FlaD, FlaE, FlaF, one behind the other. -/
import Derived.Test.YtbnjenbhpaknbaaGreatProg
import Derived.WalkKit
import Derived.Lib.Hide
import Derived.BigQuiet
import Derived.Outline
import Derived.Laws.IdiomStrings
import Derived.Laws.BytesArg
import Derived.PlainAid
import Derived.Deep.QuietTactic
import Derived.Laws.BitsAllLaws
import Derived.StillTailTactics
import Derived.Test.YtbnjenbhpaknbaaGreatShelf
import Derived.Lib.Join
import Derived.Deep.RegionWith
import Derived.Deep.Slices
import Derived.SizedLaws
import Derived.OpenShut
import Derived.Below
import Derived.ChangeArms
import Derived.ChangeMaps5
import Derived.RowKit
import Derived.Laws.Rows
import Derived.Laws.Tables
import Derived.Deep.MidRow
import Derived.Still
import Derived.Lib.Strings
import Derived.WalkSpells
import Derived.Maps.AppendAt
import Derived.Laws.MakeOwn
import Derived.Laws.OwnMore
import Derived.Laws.CopyRow
/- Words that all contracts use: what a slice reads as, bytes, strings, results' equations. -/
namespace Go.RowKit
theorem Below.drewN {B : Nat} {a w : World} (h : Below B a w) (n : Nat) : Below B a (w.drewN n) := h.trans ⟨rfl, rfl, rfl, Nat.le_refl _, fun _ _ => rfl⟩
theorem Below.next {a b c : World} (h : Below a.heap.size a b) (k : Below b.heap.size b c) : Below a.heap.size a c := h.trans (k.mono h.size)
end Go.RowKit
namespace Go.Proofs.YtbnjenbhpaknbaaGreat
open Go.RowKit

theorem ret_bool {a b : Bool} (h : a = b) : Ending.returned (.bool a) = .returned (.bool b) := by rw [h]
theorem ret_int {k : IntKind} {a b : Int} (h : a = b) : Ending.returned (.int k a) = .returned (.int k b) := by rw [h]
theorem ret_str {a b : ByteArray} (h : a = b) : Ending.returned (.string a) = .returned (.string b) := by rw [h]
theorem ret_str_int {k : IntKind} {a b : ByteArray} {c d : Int} (h : a = b) (h2 : c = d) : Ending.returned (.tuple #[.string a, .int k c]) = .returned (.tuple #[.string b, .int k d]) := by rw [h, h2]

/-! int's bits. -/
theorem nat_i64 (a : Nat) (h : a < 9223372036854775808) : (BitVec.ofInt 64 (a : Int)).toNat = a := by
  rw [BitVec.ofInt_natCast, BitVec.toNat_ofNat]
  exact Nat.mod_eq_of_lt (by omega)
theorem or_i64 (a b : Nat) (ha : a < 9223372036854775808) (hb : b < 9223372036854775808) : bits .or .i64 (a : Int) (b : Int) = ((a ||| b : Nat) : Int) := by
  have hx : a ||| b < 2 ^ 63 := Nat.or_lt_two_pow (by omega) (by omega)
  show IntKind.i64.wrap ((BitVec.ofInt 64 (a : Int) ||| BitVec.ofInt 64 (b : Int)).toNat : Int) = _
  rw [BitVec.toNat_or, nat_i64 a ha, nat_i64 b hb, IntKind.wrap_i64]
  omega
theorem xor_i64 (a b : Nat) (ha : a < 9223372036854775808) (hb : b < 9223372036854775808) : bits .xor .i64 (a : Int) (b : Int) = ((a ^^^ b : Nat) : Int) := by
  have hx : a ^^^ b < 2 ^ 63 := Nat.xor_lt_two_pow (by omega) (by omega)
  show IntKind.i64.wrap ((BitVec.ofInt 64 (a : Int) ^^^ BitVec.ofInt 64 (b : Int)).toNat : Int) = _
  rw [BitVec.toNat_xor, nat_i64 a ha, nat_i64 b hb, IntKind.wrap_i64]
  omega
theorem and_i64 (a b : Nat) (ha : a < 9223372036854775808) (hb : b < 9223372036854775808) : bits .and .i64 (a : Int) (b : Int) = ((a &&& b : Nat) : Int) := by
  have hx : a &&& b < 2 ^ 63 := Nat.and_lt_two_pow _ (by omega)
  show IntKind.i64.wrap ((BitVec.ofInt 64 (a : Int) &&& BitVec.ofInt 64 (b : Int)).toNat : Int) = _
  rw [BitVec.toNat_and, nat_i64 a ha, nat_i64 b hb, IntKind.wrap_i64]
  omega

theorem snoc_ind {α : Type} {P : List α → Prop} (h0 : P []) (h1 : ∀ l a, P l → P (l ++ [a])) (l : List α) : P l := by
  have h : ∀ r : List α, P r.reverse := fun r => by
    induction r with
    | nil => exact h0
    | cons a r ih => rw [List.reverse_cons]; exact h1 _ _ ih
  simpa using h l.reverse

/-- The slice of length n reads as the values xs: where there are any, they lie side by side below block number B. -/
def Lies (w : World) (B : Nat) (a : Option Addr) (xs : List Value) : Prop :=
  0 < xs.length → ∃ b off, a = some ⟨b, off, none⟩ ∧ b < B ∧ ∀ j u, xs[j]? = some u → w.cell? ⟨b, off + j, none⟩ = some u

theorem Lies.below {w w' : World} {B : Nat} {a : Option Addr} {xs : List Value} (h : Lies w B a xs) (hb : Below B w w') : Lies w' B a xs := by
  intro hx
  obtain ⟨b, off, e, hlt, hc⟩ := h hx
  exact ⟨b, off, e, hlt, fun j u hu => (hb.cell (p := ⟨b, off + j, none⟩) hlt).trans (hc j u hu)⟩
theorem Lies.mono {w : World} {B B' : Nat} {a : Option Addr} {xs : List Value} (h : Lies w B a xs) (hB : B ≤ B') : Lies w B' a xs := by
  intro hx
  obtain ⟨b, off, e, hlt, hc⟩ := h hx
  exact ⟨b, off, e, by omega, hc⟩
theorem Lies.step {w w' : World} {a : Option Addr} {xs : List Value} (h : Lies w w.heap.size a xs) (hb : Below w.heap.size w w') : Lies w' w'.heap.size a xs := (h.below hb).mono hb.size
theorem Lies.nil (w : World) (B : Nat) (a : Option Addr) : Lies w B a [] := fun h => absurd h (by simp)

/-- A slice of one value that the call has just laid. -/
theorem Lies.one {w : World} {b : Nat} {u : Value} (h : w.cell? ⟨b, 0, none⟩ = some u) (hb : b < w.heap.size) : Lies w w.heap.size (some ⟨b, 0, none⟩) [u] := by
  intro _
  refine ⟨b, 0, rfl, hb, fun j v hj => ?_⟩
  match j, hj with
  | 0, hj => simp at hj; subst hj; simpa using h

/-- A slice of values that the call has just laid. -/
theorem Lies.new (xs : List Value) (w : World) (t : TypeId) : Lies (w.alloc (.cells xs.toArray t)) (w.alloc (.cells xs.toArray t)).heap.size (some ⟨w.heap.size, 0, none⟩) xs := by
  intro _
  refine ⟨_, 0, rfl, by simp, fun j u hu => ?_⟩
  rw [Nat.zero_add, World.cell?_alloc_at xs.toArray t w.heap.size j rfl]
  simpa using hu
theorem alloc_below (w : World) (o : Obj) : Below w.heap.size w (w.alloc o) := (Below.refl _ _).alloc (Nat.le_refl _) _

/-- Numbers as values. -/
def ints (l : List Int) : List Value := l.map (Value.int .i64)
theorem ints_length (l : List Int) : (ints l).length = l.length := by simp [ints]
theorem ints_get (l : List Int) (j : Nat) (h : j < l.length) : (ints l)[j]? = some (.int .i64 l[j]) := by simp [ints, h]
theorem ints_append (l m : List Int) : ints (l ++ m) = ints l ++ ints m := by simp [ints]

/-- The bytes as values. -/
def bytes (l : List UInt8) : List Value := l.map fun b => .int .u8 (b.toNat : Int)
theorem bytes_length (l : List UInt8) : (bytes l).length = l.length := by simp [bytes]
theorem bytes_append (l m : List UInt8) : bytes (l ++ m) = bytes l ++ bytes m := by simp [bytes]
theorem bytes_get (l : List UInt8) (j : Nat) (h : j < l.length) : (bytes l)[j]? = some (.int .u8 (l[j].toNat : Int)) := by rw [bytes, List.getElem?_map, List.getElem?_eq_getElem h]; rfl

/-- Texts as values. -/
def strs (l : List ByteArray) : List Value := l.map Value.string
theorem strs_length (l : List ByteArray) : (strs l).length = l.length := by simp [strs]
theorem strs_get (l : List ByteArray) (j : Nat) (h : j < l.length) : (strs l)[j]? = some (.string l[j]) := by simp [strs, h]
/-- All texts, one behind the other. -/
def cat (l : List ByteArray) : List UInt8 := l.flatMap fun s => s.data.toList
theorem cat_snoc (l : List ByteArray) (s : ByteArray) : cat (l ++ [s]) = cat l ++ s.data.toList := by rw [cat, List.flatMap_append, List.flatMap_cons, List.flatMap_nil, List.append_nil]; rfl
theorem cat_one (s : ByteArray) : cat [s] = s.data.toList := by rw [cat, List.flatMap_cons, List.flatMap_nil, List.append_nil]

theorem take_snoc {α : Type} (l : List α) (k : Nat) (h : k < l.length) : l.take (k + 1) = l.take k ++ [l[k]] := by
  rw [List.take_succ_eq_append_getElem h]
theorem bytes_take (s : ByteArray) (k : Nat) (h : k < s.size) : s.data.toList.take (k + 1) = s.data.toList.take k ++ [s[k]] := by
  rw [List.take_succ_eq_append_getElem (by simpa using h)]; rfl
theorem size_list (s : ByteArray) : s.data.toList.length = s.size := by rw [Array.length_toList]; rfl

/-- A string of these bytes. -/
def str (l : List UInt8) : ByteArray := ⟨l.toArray⟩
theorem str_size (l : List UInt8) : (str l).size = l.length := by simp [str, ByteArray.size]
theorem str_list (l : List UInt8) : (str l).data.toList = l := by simp [str]
theorem str_of (s : ByteArray) : str s.data.toList = s := by simp [str]
theorem str_append (l m : List UInt8) : str l ++ str m = str (l ++ m) := by
  apply ByteArray.ext
  rw [ByteArray.data_append]
  simp [str]
theorem str_inj {l m : List UInt8} (h : str l = str m) : l = m := by rw [← str_list l, h, str_list]

/-- Strings held against one another, as the walk has it. -/
theorem beq_yes {a b : ByteArray} (h : a = b) : (a.toList == b.toList) = true := by rw [h]; exact beq_self_eq_true _
theorem beq_no {a b : ByteArray} (h : ¬ a = b) : (a.toList == b.toList) = false := by
  rw [beq_eq_false_iff_ne]
  intro e
  rw [ByteArray.toList_eq, ByteArray.toList_eq] at e
  exact h (ByteArray.ext (Array.toList_inj.1 e))

/-- What a row of the call's own holds, as a string. -/
theorem own_string {base : Nat} {v : Value} {n : Nat} {l : List UInt8} {w : World} (h : w.ownsRow base 5 1 v n (bytes l)) :
    (convert 76 9 v).run Tryz.prog w = .ok (.string (str l)) w := by
  have hn : l.length = n := by have := h.1; rw [bytes_length] at this; omega
  rcases h.2 with ⟨rfl, rfl⟩ | ⟨g, cap, cur, rfl, _⟩
  · have : l = [] := List.eq_nil_of_length_eq_zero hn
    subst this
    exact run_convert_bytes_nil w _ _ Tryz.underlying76 Tryz.underlying5 _ _ _ Tryz.underlying9
  · subst hn
    refine run_convert_bytes_back w _ _ _ _ _ l Tryz.underlying76 Tryz.underlying5 Tryz.underlying9 fun j hj => ?_
    exact h.cells (g := g) rfl j _ (by simp [bytes, hj])

/-- Bytes that lie somewhere, as a string. -/
theorem conv_bytes (b o cap : Nat) (l : List UInt8) (n : Nat) (w : World) (hn : l.length = n) (hc : ∀ j (hj : j < l.length), w.cell? ⟨b, o + j, none⟩ = some (.int .u8 (l[j].toNat : Int))) :
    (convert 76 9 (.slice (some ⟨b, o, none⟩) n cap)).run Tryz.prog w = .ok (.string (str l)) w := by
  subst hn
  refine run_convert_bytes_back w _ _ _ _ _ l Tryz.underlying76 Tryz.underlying5 Tryz.underlying9 fun j hj => ?_
  rw [Addr.add_lit]
  exact hc j hj

/-- What the call owns, as a slice that can be handed on. -/
theorem own_form {w : World} {base : Nat} {v : Value} {n : Nat} {xs : List Value} {e : TypeId} (h : w.ownsRow base e 1 v n xs) :
    ∃ a cap, v = .slice a n cap ∧ Lies w w.heap.size a xs := by
  have hn : xs.length = n := by have := h.1; omega
  rcases h.2 with ⟨rfl, rfl⟩ | ⟨g, cap, cur, rfl, hb, hh, hr⟩
  · exact ⟨none, 0, rfl, fun h0 => by omega⟩
  · refine ⟨some ⟨g, 0, none⟩, cap, rfl, fun _ => ⟨g, 0, rfl, (Array.getElem?_eq_some_iff.1 hh).1, fun j u hu => ?_⟩⟩
    have := h.cells (g := g) rfl j u hu
    rwa [Addr.add_lit] at this

/-- Block g holds the bytes l at its beginning, and they may be written. -/
def Bytes (w : World) (g : Nat) (l : List UInt8) : Prop :=
  ∃ (cs : Array Value) (T : TypeId) (lo hi : Nat), w.heap[g]? = some (.cells cs T (lo, hi)) ∧ (∀ j, j < l.length → ¬ (lo ≤ j ∧ j < hi)) ∧ ∀ j (h : j < l.length), cs[j]? = some (.int .u8 (l[j].toNat : Int))

theorem Bytes.lt {w : World} {g : Nat} {l : List UInt8} (h : Bytes w g l) : g < w.heap.size := by
  obtain ⟨cs, T, lo, hi, hh, _⟩ := h
  exact (Array.getElem?_eq_some_iff.1 hh).1
theorem Bytes.cell {w : World} {g : Nat} {l : List UInt8} (h : Bytes w g l) (j : Nat) (hj : j < l.length) : w.cell? ⟨g, j, none⟩ = some (.int .u8 (l[j].toNat : Int)) := by
  obtain ⟨cs, T, lo, hi, hh, hf, hc⟩ := h
  simp only [World.cell?, hh]
  simpa using hc j hj
theorem Bytes.frozen {w : World} {g : Nat} {l : List UInt8} (h : Bytes w g l) (j : Nat) (hj : j < l.length) : w.frozen? ⟨g, j, none⟩ = false := by
  obtain ⟨cs, T, lo, hi, hh, hf, hc⟩ := h
  simp only [World.frozen?, hh]
  have := hf j hj
  simp only [Bool.and_eq_false_iff, decide_eq_false_iff_not]
  omega
theorem Bytes.set {w : World} {g : Nat} {l : List UInt8} (h : Bytes w g l) (j : Nat) (b : UInt8) (hj : j < l.length) : Bytes (w.setCell ⟨g, j, none⟩ (.int .u8 (b.toNat : Int))) g (l.set j b) := by
  obtain ⟨cs, T, lo, hi, hh, hf, hc⟩ := h
  have hjc : j < cs.size := (Array.getElem?_eq_some_iff.1 (hc j hj)).1
  refine ⟨cs.setIfInBounds j (.int .u8 (b.toNat : Int)), T, lo, hi, ?_, by simpa using hf, fun i hi => ?_⟩
  · simp only [World.setCell, Array.getElem?_modify, if_true, hh, Option.map_some]
    rfl
  · rw [Array.getElem?_setIfInBounds]
    rw [List.length_set] at hi
    rw [List.getElem_set]
    by_cases e : j = i
    · rw [if_pos e, if_pos hjc, if_pos e]
    · rw [if_neg e, if_neg e]; exact hc i hi
theorem Bytes.drew {w : World} {g : Nat} {l : List UInt8} (h : Bytes w g l) : Bytes w.drew g l := h
theorem Bytes.below {w w' : World} {B g : Nat} {l : List UInt8} (h : Bytes w g l) (hb : Below B w w') (hlt : g < B) : Bytes w' g l := by
  obtain ⟨cs, T, lo, hi, hh, hf, hc⟩ := h
  exact ⟨cs, T, lo, hi, (hb.block g hlt).trans hh, hf, hc⟩
theorem Bytes.step {w w' : World} {g : Nat} {l : List UInt8} (h : Bytes w g l) (hb : Below w.heap.size w w') : Bytes w' g l := h.below hb h.lt
/-- What '[]byte(s)' lays. -/
theorem Bytes.new (s : ByteArray) (cap : Nat) (w : World) (e : TypeId) : Bytes (w.alloc (.cells (bytesRow s cap) e ((bytesRow s cap).size, (bytesRow s cap).size + 1))) w.heap.size s.data.toList := by
  have hs : s.data.toList.length ≤ (bytesRow s cap).size := by rw [bytesRow, Array.size_append, Array.size_map, Array.length_toList]; omega
  refine ⟨bytesRow s cap, e, (bytesRow s cap).size, (bytesRow s cap).size + 1, by show (w.heap.push _)[w.heap.size]? = _; simp, fun j hj => by omega, fun j hj => ?_⟩
  have hj2 : j < s.data.size := by rwa [Array.length_toList] at hj
  rw [bytesRow, Array.getElem?_append_left (by rw [Array.size_map]; exact hj2), Array.getElem?_map, Array.getElem?_eq_getElem hj2]
  rfl
/-- '[]byte(s)', the new world under a name. -/
theorem conv_new (s : ByteArray) (w : World) : ∃ w' cap, (convert 9 76 (.string s)).run Tryz.prog w = .ok (.slice (some ⟨w.heap.size, 0, none⟩) s.size cap) w' ∧
    Bytes w' w.heap.size s.data.toList ∧ Below w.heap.size w w' :=
  ⟨_, _, run_bytes_of_string w 9 76 5 s Tryz.underlying9 Tryz.underlying76 Tryz.underlying5, Bytes.new s _ w.drew 5, ((Below.refl _ _).drew).alloc (Nat.le_refl _) _⟩
theorem Bytes.conv {w : World} {g cap n : Nat} {l : List UInt8} (h : Bytes w g l) (hn : l.length = n) :
    (convert 76 9 (.slice (some ⟨g, 0, none⟩) n cap)).run Tryz.prog w = .ok (.string (str l)) w :=
  conv_bytes g 0 cap l n w hn fun j hj => by rw [Nat.zero_add]; exact h.cell j hj

theorem info_byte : (Tryz.prog.info? 5).map (fun i => (i.zero, i.size, i.bytes)) = some (some (.int .u8 0), 1, 1) := by kernel_rfl
theorem info_int : (Tryz.prog.info? 3).map (fun i => (i.zero, i.size, i.bytes)) = some (some (.int .i64 0), 1, 8) := by kernel_rfl

end Go.Proofs.YtbnjenbhpaknbaaGreat

/- The register of CRC-32, as plain mathematics: steps, bytes, what turned bytes do to it. -/
namespace Go.Proofs.YtbnjenbhpaknbaaGreat.CrcMath

abbrev R := BitVec 32
def P : R := 0xEDB88320#32
def stp (r : R) : R := if r.getLsbD 0 then (r >>> 1) ^^^ P else r >>> 1
def its : Nat → R → R
  | 0, r => r
  | k + 1, r => stp (its k r)
def eight (r : R) : R := its 8 r
/-- A byte as a register. -/
def ex (b : UInt8) : R := BitVec.ofNat 32 b.toNat
def fd (r : R) (b : UInt8) : R := eight (r ^^^ ex b)
def reg (r : R) (l : List UInt8) : R := l.foldl fd r
def ones : R := BitVec.allOnes 32
def crc (l : List UInt8) : R := ~~~ reg ones l

theorem reg_nil (r : R) : reg r [] = r := rfl
theorem reg_cons (r : R) (b : UInt8) (l : List UInt8) : reg r (b :: l) = reg (fd r b) l := rfl
theorem reg_append (r : R) (l m : List UInt8) : reg r (l ++ m) = reg (reg r l) m := by simp [reg]
theorem reg_snoc (r : R) (l : List UInt8) (b : UInt8) : reg r (l ++ [b]) = fd (reg r l) b := by simp [reg]

theorem stp_xor (a b : R) : stp (a ^^^ b) = stp a ^^^ stp b := by
  unfold stp
  rw [BitVec.getLsbD_xor]
  cases ha : a.getLsbD 0 <;> cases hb : b.getLsbD 0 <;> simp [BitVec.ushiftRight_xor_distrib]
  · ac_rfl
  · ac_rfl
  · rw [show a >>> 1 ^^^ P ^^^ (b >>> 1 ^^^ P) = (a >>> 1 ^^^ b >>> 1) ^^^ (P ^^^ P) by ac_rfl, BitVec.xor_self, BitVec.xor_zero]
theorem its_xor (k : Nat) (a b : R) : its k (a ^^^ b) = its k a ^^^ its k b := by
  induction k with
  | zero => rfl
  | succ k ih => rw [its, ih, stp_xor, its, its]
theorem eight_xor (a b : R) : eight (a ^^^ b) = eight a ^^^ eight b := its_xor 8 a b
theorem stp_zero : stp 0 = 0 := by decide
theorem its_zero (k : Nat) : its k 0 = 0 := by
  induction k with
  | zero => rfl
  | succ k ih => rw [its, ih, stp_zero]
theorem eight_zero : eight 0 = 0 := its_zero 8

theorem stp_even (x : R) (k : Nat) : stp (x <<< (k + 1)) = (x <<< (k + 1)) >>> 1 := by
  unfold stp
  rw [if_neg (by simp)]

theorem shl_shr (y : R) (k : Nat) (h : y.toNat * 2 ^ (k + 1) < 2 ^ 32) : (y <<< (k + 1)) >>> 1 = y <<< k := by
  apply BitVec.eq_of_toNat_eq
  rw [BitVec.toNat_ushiftRight, BitVec.toNat_shiftLeft, BitVec.toNat_shiftLeft, Nat.shiftLeft_eq, Nat.shiftLeft_eq, Nat.shiftRight_eq_div_pow]
  rw [Nat.mod_eq_of_lt h]
  have e : y.toNat * 2 ^ (k + 1) = (y.toNat * 2 ^ k) * 2 := by rw [Nat.pow_succ]; ac_rfl
  rw [e] at h ⊢
  rw [Nat.mod_eq_of_lt (by omega)]
  omega
theorem its_shl (y : R) (n k : Nat) (hk : k ≤ n) (h : y.toNat * 2 ^ n < 2 ^ 32) : its k (y <<< n) = y <<< (n - k) := by
  induction k with
  | zero => rfl
  | succ k ih =>
    rw [its, ih (by omega)]
    obtain ⟨m, hm⟩ : ∃ m, n - k = m + 1 := ⟨n - k - 1, by omega⟩
    have hp : 2 ^ (m + 1) ≤ 2 ^ n := Nat.pow_le_pow_right (by omega) (by omega)
    rw [hm, stp_even, shl_shr y m (Nat.lt_of_le_of_lt (Nat.mul_le_mul_left _ hp) h)]
    congr 1
    omega
/-- Of a register whose lowest eight bits are 0 eight steps make what lies above them. -/
theorem eight_high (y : R) (h : y.toNat * 256 < 2 ^ 32) : eight (y <<< 8) = y := by
  have := its_shl y 8 8 (Nat.le_refl _) h
  simpa [eight] using this

theorem split (r : R) : r = ((r >>> 8) <<< 8) ^^^ (BitVec.ofNat 32 (r.toNat % 256)) := by
  apply BitVec.eq_of_toNat_eq
  rw [BitVec.toNat_xor, BitVec.toNat_shiftLeft, BitVec.toNat_ushiftRight, BitVec.toNat_ofNat, Nat.shiftLeft_eq, Nat.shiftRight_eq_div_pow]
  have hr := r.isLt
  rw [Nat.mod_eq_of_lt (a := r.toNat % 256) (by omega), Nat.mod_eq_of_lt (by omega)]
  have h := Nat.two_pow_add_eq_or_of_lt (i := 8) (b := r.toNat % 256) (by omega) (r.toNat / 2 ^ 8)
  have h2 : 2 ^ 8 * (r.toNat / 2 ^ 8) ^^^ r.toNat % 256 = 2 ^ 8 * (r.toNat / 2 ^ 8) ||| r.toNat % 256 := by
    apply Nat.eq_of_testBit_eq
    intro i
    rw [Nat.testBit_xor, Nat.testBit_or, Nat.testBit_two_pow_mul]
    by_cases hi : i < 8
    · simp [show ¬ 8 ≤ i by omega]
    · have : (r.toNat % 256).testBit i = false := Nat.testBit_lt_two_pow (Nat.lt_of_lt_of_le (show r.toNat % 256 < 2 ^ 8 by omega) (Nat.pow_le_pow_right (by omega) (by omega)))
      simp [this]
  rw [Nat.mul_comm, h2, ← h]
  omega

/-- A byte, by the table. -/
theorem fd_table (r : R) (b : UInt8) : fd r b = (r >>> 8) ^^^ eight (BitVec.ofNat 32 ((r.toNat % 256) ^^^ b.toNat)) := by
  unfold fd
  have hx : BitVec.ofNat 32 ((r.toNat % 256) ^^^ b.toNat) = BitVec.ofNat 32 (r.toNat % 256) ^^^ ex b := by
    apply BitVec.eq_of_toNat_eq
    have hb : b.toNat < 256 := b.toNat_lt
    have h1 : r.toNat % 256 ^^^ b.toNat < 2 ^ 8 := Nat.xor_lt_two_pow (by omega) (by omega)
    rw [BitVec.toNat_xor, ex, BitVec.toNat_ofNat, BitVec.toNat_ofNat, BitVec.toNat_ofNat]
    rw [Nat.mod_eq_of_lt (a := r.toNat % 256 ^^^ b.toNat) (by omega), Nat.mod_eq_of_lt (a := b.toNat) (by omega), Nat.mod_eq_of_lt (a := r.toNat % 256) (by omega)]
  have hh : ((r >>> 8).toNat) * 256 < 2 ^ 32 := by
    rw [BitVec.toNat_ushiftRight, Nat.shiftRight_eq_div_pow]
    have hr := r.isLt
    omega
  conv => lhs; rw [split r]
  rw [BitVec.xor_assoc, ← hx, eight_xor, eight_high _ hh]

theorem fd_xor (r s : R) (a b : UInt8) : fd (r ^^^ s) (a ^^^ b) = fd r a ^^^ fd s b := by
  unfold fd
  have : ex (a ^^^ b) = ex a ^^^ ex b := by
    apply BitVec.eq_of_toNat_eq
    have ha : a.toNat < 256 := a.toNat_lt
    have hb : b.toNat < 256 := b.toNat_lt
    have h1 : a.toNat ^^^ b.toNat < 2 ^ 8 := Nat.xor_lt_two_pow (by omega) (by omega)
    rw [ex, ex, ex, BitVec.toNat_xor, BitVec.toNat_ofNat, BitVec.toNat_ofNat, BitVec.toNat_ofNat, UInt8.toNat_xor]
    rw [Nat.mod_eq_of_lt (by omega), Nat.mod_eq_of_lt (by omega), Nat.mod_eq_of_lt (by omega)]
  rw [this, ← eight_xor]
  congr 1
  ac_rfl

def xors (l m : List UInt8) : List UInt8 := List.zipWith (· ^^^ ·) l m
theorem reg_xor (l m : List UInt8) (h : l.length = m.length) (r s : R) : reg (r ^^^ s) (xors l m) = reg r l ^^^ reg s m := by
  induction l generalizing m r s with
  | nil => cases m with | nil => rfl | cons => simp at h
  | cons a l ih =>
    cases m with
    | nil => simp at h
    | cons b m =>
      simp only [xors, List.zipWith_cons_cons, reg_cons]
      rw [fd_xor]
      exact ih m (by simpa using h) _ _

theorem stp_inj {x : R} (h : stp x = 0) : x = 0 := by
  unfold stp at h
  cases hx : x.getLsbD 0 with
  | true =>
    rw [hx] at h
    simp only [if_true] at h
    have h31 : ((x >>> 1) ^^^ P).getLsbD 31 = true := by
      rw [BitVec.getLsbD_xor, BitVec.getLsbD_ushiftRight]
      have : x.getLsbD (1 + 31) = false := BitVec.getLsbD_of_ge _ _ (by omega)
      rw [this]
      decide
    rw [h] at h31
    simp at h31
  | false =>
    rw [hx] at h
    simp only [Bool.false_eq_true, if_false] at h
    apply BitVec.eq_of_getLsbD_eq
    intro i hi
    cases i with
    | zero => simpa using hx
    | succ i =>
      have := congrArg (fun y => BitVec.getLsbD y i) h
      simp only [BitVec.getLsbD_ushiftRight] at this
      rw [Nat.add_comm]
      simpa using this
theorem its_inj (k : Nat) {x : R} (h : its k x = 0) : x = 0 := by
  induction k with
  | zero => exact h
  | succ k ih => exact ih (stp_inj h)
theorem eight_inj {x : R} (h : eight x = 0) : x = 0 := its_inj 8 h

theorem fd_zero_inj {r : R} (h : fd r 0 = 0) : r = 0 := by
  unfold fd at h
  have := eight_inj h
  simpa [ex] using this
theorem reg_zeros (n : Nat) {r : R} (h : reg r (List.replicate n 0) = 0) : r = 0 := by
  induction n generalizing r with
  | zero => exact h
  | succ n ih =>
    rw [List.replicate_succ, reg_cons] at h
    exact fd_zero_inj (ih h)
theorem reg_zero_zeros (n : Nat) : reg 0 (List.replicate n 0) = 0 := by
  induction n with
  | zero => rfl
  | succ n ih =>
    rw [List.replicate_succ, reg_cons]
    have : fd 0 0 = 0 := by
      unfold fd
      rw [show (0 : R) ^^^ ex 0 = 0 from by decide, eight_zero]
    rw [this, ih]

theorem ex_lt (b : UInt8) : (ex b).toNat < 256 := by
  have := b.toNat_lt
  unfold ex
  rw [BitVec.toNat_ofNat, Nat.mod_eq_of_lt (by omega)]
  exact this
theorem ex_zero {b : UInt8} (h : ex b = 0) : b = 0 := by
  have h1 := congrArg BitVec.toNat h
  have := b.toNat_lt
  unfold ex at h1
  rw [BitVec.toNat_ofNat, Nat.mod_eq_of_lt (by omega)] at h1
  apply UInt8.toNat_inj.1
  simpa using h1

/-- Four bytes, from nothing, make nothing only of nothing. -/
theorem four (a b c d : UInt8) (h : reg 0 [a, b, c, d] = 0) : a = 0 ∧ b = 0 ∧ c = 0 ∧ d = 0 := by
  have e0 : (0 : R) ^^^ ex a = ex a := by simp
  simp only [reg_cons, reg_nil, fd] at h
  rw [e0] at h
  have h3 := eight_inj h
  obtain ⟨u, hu⟩ : ∃ u, u = eight (eight (eight (ex a) ^^^ ex b) ^^^ ex c) := ⟨_, rfl⟩
  rw [← hu] at h3
  have e3 : u = ex d := by
    have := congrArg (· ^^^ ex d) h3
    simpa [BitVec.xor_assoc] using this
  -- eight (v) = ex d, so v = ex d <<< 8
  have back : ∀ (v w : R), w.toNat * 256 < 2 ^ 32 → eight v = w → v = w <<< 8 := by
    intro v w hw e
    have hz : eight (v ^^^ (w <<< 8)) = 0 := by rw [eight_xor, eight_high w hw, e, BitVec.xor_self]; rfl
    have := eight_inj hz
    have := congrArg (· ^^^ (w <<< 8)) this
    simpa [BitVec.xor_assoc] using this
  have hd := ex_lt d
  have hc := ex_lt c
  have hb := ex_lt b
  have ha := ex_lt a
  have e2 := back _ _ (by omega) (hu.symm.trans e3)
  have sh8 : ∀ (x : R), x.toNat * 256 < 2 ^ 32 → (x <<< 8).toNat = x.toNat * 256 := by
    intro x hx
    rw [BitVec.toNat_shiftLeft, Nat.shiftLeft_eq, Nat.mod_eq_of_lt (by simpa using hx)]
  have low : ∀ (x : R) (e : UInt8), x.toNat * 256 < 2 ^ 32 → ((x <<< 8) ^^^ ex e).toNat = x.toNat * 256 + e.toNat := by
    intro x e hx
    have he := e.toNat_lt
    rw [BitVec.toNat_xor, sh8 x hx]
    have h1 : (ex e).toNat = e.toNat := by unfold ex; rw [BitVec.toNat_ofNat, Nat.mod_eq_of_lt (by omega)]
    rw [h1]
    have h := Nat.two_pow_add_eq_or_of_lt (i := 8) (b := e.toNat) (by omega) x.toNat
    have h2 : 2 ^ 8 * x.toNat ^^^ e.toNat = 2 ^ 8 * x.toNat ||| e.toNat := by
      apply Nat.eq_of_testBit_eq
      intro i
      rw [Nat.testBit_xor, Nat.testBit_or, Nat.testBit_two_pow_mul]
      by_cases hi : i < 8
      · simp [show ¬ 8 ≤ i by omega]
      · have : e.toNat.testBit i = false := Nat.testBit_lt_two_pow (Nat.lt_of_lt_of_le (show e.toNat < 2 ^ 8 by omega) (Nat.pow_le_pow_right (by omega) (by omega)))
        simp [this]
    rw [Nat.mul_comm, h2, ← h]
  have xr : ∀ (v w : R) (e : UInt8), v ^^^ ex e = w → v = w ^^^ ex e := by
    intro v w e h
    rw [← h, BitVec.xor_assoc, BitVec.xor_self, BitVec.xor_zero]
  have f2 := xr _ _ _ e2
  have b2 : ((ex d <<< 8) ^^^ ex c).toNat < 65536 := by
    have := c.toNat_lt
    rw [low _ _ (by omega)]; omega
  have e1 := back _ _ (by omega) f2
  have f1 := xr _ _ _ e1
  have b1 : ((((ex d <<< 8) ^^^ ex c) <<< 8) ^^^ ex b).toNat < 16777216 := by
    have := b.toNat_lt
    rw [low _ _ (by omega)]; omega
  have e0 := back _ _ (by omega) f1
  have n0 := congrArg BitVec.toNat e0
  rw [sh8 _ (by omega), low _ _ (by omega), low _ _ (by omega)] at n0
  have hd1 : (ex d).toNat = d.toNat := by have := d.toNat_lt; unfold ex; rw [BitVec.toNat_ofNat, Nat.mod_eq_of_lt (by omega)]
  have ha1 : (ex a).toNat = a.toNat := by have := a.toNat_lt; unfold ex; rw [BitVec.toNat_ofNat, Nat.mod_eq_of_lt (by omega)]
  rw [hd1, ha1] at n0
  have z : ∀ x : UInt8, x.toNat = 0 → x = 0 := fun x h => UInt8.toNat_inj.1 (by simpa using h)
  have := a.toNat_lt
  exact ⟨z a (by omega), z b (by omega), z c (by omega), z d (by omega)⟩

end Go.Proofs.YtbnjenbhpaknbaaGreat.CrcMath

/- Contracts of crc's small functions: eight, feed, bare. -/
namespace Go.Proofs.YtbnjenbhpaknbaaGreat
open Go.RowKit CrcMath

theorem crc_bit (x : R) : (bits .and .u32 (x.toNat : Int) 1 == 1) = x.getLsbD 0 := by
  have hx := x.isLt
  have e : bits .and .u32 (x.toNat : Int) 1 = ((x.toNat &&& 1 : Nat) : Int) := u32_and_nat x.toNat 1 (by omega) (by omega)
  rw [e, Nat.and_one_is_mod, BitVec.getLsbD, Nat.testBit_zero, Bool.eq_iff_iff]
  simp
  omega
theorem crc_turn (x : R) (h : x.getLsbD 0 = true) : bits .xor .u32 ((x.toNat : Int) / 2) 3988292384 = ((stp x).toNat : Int) := by
  have hx := x.isLt
  have e1 : (x.toNat : Int) / 2 = ((x.toNat / 2 : Nat) : Int) := by omega
  have e : bits .xor .u32 ((x.toNat / 2 : Nat) : Int) ((3988292384 : Nat) : Int) = ((x.toNat / 2 ^^^ 3988292384 : Nat) : Int) := u32_xor_nat _ _ (by omega) (by omega)
  rw [e1]
  refine e.trans ?_
  rw [stp, if_pos h, BitVec.toNat_xor, BitVec.toNat_ushiftRight, Nat.shiftRight_eq_div_pow]
  rfl
theorem crc_shift (x : R) (h : x.getLsbD 0 = false) : (x.toNat : Int) / 2 = ((stp x).toNat : Int) := by
  rw [stp, if_neg (by rw [h]; decide), BitVec.toNat_ushiftRight, Nat.shiftRight_eq_div_pow]
  omega

theorem eight_any (r : R) (w : World) :
    Calls Tryz.prog 91 #[.int .u32 (r.toNat : Int)] w fun e w' => e = .returned (.int .u32 ((eight r).toNat : Int)) ∧ w = w' := by
  go_enter Tryz.func91, Tryz.ntmps91
  go_wp2
  go_loop [0, 3] (fun t i => ∃ k : Nat, k ≤ 8 ∧ i = .int .i64 k ∧ t = .int .u32 ((its k r).toNat : Int)) (fun _ i => 8 - (intOf i).toNat)
  case atStart => exact ⟨0, by omega, rfl, rfl⟩
  case round =>
    obtain ⟨k, hk, rfl, rfl⟩ := hrel
    generalize hx : its k r = x
    have HX := Lib.hid hx
    clear hx
    by_cases hlt : k < 8
    · have HT : Hid (its (k + 1) r = stp x) := Lib.hid (by rw [← HX.out]; rfl)
      have HB := Lib.hid (crc_bit x)
      go_wp2
      · have h : (bits BinOp.and IntKind.u32 (x.toNat : Int) 1 == 1) = true := by assumption
        go_round
        case rel => exact ⟨k + 1, by omega, by go_num, by rw [HT.out, crc_turn x (by rw [← HB.out]; exact h)]⟩
        case measure => simp [intOf]; omega
      · have h : (bits BinOp.and IntKind.u32 (x.toNat : Int) 1 == 1) = false := by assumption
        go_round
        case rel => exact ⟨k + 1, by omega, by go_num, by rw [HT.out, crc_shift x (by rw [← HB.out]; exact h)]⟩
        case measure => simp [intOf]; omega
    · have ek : k = 8 := by omega
      subst ek
      go_wp2
      go_ret
      exact ⟨ret_int (by rw [← HX.out]; rfl), rfl⟩

/-- The table of a summer lies in block b from the cell at o on. -/
def Tab (w : World) (b o : Nat) : Prop := ∀ j : Nat, j < 256 → w.cell? ⟨b, o + j, none⟩ = some (.int .u32 ((eight (BitVec.ofNat 32 j)).toNat : Int))

theorem Tab.below {w w' : World} {B b o : Nat} (h : Tab w b o) (hb : Below B w w') (hlt : b < B) : Tab w' b o :=
  fun j hj => (hb.cell (p := ⟨b, o + j, none⟩) hlt).trans (h j hj)

theorem bare_any (b o : Nat) (w : World) (h : Tab w b o) :
    Calls Tryz.prog 97 #[.pointer (some ⟨b, o, none⟩)] w fun e w' => e = .returned (.bool false) ∧ w = w' := by
  have h1 : w.cell? ⟨b, o + 1, none⟩ = some (.int .u32 1996959894) := h 1 (by omega)
  clear h
  go_enter Tryz.func97, Tryz.ntmps97
  go_wp2
  go_ret
  exact ⟨rfl, rfl⟩

theorem feed_index (x : R) (c : UInt8) : bits .xor .u8 (IntKind.u8.wrap (x.toNat : Int)) (c.toNat : Int) = (((x.toNat % 256) ^^^ c.toNat : Nat) : Int) := by
  have hc : c.toNat < 256 := c.toNat_lt
  have e : IntKind.u8.wrap (x.toNat : Int) = ((x.toNat % 256 : Nat) : Int) := by rw [IntKind.wrap_u8']; omega
  rw [e, u8_xor_nat _ _ (by omega) (by omega)]
theorem feed_step (x : R) (c : UInt8) (j : Nat) (hj : (x.toNat % 256) ^^^ c.toNat = j) : bits .xor .u32 ((x.toNat : Int) / 256) ((eight (BitVec.ofNat 32 j)).toNat : Int) = ((fd x c).toNat : Int) := by
  have hx := x.isLt
  have e : (x.toNat : Int) / 256 = ((x.toNat / 256 : Nat) : Int) := by omega
  rw [e, u32_xor_nat _ _ (by omega) (BitVec.isLt _), fd_table, hj, BitVec.toNat_xor, BitVec.toNat_ushiftRight, Nat.shiftRight_eq_div_pow]

theorem feed_any (b o : Nat) (r : R) (s : ByteArray) (w : World) (h : Tab w b o) (hlt0 : b < w.heap.size) (hs : s.size ≤ maxLen) :
    Calls Tryz.prog 98 #[.pointer (some ⟨b, o, none⟩), .int .u32 (r.toNat : Int), .string s] w fun e w' => e = .returned (.int .u32 ((reg r s.data.toList).toNat : Int)) ∧ Below w.heap.size w w' := by
  unfold maxLen at hs
  go_enter Tryz.func98, Tryz.ntmps98
  go_wp2
  go_loopw [1, 10] (fun t i wr => ∃ k : Nat, k ≤ s.size ∧ i = .int .i64 k ∧ t = .int .u32 ((reg r (s.data.toList.take k)).toNat : Int) ∧ Below w.heap.size w wr) (fun _ i _ => s.size - (intOf i).toNat)
  case atStart => exact ⟨0, by omega, rfl, rfl, Below.refl _ _⟩
  case round =>
    obtain ⟨k, hk, rfl, rfl, hbw⟩ := hrel
    by_cases hlt : k < s.size
    · generalize hx : reg r (s.data.toList.take k) = x
      have HX := Lib.hid hx
      clear hx
      have HT : Hid (reg r (s.data.toList.take (k + 1)) = fd x s[k]) := Lib.hid (by rw [bytes_take s k hlt, reg_snoc, HX.out])
      obtain ⟨j, hj⟩ : ∃ j, (x.toNat % 256) ^^^ s[k].toNat = j := ⟨_, rfl⟩
      have hc : s[k].toNat < 256 := s[k].toNat_lt
      have hj2 : j < 256 := by rw [← hj]; exact Nat.xor_lt_two_pow (n := 8) (by omega) (by omega)
      have hcell : wr.cell? ⟨b, o + j, none⟩ = some (.int .u32 ((eight (BitVec.ofNat 32 j)).toNat : Int)) := (hbw.cell (p := ⟨b, o + j, none⟩) hlt0).trans (h j hj2)
      have hidx := feed_index x s[k]
      rw [hj] at hidx
      have HS : Hid (_ = _) := Lib.hid (feed_step x s[k] j hj)
      clear hj hc
      have hj3 : (j : Int) < 256 := by omega
      have hj4 : 0 ≤ (j : Int) := by omega
      go_wp2
      go_quiet (fail)
      have hb2 : Below w.heap.size w (wr.drewN nq) := hbw.drewN _
      go_wp2
      go_roundw
      case rel => exact ⟨k + 1, by omega, by go_num, by rw [HT.out, ← HS.out], hb2⟩
      case measure => simp [intOf]; omega
    · go_wp2
      go_ret
      exact ⟨ret_int (by rw [List.take_of_length_le (by rw [size_list]; omega)]), hbw⟩

end Go.Proofs.YtbnjenbhpaknbaaGreat

/- Contracts of crc's fill and New. -/
namespace Go.Proofs.YtbnjenbhpaknbaaGreat
open Go.RowKit CrcMath

theorem zero_crc (u : World) : (zeroValue 125).run Tryz.prog u = .ok (.agg (Array.replicate 256 (.int .u32 0))) u := by kernel_rfl

/-- The first k words of the table in block b are filled. -/
def Part (w : World) (b k : Nat) : Prop :=
  ∃ cs : Array Value, w.heap[b]? = some (.cells cs 125 (0, 0)) ∧ cs.size = 256 ∧ ∀ j : Nat, j < k → cs[j]? = some (.int .u32 ((eight (BitVec.ofNat 32 j)).toNat : Int))

theorem Part.cell {w : World} {b k j : Nat} (h : Part w b k) (hj : j < 256) : ∃ u, w.cell? ⟨b, j, none⟩ = some u := by
  obtain ⟨cs, hh, hs, _⟩ := h
  refine ⟨cs[j]'(by omega), ?_⟩
  simp only [World.cell?, hh]
  simp [hs, hj]
theorem Part.frozen {w : World} {b k j : Nat} (h : Part w b k) : w.frozen? ⟨b, j, none⟩ = false := by
  obtain ⟨cs, hh, hs, _⟩ := h
  simp [World.frozen?, hh]
theorem Part.next {w : World} {b k : Nat} (h : Part w b k) (hk : k < 256) : Part (w.setCell ⟨b, k, none⟩ (.int .u32 ((eight (BitVec.ofNat 32 k)).toNat : Int))) b (k + 1) := by
  obtain ⟨cs, hh, hs, hc⟩ := h
  refine ⟨cs.setIfInBounds k (.int .u32 ((eight (BitVec.ofNat 32 k)).toNat : Int)), ?_, by simpa using hs, fun j hj => ?_⟩
  · simp only [World.setCell, Array.getElem?_modify, if_true, hh, Option.map_some]
    rfl
  · rw [Array.getElem?_setIfInBounds]
    by_cases e : k = j
    · subst e; rw [if_pos rfl, if_pos (by omega)]
    · rw [if_neg e]; exact hc j (by omega)
theorem Part.tab {w : World} {b : Nat} (h : Part w b 256) : Tab w b 0 := by
  obtain ⟨cs, hh, hs, hc⟩ := h
  intro j hj
  simp only [World.cell?, hh, Nat.zero_add]
  simpa using hc j hj
theorem Part.lt {w : World} {b k : Nat} (h : Part w b k) : b < w.heap.size := by
  obtain ⟨cs, hh, hs, hc⟩ := h
  exact (Array.getElem?_eq_some_iff.1 hh).1
theorem Part.drew {w : World} {b k : Nat} (h : Part w b k) : Part w.drew b k := h

set_option maxRecDepth 100000 in
theorem crc_fill_any (b : Nat) (w : World) (hp : Part w b 0) :
    Calls Tryz.prog 72 #[.pointer (some ⟨b, 0, none⟩)] w fun e w' => e = .returned (.tuple #[]) ∧ Part w' b 256 ∧ Below b w w' := by
  go_enter Tryz.func72, Tryz.ntmps72
  go_wp2
  go_loopw [3] (fun i wr => ∃ k : Nat, k ≤ 256 ∧ i = .int .i64 k ∧ Part wr b k ∧ Below b w wr) (fun i _ => 256 - (intOf i).toNat)
  case atStart => exact ⟨0, by omega, rfl, hp, Below.refl _ _⟩
  case round =>
    obtain ⟨k, hk, rfl, hpart, hbw⟩ := hrel
    by_cases hlt : k < 256
    · obtain ⟨u, hu⟩ := hpart.cell hlt
      have hf := hpart.frozen (j := k)
      have hpart2 := hpart.next hlt
      have hb2 : Below b w (wr.setCell ⟨b, k, none⟩ (.int .u32 ((eight (BitVec.ofNat 32 k)).toNat : Int))) := hbw.setCell (p := ⟨b, k, none⟩) (Nat.le_refl _) _
      obtain ⟨x, hx⟩ : ∃ x, x = BitVec.ofNat 32 k := ⟨_, rfl⟩
      rw [← hx] at hpart2 hb2
      have hw : IntKind.u32.wrap (k : Int) = (x.toNat : Int) := by
        rw [IntKind.wrap_u32', hx, BitVec.toNat_ofNat]
        omega
      have HX := Lib.hid hx
      clear hx
      have hk1 : (k : Int) < 256 := by omega
      have hk2 : 0 ≤ (k : Int) := by omega
      have HP := Lib.hid hpart2
      have HB := Lib.hid hb2
      clear hpart hbw hpart2 hb2
      go_wp2
      go_still_tail 7, (by kernel_rfl)
      still_call ((eight_any x _).mono fun e w' h => ⟨h.1, h.2.symm⟩)
      repeat still_step
      refine wpStill_nil ?_
      change wpList _ _ _ _ _ wr.drew
      go_wp2
      go_roundw
      case rel => exact ⟨k + 1, by omega, by go_num, HP.out.drew, HB.out.drew⟩
      case measure => simp [intOf]; omega
    · have ek : k = 256 := by omega
      subst ek
      go_wp2
      go_end0
      exact ⟨rfl, hpart, hbw⟩

/-- What New answers: a summer whose table is filled. -/
def crc_Made (w : World) (e : Ending) (w' : World) : Prop :=
  ∃ b, e = .returned (.pointer (some ⟨b, 0, none⟩)) ∧ b < w'.heap.size ∧ Tab w' b 0 ∧ Below w.heap.size w w'

theorem crc_new_any (w : World) : Calls Tryz.prog 48 #[] w (crc_Made w) := by
  obtain ⟨zs, hzs⟩ : ∃ zs, zs = Array.replicate 256 (Value.int .u32 0) := ⟨_, rfl⟩
  have hz := zero_crc
  rw [← hzs] at hz
  have hne : ¬ zs = #[] := by rw [hzs]; decide
  have HP : Hid (Part (w.alloc (.cells zs 125)) w.heap.size 0) := Lib.hid ⟨zs, by show (w.heap.push _)[w.heap.size]? = _; simp, by rw [hzs]; simp, fun j hj => by omega⟩
  have HZ := Lib.hid hzs
  clear hzs
  go_enter Tryz.func48, Tryz.ntmps48
  go_wp2_with (go_at_call 72; refine (crc_fill_any _ _ HP.out).mono ?_; rintro e w1 ⟨rfl, hp1, hb1⟩)
  go_ret
  exact ⟨_, rfl, hp1.lt, hp1.tab, ((Below.refl _ _).alloc (Nat.le_refl _) _).trans hb1⟩

end Go.Proofs.YtbnjenbhpaknbaaGreat

/- Plain facts on numbers as bytes: big-endian digits, their value, their order. -/
namespace Go.Proofs.YtbnjenbhpaknbaaGreat.NumMath

/-- The bytes of n, the highest first, in s bytes. -/
def be : Nat → Nat → List UInt8
  | 0, _ => []
  | s + 1, n => be s (n / 256) ++ [UInt8.ofNat (n % 256)]

/-- The number whose bytes these are. -/
def val (l : List UInt8) : Nat := l.foldl (fun a b => 256 * a + b.toNat) 0

theorem be_length (s n : Nat) : (be s n).length = s := by
  induction s generalizing n with
  | zero => rfl
  | succ s ih => simp [be, ih]

theorem val_nil : val [] = 0 := rfl
theorem val_snoc (l : List UInt8) (b : UInt8) : val (l ++ [b]) = 256 * val l + b.toNat := by simp [val]

theorem toNat_mod (n : Nat) : (UInt8.ofNat (n % 256)).toNat = n % 256 := by
  rw [UInt8.toNat_ofNat']; omega

theorem val_be (s n : Nat) (h : n < 256 ^ s) : val (be s n) = n := by
  induction s generalizing n with
  | zero => have : n = 0 := by simpa using h
            subst this; rfl
  | succ s ih =>
    rw [be, val_snoc, ih (n / 256) (by rw [Nat.pow_succ] at h; omega), toNat_mod]
    omega

theorem snoc_ind {α : Type} {P : List α → Prop} (h0 : P []) (h1 : ∀ l a, P l → P (l ++ [a])) (l : List α) : P l := by
  have h : ∀ r : List α, P r.reverse := fun r => by
    induction r with
    | nil => exact h0
    | cons a r ih => rw [List.reverse_cons]; exact h1 _ _ ih
  simpa using h l.reverse

theorem val_lt (l : List UInt8) : val l < 256 ^ l.length := by
  induction l using snoc_ind with
  | h0 => simp [val]
  | h1 l b ih =>
    rw [val_snoc]
    have := b.toNat_lt
    simp only [List.length_append, List.length_singleton, Nat.pow_succ]
    omega

theorem be_val (l : List UInt8) : be l.length (val l) = l := by
  induction l using snoc_ind with
  | h0 => rfl
  | h1 l b ih =>
    have hb := b.toNat_lt
    have e1 : (256 * val l + b.toNat) / 256 = val l := by omega
    have e2 : (256 * val l + b.toNat) % 256 = b.toNat := by omega
    rw [val_snoc, List.length_append, List.length_singleton, be, e1, e2, ih]
    simp

theorem be_inj (s n m : Nat) (hn : n < 256 ^ s) (hm : m < 256 ^ s) (h : be s n = be s m) : n = m := by
  rw [← val_be s n hn, ← val_be s m hm, h]

/-- The lowest byte first: what is laid ahead of it has the higher ones. -/
theorem be_cons (s n : Nat) : be (s + 1) n = UInt8.ofNat (n / 256 ^ s % 256) :: be s n := by
  induction s generalizing n with
  | zero => simp [be]
  | succ s ih =>
    rw [be, ih (n / 256), be, List.cons_append]
    congr 2
    rw [Nat.div_div_eq_div_mul, Nat.pow_succ, Nat.mul_comm]

theorem be_mod (s n : Nat) : be s n = be s (n % 256 ^ s) := by
  induction s generalizing n with
  | zero => rfl
  | succ s ih =>
    have hp : (256 : Nat) ^ (s + 1) = 256 * 256 ^ s := by rw [Nat.pow_succ, Nat.mul_comm]
    have e1 : n % 256 ^ (s + 1) / 256 = n / 256 % 256 ^ s := by rw [hp, Nat.mod_mul_right_div_self]
    have e2 : n % 256 ^ (s + 1) % 256 = n % 256 := by rw [hp]; exact Nat.mod_mul_right_mod n 256 (256 ^ s)
    rw [be, be, ih (n / 256), e1, e2]

end Go.Proofs.YtbnjenbhpaknbaaGreat.NumMath

/- The contract of num.Put. -/
namespace Go.Proofs.YtbnjenbhpaknbaaGreat
open Go.RowKit NumMath
set_option maxRecDepth 100000

/-- May a number have that many bytes? -/
def okB (s : Int) : Bool := decide (1 ≤ s ∧ s ≤ 7)

theorem okB_yes {s : Int} (h1 : 1 ≤ s) (h2 : s ≤ 7) : okB s = true := by unfold okB; simp; omega
theorem okB_no {s : Int} (h : ¬ (1 ≤ s ∧ s ≤ 7)) : okB s = false := by unfold okB; simpa using h

theorem num_right_any (s : Int) (w : World) :
    Calls Tryz.prog 101 #[.int .i64 s] w fun e w' => e = .returned (.bool (okB s)) ∧ w = w' := by
  by_cases h1 : 1 ≤ s
  · by_cases h2 : s ≤ 7
    · go_enter Tryz.func101, Tryz.ntmps101
      go_wp2
      go_ret
      exact ⟨ret_bool (okB_yes h1 h2).symm, rfl⟩
    · go_enter Tryz.func101, Tryz.ntmps101
      go_wp2
      go_ret
      exact ⟨ret_bool (okB_no (by omega)).symm, rfl⟩
  · go_enter Tryz.func101, Tryz.ntmps101
    go_wp2
    go_ret
    exact ⟨ret_bool (okB_no (by omega)).symm, rfl⟩

/-- Can n stand in s bytes? -/
def fitB (s n : Int) : Bool := decide (0 ≤ n ∧ n < 256 ^ s.toNat)

theorem pow_two (s : Int) (h : 0 ≤ s) : (2 : Int) ^ (8 * s).toNat = 256 ^ s.toNat := by
  obtain ⟨k, rfl⟩ := Int.eq_ofNat_of_zero_le h
  have e1 : (8 * (k : Int)).toNat = 8 * k := by omega
  rw [e1, Int.toNat_natCast, Int.pow_mul]
  rfl

theorem fit_shr (s n : Int) (h : 0 ≤ s) : (n / 2 ^ (8 * s).toNat == 0) = fitB s n := by
  rw [pow_two s h]
  have hp : (0 : Int) < 256 ^ s.toNat := Int.pow_pos (by omega)
  unfold fitB
  rw [Bool.eq_iff_iff]
  simp only [beq_iff_eq, decide_eq_true_eq]
  constructor
  · intro e
    have h1 := Int.emod_nonneg n (Int.ne_of_gt hp)
    have h2 := Int.emod_lt_of_pos n hp
    have h3 := Int.mul_ediv_add_emod n (256 ^ s.toNat)
    rw [e] at h3
    omega
  · rintro ⟨h1, h2⟩
    exact Int.ediv_eq_zero_of_lt h1 h2

theorem num_fits_any (s n : Int) (w : World) (h1 : 1 ≤ s) (h7 : s ≤ 7) :
    Calls Tryz.prog 102 #[.int .i64 s, .int .i64 n] w fun e w' => e = .returned (.bool (fitB s n)) ∧ w = w' := by
  go_enter Tryz.func102, Tryz.ntmps102
  go_wp2
  go_ret
  exact ⟨ret_bool (fit_shr s n (by omega)), rfl⟩

/-- What num.add lays behind: the bytes of n, of which the s - k highest are laid. -/
theorem be_step (s k n : Nat) (hk : k < s) : (be s n).take (k + 1) = (be s n).take k ++ [UInt8.ofNat (n / 256 ^ (s - 1 - k) % 256)] := by
  induction s generalizing n k with
  | zero => omega
  | succ s ih =>
    rw [be_cons]
    cases k with
    | zero => simp
    | succ k =>
      rw [List.take_succ_cons, List.take_succ_cons, ih k n (by omega), List.cons_append]
      have e : s + 1 - 1 - (k + 1) = s - 1 - k := by omega
      rw [e]

theorem num_add_any (v : Value) (m : Nat) (xs : List Value) (s n base : Nat) (w : World) (hs1 : 1 ≤ s) (hs : s ≤ 7) (hn : n < 256 ^ s) (hm : m ≤ 1000000) (hown : w.ownsRow base 5 1 v m xs) (hb : base ≤ w.heap.size) :
    Calls Tryz.prog 103 #[v, .int .i64 s, .int .i64 n] w fun e w' =>
      ∃ v', e = .returned v' ∧ w'.ownsRow base 5 1 v' (m + s) (xs ++ bytes (be s n)) ∧ Below base w w' := by
  obtain ⟨i0, hi, hz0, hz1, hz2⟩ := info_parts info_byte
  go_enter Tryz.func103, Tryz.ntmps103
  go_wp2
  go_loopw [0, 7] (fun v i wr => ∃ k : Nat, k ≤ s ∧ i = .int .i64 ((s : Int) - 1 - k) ∧ wr.ownsRow base 5 1 v (m + k) (xs ++ bytes ((be s n).take k)) ∧ Below base w wr)
    (fun _ i _ => (intOf i + 1).toNat)
  case atStart => exact ⟨0, Nat.zero_le _, by simp, by simpa [bytes] using hown, Below.refl _ _⟩
  case round =>
    obtain ⟨k, hk, rfl, hownr, hbw⟩ := hrel
    by_cases hlt : k < s
    · go_wp2_with (at_builtin; refine wpList_append_own _ rfl (.tmp 14) (.tmp 20) 76 rfl base 5 i0 (.int .u8 0) 1 1 Tryz.underlying76 hi hz0 hz1 hz2 rfl (by decide) _ _ _ rfl (hownr.alloc _) ⟨wr.heap.size, 0, none⟩ 1 1 [.int .u8 ((UInt8.ofNat (n / 256 ^ (s - 1 - k) % 256)).toNat : Int)] rfl rfl ?c1 ?c2 ?c3 ?c4 ?c5 ?_)
      case c1 =>
        intro j u hj
        match j, hj with
        | 0, hj =>
          simp at hj
          subst hj
          simp [Addr.add]
          rw [Int.pow_mul]
          rfl
      case c2 => intro u hu; simp at hu; subst hu; rfl
      case c3 => unfold maxLen; omega
      case c4 => omega
      case c5 => have := hbw.size; simp; omega
      intro v' w1 hown1 hg1 _
      have hb1 : Below base w w1 := (hbw.alloc (by have := hbw.size; omega) _).grown hg1 (by have := hbw.size; simp; omega) (fun j hj => (hownr.lt j hj).1)
      have ho2 : w1.ownsRow base 5 1 v' (m + (k + 1)) (xs ++ bytes ((be s n).take (k + 1))) := by
        have e : (((UInt8.ofNat (n / 256 ^ (s - 1 - k) % 256)).toNat : Nat) : Int) = (n : Int) / 256 ^ (s - 1 - k) % 256 := by rw [toNat_mod]; simp
        rw [be_step s k n hlt, bytes_append, ← Nat.add_assoc]
        simp only [bytes, List.map_cons, List.map_nil, e]
        exact hown1
      clear hown1 hg1 hownr hbw hown
      go_wp2
      go_roundw
      case rel => exact ⟨k + 1, by omega, by go_num, ho2, hb1⟩
      case measure => simp [intOf]; omega
    · go_wp2
      go_ret
      have e : k = s := by omega
      subst e
      rw [List.take_of_length_le (by rw [be_length]; omega)] at hownr
      exact ⟨_, rfl, hownr, hbw⟩

/-- The bytes of all numbers. -/
def putBytes (s : Int) (l : List Int) : List UInt8 := l.flatMap fun n => be s.toNat n.toNat
def fitAll (s : Int) (l : List Int) : Bool := l.all (fitB s)
theorem putBytes_snoc (s : Int) (l : List Int) (n : Int) : putBytes s (l ++ [n]) = putBytes s l ++ be s.toNat n.toNat := by simp [putBytes]
theorem fitAll_snoc (s : Int) (l : List Int) (n : Int) : fitAll s (l ++ [n]) = (fitAll s l && fitB s n) := by simp [fitAll]
theorem putBytes_length (s : Int) (l : List Int) : (putBytes s l).length = l.length * s.toNat := by
  induction l with
  | nil => simp [putBytes]
  | cons n l ih =>
    have : putBytes s (n :: l) = be s.toNat n.toNat ++ putBytes s l := by simp [putBytes]
    rw [this, List.length_append, ih, be_length, List.length_cons, Nat.add_mul, Nat.one_mul, Nat.add_comm]
theorem fitAll_take {s : Int} {l : List Int} (k : Nat) (h : fitAll s l = true) : fitAll s (l.take k) = true := by
  unfold fitAll at *
  rw [List.all_eq_true] at *
  intro x hx
  exact h x (List.mem_of_mem_take hx)

/-- num.Put's answer: the bytes, and the error's number. -/
def putR (s : Int) (l : List Int) : List UInt8 × Int :=
  if okB s then if fitAll s l then (putBytes s l, 0) else ([], 2) else ([], 1)
theorem putR_arg {s : Int} {l : List Int} (h : okB s = false) : putR s l = ([], 1) := by simp [putR, h]
theorem putR_range {s : Int} {l : List Int} (h : okB s = true) (h2 : fitAll s l = false) : putR s l = ([], 2) := by simp [putR, h, h2]
theorem putR_ok {s : Int} {l : List Int} (h : okB s = true) (h2 : fitAll s l = true) : putR s l = (putBytes s l, 0) := by simp [putR, h, h2]

def Answers (s : Int) (l : List Int) (w : World) (e : Ending) (w' : World) : Prop :=
  e = .returned (.tuple #[.string (str (putR s l).1), .int .i64 (putR s l).2]) ∧ Below w.heap.size w w'

theorem add_int (v : Value) (m : Nat) (xs : List Value) (s : Nat) (x : Int) (base : Nat) (w : World) (hs1 : 1 ≤ s) (hs : s ≤ 7) (h0 : 0 ≤ x) (hx : x < 256 ^ s) (hm : m ≤ 1000000) (hown : w.ownsRow base 5 1 v m xs) (hb : base ≤ w.heap.size) :
    Calls Tryz.prog 103 #[v, .int .i64 s, .int .i64 x] w fun e w' =>
      ∃ v', e = .returned v' ∧ w'.ownsRow base 5 1 v' (m + s) (xs ++ bytes (be s x.toNat)) ∧ Below base w w' := by
  obtain ⟨n, rfl⟩ := Int.eq_ofNat_of_zero_le h0
  have hn : n < 256 ^ s := by
    have e : ((256 ^ s : Nat) : Int) = 256 ^ s := by simp
    omega
  exact num_add_any v m xs s n base w hs1 hs hn hm hown hb

theorem put_any (s : Int) (a : Option Addr) (cap : Nat) (l : List Int) (w : World) (hl : l.length ≤ 100000) (hr : Lies w w.heap.size a (ints l)) :
    Calls Tryz.prog 94 #[.int .i64 s, .slice a l.length cap] w (Answers s l w) := by
  by_cases hok : okB s = true
  · have hb2 : 1 ≤ s ∧ s ≤ 7 := by simpa [okB] using hok
    obtain ⟨n, rfl⟩ := Int.eq_ofNat_of_zero_le (show 0 ≤ s by omega)
    have hn1 : 1 ≤ n := by omega
    have hn7 : n ≤ 7 := by omega
    have hmul : n * l.length ≤ 7 * l.length := Nat.mul_le_mul_right _ hn7
    obtain ⟨p, hp⟩ : ∃ p, p = n * l.length := ⟨_, rfl⟩
    have hwr : wrap64 ((n : Int) * (l.length : Int)) = (p : Int) := by
      have e : (n : Int) * (l.length : Int) = (p : Int) := by rw [hp]; simp
      rw [e]
      exact IntWalk.wrap64_in _ ⟨by omega, by omega⟩
    have hpb : p ≤ 700000 := by omega
    have HP := Lib.hid hp
    clear hp hmul
    obtain ⟨i0, hi, hz0, hz1, hz2⟩ := info_parts info_byte
    go_enter Tryz.func94, Tryz.ntmps94
    go_wp2_with (first | (go_at_call 101; refine (num_right_any _ _).mono ?_; rintro e w' ⟨rfl, rfl⟩) | (at_make; refine wpList_make_own _ rfl (.const (.int .i64 0)) (.tmp 15) 76 rfl w.heap.size 5 i0 (.int .u8 0) 1 Tryz.underlying76 hi hz0 hz1 _ _ _ p rfl rfl hwr ?b2 ?b3 (Nat.le_refl _) ?_))
    case b2 => rw [hz2]; omega
    case b3 => unfold maxLen; omega
    intro w0 hown0 hg0
    go_wp2
    have hb0 : Below w.heap.size w w0 := (Below.refl _ _).grown hg0 (Nat.le_refl _) (fun k h => by cases h)
    go_loopw [6, 19] (fun v i wr => ∃ k : Nat, k ≤ l.length ∧ i = .int .i64 k ∧ fitAll n (l.take k) = true ∧ wr.ownsRow w.heap.size 5 1 v (k * n) (bytes (putBytes n (l.take k))) ∧ Below w.heap.size w wr)
      (fun _ i _ => l.length - (intOf i).toNat)
    case atStart => exact ⟨0, Nat.zero_le _, rfl, rfl, by simpa [bytes, putBytes, Value.slice] using hown0, hb0⟩
    case round =>
      obtain ⟨k, hk, rfl, hall, hownr, hbw⟩ := hrel
      by_cases hlt : k < l.length
      · obtain ⟨b, off, rfl, hbb, hc⟩ := hr (by rw [ints_length]; omega)
        have hcell : wr.cell? ⟨b, off + k, none⟩ = some (.int .i64 l[k]) := (hbw.cell (p := ⟨b, off + k, none⟩) hbb).trans (hc k _ (ints_get l k hlt))
        clear hc hr hown0 hg0 hb0
        have HA := Lib.hid hall
        clear hall
        have HT := Lib.hid (take_snoc l k hlt)
        by_cases hfit : fitB n l[k] = true
        · have hf2 : 0 ≤ l[k] ∧ l[k] < 256 ^ n := by simpa [fitB] using hfit
          have hkn : k * n ≤ 1000000 := by have := Nat.mul_le_mul (show k ≤ 100000 by omega) hn7; omega
          go_wp2_with (first | (go_at_call 102; refine (num_fits_any _ _ _ (by omega) (by omega)).mono ?_; rintro e w' ⟨rfl, rfl⟩) | (go_at_call 103; refine (add_int _ _ _ _ _ _ _ hn1 hn7 hf2.1 hf2.2 hkn hownr hbw.size).mono ?_; rintro e w1 ⟨v', rfl, hown1, hb1⟩))
          go_roundw
          case rel => exact ⟨k + 1, by omega, by go_num, by rw [HT.out, fitAll_snoc, HA.out, hfit]; rfl, by rw [HT.out, putBytes_snoc, bytes_append, Nat.succ_mul]; simpa using hown1, hbw.trans hb1⟩
          case measure => simp [intOf]; omega
        · have hno : fitB n l[k] = false := by simpa using hfit
          clear hfit
          go_wp2_with (go_at_call 102; refine (num_fits_any _ _ _ (by omega) (by omega)).mono ?_; rintro e w' ⟨rfl, rfl⟩)
          go_ret2
          have hnot : fitAll n l = false := by
            cases hh : fitAll n l with
            | false => rfl
            | true =>
              have := fitAll_take (k + 1) hh
              rw [HT.out, fitAll_snoc, hno, Bool.and_false] at this
              cases this
          exact ⟨by rw [putR_range hok hnot]; rfl, hbw⟩
      · have HE : Hid (l.take k = l) := Lib.hid (List.take_of_length_le (by omega))
        have hconv := own_string hownr
        have HA := Lib.hid hall
        clear hall
        go_wp2
        go_ret2
        have h1 := HA.out
        rw [HE.out] at h1
        exact ⟨by rw [putR_ok hok h1, HE.out]; rfl, hbw⟩
  · have hno : okB s = false := by simpa using hok
    clear hok
    go_enter Tryz.func94, Tryz.ntmps94
    go_wp2_with (go_at_call 101; refine (num_right_any _ _).mono ?_; rintro e w' ⟨rfl, rfl⟩)
    go_ret2
    exact ⟨by rw [putR_arg hno]; rfl, Below.refl _ _⟩

/-- The contract where the length stands by another name, and the answer is known. -/
theorem put_at (s : Int) (a : Option Addr) (n cap : Nat) (l : List Int) (L : List UInt8) (c : Int) (w : World) (hn : l.length = n) (hR : putR s l = (L, c)) (hl : n ≤ 100000) (hr : Lies w w.heap.size a (ints l)) :
    Calls Tryz.prog 94 #[.int .i64 s, .slice a n cap] w fun e w' => e = .returned (.tuple #[.string (str L), .int .i64 c]) ∧ Below w.heap.size w w' := by
  subst hn
  refine (put_any s a cap l w hl hr).mono fun e w' h => ?_
  unfold Answers at h
  rw [hR] at h
  exact h

end Go.Proofs.YtbnjenbhpaknbaaGreat

/- Contracts of crc's Sum, tail, Seal. -/
namespace Go.Proofs.YtbnjenbhpaknbaaGreat
open Go.RowKit CrcMath

/-- The sum of bytes, as a number. -/
def sumI (l : List UInt8) : Int := ((crc l).toNat : Int)
theorem sumI_bd (l : List UInt8) : 0 ≤ sumI l ∧ sumI l < 4294967296 := by
  unfold sumI
  have := (crc l).isLt
  omega

theorem sum_end (l : List UInt8) : wrap64 (bits .xor .u32 IntKind.u32.max ((reg ones l).toNat : Int)) = sumI l := by
  have hb := sumI_bd l
  have e : bits .xor .u32 IntKind.u32.max ((reg ones l).toNat : Int) = sumI l := by
    have h1 : IntKind.u32.max = ((4294967295 : Nat) : Int) := rfl
    rw [h1, u32_xor_nat _ _ (by omega) (BitVec.isLt _), sumI, crc, ← BitVec.allOnes_xor, BitVec.toNat_xor, BitVec.toNat_allOnes]
  rw [e, IntWalk.wrap64_in _ ⟨by omega, by omega⟩]

theorem crc_sum_any (b : Nat) (a : Option Addr) (cap : Nat) (l : List ByteArray) (w : World) (ht : Tab w b 0) (hb : b < w.heap.size) (hl : l.length ≤ 140737488355328) (hs : ∀ s ∈ l, s.size ≤ maxLen) (hr : Lies w w.heap.size a (strs l)) :
    Calls Tryz.prog 81 #[.pointer (some ⟨b, 0, none⟩), .slice a l.length cap] w fun e w' => e = .returned (.int .i64 (sumI (cat l))) ∧ Below w.heap.size w w' := by
  go_enter Tryz.func81, Tryz.ntmps81
  go_wp2_with (go_at_call 97; refine (bare_any _ _ _ ht).mono ?_; rintro e w' ⟨rfl, rfl⟩)
  go_loopw [5, 19] (fun t i wr => ∃ k : Nat, k ≤ l.length ∧ i = .int .i64 k ∧ t = .int .u32 ((reg ones (cat (l.take k))).toNat : Int) ∧ Below w.heap.size w wr) (fun _ i _ => l.length - (intOf i).toNat)
  case atStart => exact ⟨0, by omega, rfl, rfl, Below.refl _ _⟩
  case round =>
    obtain ⟨k, hk, rfl, rfl, hbw⟩ := hrel
    by_cases hlt : k < l.length
    · obtain ⟨bl, off, rfl, hbb, hc⟩ := hr (by rw [strs_length]; omega)
      have hcell : wr.cell? ⟨bl, off + k, none⟩ = some (.string l[k]) := (hbw.cell (p := ⟨bl, off + k, none⟩) hbb).trans (hc k _ (strs_get l k hlt))
      have hsz := hs l[k] (List.getElem_mem _)
      have HT : Hid (_ = _) := Lib.hid (take_snoc l k hlt)
      have htw : Hid (Tab wr b 0) := Lib.hid (ht.below hbw hb)
      have hbz : b < wr.heap.size := Nat.lt_of_lt_of_le hb hbw.size
      generalize hx : reg ones (cat (l.take k)) = x
      have HX := Lib.hid hx
      clear hx hc hs hr ht
      go_wp2_with (go_at_call 98; refine (feed_any _ _ _ _ _ htw.out hbz hsz).mono ?_; rintro e w1 ⟨rfl, hb1⟩)
      go_roundw
      case rel => exact ⟨k + 1, by omega, by go_num, by rw [HT.out, cat_snoc, reg_append, HX.out], hbw.trans (hb1.mono hbw.size)⟩
      case measure => simp [intOf]; omega
    · have HE : Hid (l.take k = l) := Lib.hid (List.take_of_length_le (by omega))
      go_wp2
      go_ret
      exact ⟨ret_int (by rw [HE.out]; exact sum_end _), hbw⟩

theorem sum_at (b : Nat) (a : Option Addr) (n cap : Nat) (l : List ByteArray) (w : World) (hn : l.length = n) (ht : Tab w b 0) (hb : b < w.heap.size) (hl : n ≤ 140737488355328) (hs : ∀ s ∈ l, s.size ≤ maxLen) (hr : Lies w w.heap.size a (strs l)) :
    Calls Tryz.prog 81 #[.pointer (some ⟨b, 0, none⟩), .slice a n cap] w fun e w' => e = .returned (.int .i64 (sumI (cat l))) ∧ Below w.heap.size w w' := by
  subst hn
  exact crc_sum_any b a cap l w ht hb hl hs hr

/-- A slice of one text that the call has just laid. -/
theorem lies_str (x : ByteArray) (w : World) (t : TypeId) : Lies (w.alloc (.cells #[.string x] t)) (w.alloc (.cells #[.string x] t)).heap.size (some ⟨w.heap.size, 0, none⟩) (strs [x]) := Lies.one (by simp) (by simp)

/-- A sum as four bytes. -/
def tailB (n : Int) : List UInt8 := NumMath.be 4 n.toNat

theorem cat_join (l : List ByteArray) : Lib.join (l.map (·.data.toList)) (ByteArray.empty).data.toList = cat l := by
  have e : (ByteArray.empty).data.toList = [] := rfl
  rw [Lib.join, e]
  induction l with
  | nil => rfl
  | cons s l ih =>
    cases l with
    | nil => simp [cat, List.intercalate]
    | cons t l =>
      have h : cat (s :: t :: l) = s.data.toList ++ cat (t :: l) := rfl
      rw [h, ← ih]
      simp [List.intercalate]

/-- What was sealed. -/
def sealB (l : List UInt8) : List UInt8 := l ++ tailB (sumI l)
theorem tailB_length (n : Int) : (tailB n).length = 4 := NumMath.be_length _ _
theorem sealB_length (l : List UInt8) : (sealB l).length = l.length + 4 := by rw [sealB, List.length_append, tailB_length]

/-- What Open answers. -/
def openR (l : List UInt8) : List UInt8 × Int :=
  if l.length < 4 then ([], 13) else if l.drop (l.length - 4) = tailB (sumI (l.take (l.length - 4))) then (l.take (l.length - 4), 0) else ([], 7)
theorem openR_short {l : List UInt8} (h : l.length < 4) : openR l = ([], 13) := by rw [openR, if_pos h]
theorem openR_sum {l : List UInt8} (h : ¬ l.length < 4) (h2 : ¬ l.drop (l.length - 4) = tailB (sumI (l.take (l.length - 4)))) : openR l = ([], 7) := by rw [openR, if_neg h, if_neg h2]
theorem openR_ok {l : List UInt8} (h : ¬ l.length < 4) (h2 : l.drop (l.length - 4) = tailB (sumI (l.take (l.length - 4)))) : openR l = (l.take (l.length - 4), 0) := by rw [openR, if_neg h, if_pos h2]

/-! The contracts at a list of texts that the caller has just laid. -/
theorem sum_new (b n cap : Nat) (l : List ByteArray) (t : TypeId) (w : World) (hn : l.length = n) (ht : Tab w b 0) (hb : b < w.heap.size) (hl : n ≤ 140737488355328) (hs : ∀ s ∈ l, s.size ≤ maxLen) :
    Calls Tryz.prog 81 #[.pointer (some ⟨b, 0, none⟩), .slice (some ⟨w.heap.size, 0, none⟩) n cap] (w.alloc (.cells (strs l).toArray t)) fun e w' => e = .returned (.int .i64 (sumI (cat l))) ∧ Below w.heap.size w w' := by
  refine (sum_at b _ n cap l _ hn (ht.below (alloc_below _ _) hb) (by simp; omega) hl hs (Lies.new _ _ _)).mono fun e w' h => ⟨h.1, (alloc_below _ _).trans (h.2.mono (by simp))⟩
/-! A summer that isn't there. -/
theorem sum_none (a : Option Addr) (n cap : Nat) (w : World) :
    Calls Tryz.prog 81 #[.pointer none, .slice a n cap] w fun e w' => e = .returned (.int .i64 0) ∧ w = w' := by
  go_enter Tryz.func81, Tryz.ntmps81
  go_wp2
  go_ret
  exact ⟨rfl, rfl⟩
end Go.Proofs.YtbnjenbhpaknbaaGreat

/- Contracts of the document's answers: Sum, Seal, Open, Joined; Long, awake. -/
namespace Go.Proofs.YtbnjenbhpaknbaaGreat
open Go.RowKit CrcMath

/-- The register behind k bits of a byte, as the document has it. -/
def refR (k : Nat) (x : R) (c : UInt8) : R := its k (x ^^^ ex c) ^^^ (ex c >>> k)
theorem refR_zero (x : R) (c : UInt8) : refR 0 x c = x := by
  show (x ^^^ ex c) ^^^ (ex c >>> 0) = x
  rw [BitVec.ushiftRight_zero, BitVec.xor_assoc, BitVec.xor_self, BitVec.xor_zero]
theorem ex_shift (c : UInt8) (k : Nat) : (ex c >>> k).toNat = c.toNat / 2 ^ k := by
  have := c.toNat_lt
  rw [BitVec.toNat_ushiftRight, Nat.shiftRight_eq_div_pow, ex, BitVec.toNat_ofNat, Nat.mod_eq_of_lt (by omega)]
theorem refR_eight (x : R) (c : UInt8) : refR 8 x c = fd x c := by
  have h : ex c >>> 8 = 0 := by
    apply BitVec.eq_of_toNat_eq
    rw [ex_shift]
    have := c.toNat_lt
    show c.toNat / 256 = 0
    omega
  rw [refR, h]
  show its 8 (x ^^^ ex c) ^^^ 0#32 = _
  rw [BitVec.xor_zero]; rfl
theorem lsb_mod (x : R) : x.getLsbD 0 = decide (x.toNat % 2 = 1) := by
  rw [BitVec.getLsbD, Nat.testBit_zero]
theorem refR_succ (k : Nat) (x : R) (c : UInt8) :
    refR (k + 1) x c = if ((refR k x c).toNat % 2 = c.toNat / 2 ^ k % 2) then refR k x c >>> 1 else (refR k x c >>> 1) ^^^ P := by
  obtain ⟨z, hz⟩ : ∃ z, z = its k (x ^^^ ex c) := ⟨_, rfl⟩
  obtain ⟨d, hd⟩ : ∃ d, d = ex c >>> k := ⟨_, rfl⟩
  have e1 : refR k x c = z ^^^ d := by rw [hz, hd, refR]
  have e2 : refR (k + 1) x c = stp z ^^^ (d >>> 1) := by
    rw [hz, hd, refR, its, ← BitVec.shiftRight_add]
  have e3 : c.toNat / 2 ^ k = d.toNat := by rw [hd, ex_shift]
  have hl : (z ^^^ d).getLsbD 0 = (z.getLsbD 0 ^^ d.getLsbD 0) := BitVec.getLsbD_xor ..
  rw [lsb_mod, lsb_mod d] at hl
  rw [e1, e2, e3, stp]
  have hx : ((z ^^^ d) >>> 1) = (z >>> 1) ^^^ (d >>> 1) := BitVec.ushiftRight_xor_distrib ..
  rw [hx]
  have hb : ∀ a : Nat, a % 2 = 0 ∨ a % 2 = 1 := fun a => by omega
  cases hq : z.getLsbD 0 with
  | true =>
    rw [hq] at hl
    rw [if_pos rfl, if_neg]
    · ac_rfl
    · intro h
      rw [h] at hl
      rcases hb d.toNat with h1 | h1 <;> simp [h1] at hl
  | false =>
    rw [hq] at hl
    rw [if_neg (by decide), if_pos]
    rw [Bool.false_xor, decide_eq_decide] at hl
    generalize (z ^^^ d).toNat = q at hl ⊢
    have := hb d.toNat
    have := hb q
    omega

theorem ref_xor (y : R) : bits .xor .i64 ((y.toNat : Int) / 2) 3988292384 = (((y >>> 1) ^^^ P).toNat : Int) := by
  have hx := y.isLt
  have e1 : (y.toNat : Int) / 2 = ((y.toNat / 2 : Nat) : Int) := by omega
  rw [e1, show (3988292384 : Int) = ((3988292384 : Nat) : Int) from rfl, xor_i64 _ _ (by omega) (by omega), BitVec.toNat_xor, BitVec.toNat_ushiftRight, Nat.shiftRight_eq_div_pow]
  rfl
theorem ref_end (l : List UInt8) : 4294967295 - ((reg ones l).toNat : Int) = sumI l := by
  have := (reg ones l).isLt
  rw [sumI, crc, BitVec.toNat_not]
  omega

set_option maxRecDepth 100000 in
theorem refSum_any (s : ByteArray) (w : World) (hs : s.size ≤ 140737488355328) :
    Calls Tryz.prog 66 #[.string s] w fun e w' => e = .returned (.int .i64 (sumI s.data.toList)) ∧ w = w' := by
  go_enter Tryz.func66, Tryz.ntmps66
  go_wp2
  go_loop [3, 4] (fun t i => ∃ k : Nat, k ≤ s.size ∧ i = .int .i64 k ∧ t = .int .i64 ((reg ones (s.data.toList.take k)).toNat : Int)) (fun _ i => s.size - (intOf i).toNat)
  case atStart => exact ⟨0, by omega, rfl, rfl⟩
  case round =>
    obtain ⟨k, hk, rfl, rfl⟩ := hrel
    generalize hx : reg ones (s.data.toList.take k) = x
    have HX := Lib.hid hx
    clear hx
    have hx32 : x.toNat < 4294967296 := x.isLt
    by_cases hlt : k < s.size
    · have HT : Hid (reg ones (s.data.toList.take (k + 1)) = fd x s[k]) := Lib.hid (by rw [bytes_take s k hlt, reg_snoc, HX.out])
      have hc256 : (s[k].toNat : Int) < 256 := by have := s[k].toNat_lt; omega
      go_wp2
      go_loop [3, 5, 6] (fun t d i => ∃ b : Nat, b ≤ 8 ∧ i = .int .i64 b ∧ d = .int .i64 ((s[k].toNat / 2 ^ b : Nat) : Int) ∧ t = .int .i64 ((refR b x s[k]).toNat : Int)) (fun _ _ i => 8 - (intOf i).toNat)
      case atStart => exact ⟨0, by omega, rfl, by simp, by rw [refR_zero]⟩
      case round =>
        obtain ⟨b, hb, rfl, rfl, rfl⟩ := hrel
        by_cases hb8 : b < 8
        · have HS : Hid (_ = _) := Lib.hid (refR_succ b x s[k])
          have HD : Hid (s[k].toNat / 2 ^ (b + 1) = s[k].toNat / 2 ^ b / 2) := Lib.hid (by rw [Nat.pow_succ, Nat.div_div_eq_div_mul])
          generalize hy : refR b x s[k] = y
          rw [hy] at HS
          generalize hd : s[k].toNat / 2 ^ b = d
          rw [hd] at HS HD
          have hd256 : d < 256 := by rw [← hd]; exact Nat.lt_of_le_of_lt (Nat.div_le_self _ _) (by omega)
          have hy32 : y.toNat < 4294967296 := y.isLt
          have HXO : Hid (_ = _) := Lib.hid (ref_xor y)
          clear hy hd
          by_cases hq : y.toNat % 2 = d % 2
          · have hne : ((y.toNat : Int) % 2 != (d : Int) % 2) = false := by rw [bne_eq_false_iff_eq]; omega
            have HQ := Lib.hid hq
            clear hq
            go_wp2
            go_round
            case rel => exact ⟨b + 1, by omega, by go_num, by rw [HD.out]; go_num, by rw [HS.out, if_pos HQ.out, BitVec.toNat_ushiftRight, Nat.shiftRight_eq_div_pow]; go_num⟩
            case measure => simp [intOf]; omega
          · have hne : ((y.toNat : Int) % 2 != (d : Int) % 2) = true := by rw [bne_iff_ne]; omega
            have HQ := Lib.hid hq
            clear hq
            go_wp2
            go_round
            case rel => exact ⟨b + 1, by omega, by go_num, by rw [HD.out]; go_num, by rw [HS.out, if_neg HQ.out, HXO.out]⟩
            case measure => simp [intOf]; omega
        · have eb : b = 8 := by omega
          subst eb
          go_wp2
          go_round
          case rel => exact ⟨k + 1, by omega, by go_num, by rw [HT.out, refR_eight]⟩
          case measure => simp [intOf]; omega
    · have HE : Hid (s.data.toList.take k = s.data.toList) := Lib.hid (List.take_of_length_le (by rw [size_list]; omega))
      go_wp2
      go_ret
      exact ⟨ret_int (by rw [← HX.out, HE.out]; exact ref_end _), rfl⟩

end Go.Proofs.YtbnjenbhpaknbaaGreat

/- Contracts of the document's answers: Seal, Open, Joined; Long, awake. -/
namespace Go.Proofs.YtbnjenbhpaknbaaGreat
open Go.RowKit CrcMath

/-- Are texts more than what is played? -/
def crc_longB (l : List ByteArray) : Bool := decide (3000 < (cat l).length) || decide (60 < l.length)

theorem crc_cat_take_le (l : List ByteArray) (k : Nat) : (cat (l.take k)).length ≤ (cat l).length := by
  conv => rhs; rw [← List.take_append_drop k l, cat, List.flatMap_append]
  rw [List.length_append]
  exact Nat.le_add_right _ _

end Go.Proofs.YtbnjenbhpaknbaaGreat

/- Arguments of any plain type, opened: a description of the type, the plain data that it holds, and how they lie in the world. -/
namespace Go.Proofs.YtbnjenbhpaknbaaGreat.Open
open Go.RowKit

inductive Ty where
  | int (k : IntKind) | bool | str | unit
  | pair (a b : Ty)
  | arr (n : Nat) (e : Ty)
  | sl (bytes : Nat) (e : Ty)

def Ty.size : Ty → Nat
  | .int _ | .bool | .str | .sl _ _ => 1
  | .unit => 0
  | .pair a b => a.size + b.size
  | .arr n e => n * e.size

abbrev Ty.den : Ty → Type
  | .int _ => Int
  | .bool => Bool
  | .str => ByteArray
  | .unit => Unit
  | .pair a b => a.den × b.den
  | .arr _ e => List e.den
  | .sl _ e => List e.den

/-- The cells cs hold the data x. -/
def Reads (w : World) : (t : Ty) → List Value → t.den → Prop
  | .int k, cs, (x : Int) => cs = [.int k x] ∧ (Lit.int k x).wf = true
  | .bool, cs, (x : Bool) => cs = [.bool x]
  | .str, cs, (x : ByteArray) => cs = [.string x] ∧ x.size ≤ 140737488351232
  | .unit, cs, _ => cs = []
  | .pair a b, cs, x => Reads w a (cs.take a.size) x.1 ∧ Reads w b (cs.drop a.size) x.2
  | .arr n e, cs, (l : List e.den) => l.length = n ∧ cs.length = n * e.size ∧ ∀ i (h : i < l.length), Reads w e ((cs.drop (i * e.size)).take e.size) l[i]
  | .sl by_ e, cs, (l : List e.den) => ∃ a cap, cs = [.slice a l.length cap] ∧ l.length ≤ cap ∧ cap * by_ ≤ 140737488351232 ∧ cap ≤ 9223372036854775807 ∧
      (0 < l.length → ∃ b off, a = some ⟨b, off, none⟩ ∧ b < w.heap.size ∧ ∀ i (h : i < l.length), ∃ cs' : List Value, cs'.length = e.size ∧
        (∀ j, j < e.size → w.cell? ⟨b, off + (i * e.size + j), none⟩ = cs'[j]?) ∧ Reads w e cs' l[i])

theorem Reads.length {w : World} : ∀ {t : Ty} {cs : List Value} {x : t.den}, Reads w t cs x → cs.length = t.size
  | .int _, _, _, h => by rw [h.1]; rfl
  | .bool, cs, _, h => by have h : cs = _ := h; rw [h]; rfl
  | .str, _, _, h => by rw [h.1]; rfl
  | .unit, cs, _, h => by have h : cs = _ := h; rw [h]; rfl
  | .pair a b, cs, x, h => by
    have h1 := h.1.length
    have h2 := h.2.length
    rw [List.length_take] at h1
    rw [List.length_drop] at h2
    show cs.length = a.size + b.size
    omega
  | .arr n e, _, _, h => h.2.1
  | .sl _ _, _, _, h => by obtain ⟨a, cap, rfl, _⟩ := h; rfl

theorem Reads.below {w w' : World} (hb : Below w.heap.size w w') : ∀ {t : Ty} {cs : List Value} {x : t.den}, Reads w t cs x → Reads w' t cs x
  | .int _, _, _, h => h
  | .bool, _, _, h => h
  | .str, _, _, h => h
  | .unit, _, _, h => h
  | .pair _ _, _, _, h => ⟨h.1.below hb, h.2.below hb⟩
  | .arr _ _, _, _, h => ⟨h.1, h.2.1, fun i hi => (h.2.2 i hi).below hb⟩
  | .sl _ e, _, _, ⟨a, cap, h1, h2, h3, h4, h5⟩ => ⟨a, cap, h1, h2, h3, h4, fun hp => by
      obtain ⟨b, off, e1, e2, e3⟩ := h5 hp
      refine ⟨b, off, e1, Nat.lt_of_lt_of_le e2 hb.size, fun i hi => ?_⟩
      obtain ⟨cs', l1, l2, l3⟩ := e3 i hi
      exact ⟨cs', l1, fun j hj => (hb.cell (p := ⟨b, off + (i * e.size + j), none⟩) e2).trans (l2 j hj), l3.below hb⟩⟩

def kindEq (a b : IntKind) : Bool := match a, b with
  | .i8, .i8 | .i16, .i16 | .i32, .i32 | .i64, .i64 | .u8, .u8 | .u16, .u16 | .u32, .u32 | .u64, .u64 => true
  | _, _ => false
theorem kindEq_eq {a b : IntKind} (h : kindEq a b = true) : a = b := by
  cases a <;> cases b <;> first | rfl | (simp [kindEq] at h)

/-- Is type t (or: are the fields fs, from the cell at off on) as the description says? -/
def chk (P : Program) : Ty → Option TypeId → List Field → Nat → Bool
  | .int k, some t, _, _ => match P.underlying t with | some (.int k') => kindEq k' k | _ => false
  | .bool, some t, _, _ => match P.underlying t with | some .bool => true | _ => false
  | .str, some t, _, _ => match P.underlying t with | some .string => true | _ => false
  | .unit, none, fs, _ => fs.isEmpty
  | .pair a b, none, fs, off => match fs with
    | f :: r => Nat.beq f.offset off && Nat.beq (P.cellsOf f.type) a.size && chk P a (some f.type) [] 0 && chk P b none r (off + a.size)
    | [] => false
  | .pair a b, some t, _, _ => match P.underlying t with
    | some (.struct fs) => Nat.beq (P.cellsOf t) (a.size + b.size) && (match fs.toList with
      | f :: r => Nat.beq f.offset 0 && Nat.beq (P.cellsOf f.type) a.size && chk P a (some f.type) [] 0 && chk P b none r a.size
      | [] => false)
    | _ => false
  | .arr n e, some t, _, _ => match P.underlying t with | some (.array n' e') => Nat.beq n' n && Nat.beq (P.cellsOf t) (n * e.size) && Nat.beq (P.cellsOf e') e.size && chk P e (some e') [] 0 | _ => false
  | .sl by_ e, some t, _, _ => match P.underlying t with | some (.slice e') => Nat.beq (P.cellsOf e') e.size && Nat.blt 0 e.size && Nat.beq (P.bytesOf e') by_ && chk P e (some e') [] 0 | _ => false
  | _, _, _, _ => false

theorem reach_eq : reachBytes = 140737488351232 := rfl

section
variable {H : Type} {enc : TypeId × Value → H} {P : Program} {w : World} {spare : Nat → Bool} {held : Bool}

theorem weightsAll_mem {e : TypeId} : ∀ {ds : List (DataW H)} {d : DataW H} {n : Nat}, d ∈ ds → n ∈ d.weights P e → n ∈ DataW.weightsAll P e ds
  | d0 :: ds, d, n, hd, hn => by
    rw [DataW.weightsAll, List.mem_append]
    cases hd with
    | head => exact Or.inl hn
    | tail _ hd => exact Or.inr (weightsAll_mem hd hn)

theorem choose_list {α β : Type} (p : Nat → α → Prop) (l : Nat) (h : ∀ i, i < l → ∃ x, p i x) (_ : β) : ∃ xs : List α, xs.length = l ∧ ∀ i (hi : i < xs.length), p i xs[i] := by
  induction l with
  | zero => exact ⟨[], rfl, fun i hi => by simp at hi⟩
  | succ l ih =>
    obtain ⟨xs, h1, h2⟩ := ih fun i hi => h i (by omega)
    obtain ⟨x, hx⟩ := h l (by omega)
    refine ⟨xs ++ [x], by simp [h1], fun i hi => ?_⟩
    rw [List.getElem_append]
    split
    · exact h2 i (by assumption)
    · have : i = l := by simp [h1] at hi; omega
      subst this
      simpa using hx

theorem opens (hspare : ∀ b, spare b = true) : ∀ (ty : Ty),
    (∀ (t : TypeId) (fuel : Nat) (cs : List Value) (x : DataW H × List MemPlace), chk P ty (some t) [] 0 = true → DataW.trod enc P w 0 spare held fuel t cs = some x → (∀ n ∈ x.1.weights P t, n ≤ reachBytes) → ∃ d, Reads w ty cs d) ∧
    (∀ (fs : List Field) (off n : Nat) (cs : List Value) (xs : List (DataW H × List MemPlace)), chk P ty none fs off = true → cs.length = off + ty.size → xs.length = fs.length →
      (∀ (i : Nat) (f : Field), fs[i]? = some f → DataW.trod enc P w 0 spare held n f.type ((cs.drop f.offset).take (P.cellsOf f.type)) = xs[i]?) →
      (∀ n ∈ DataW.weightsEach P (fs.map (·.type)) (xs.map (·.1)), n ≤ reachBytes) → ∃ d, Reads w ty (cs.drop off) d)
  | .int k => by
    refine ⟨fun t fuel cs x hc h hw => ?_, fun fs off n cs xs hc => by simp [chk] at hc⟩
    simp only [chk] at hc
    split at hc
    · rename_i k' hu
      have := kindEq_eq hc
      subst this
      obtain ⟨m, rfl, rfl, hwf⟩ := DataW.trod_int hu h
      exact ⟨m, rfl, hwf⟩
    · cases hc
  | .bool => by
    refine ⟨fun t fuel cs x hc h hw => ?_, fun fs off n cs xs hc => by simp [chk] at hc⟩
    simp only [chk] at hc
    split at hc
    · rename_i hu
      obtain ⟨b, rfl, rfl⟩ := DataW.trod_bool hu h
      exact ⟨b, rfl⟩
    · cases hc
  | .str => by
    refine ⟨fun t fuel cs x hc h hw => ?_, fun fs off n cs xs hc => by simp [chk] at hc⟩
    simp only [chk] at hc
    split at hc
    · rename_i hu
      obtain ⟨s, rfl, rfl, _⟩ := DataW.trod_string hu h
      have := hw s.data.toList.length (by simp [DataW.weights])
      rw [reach_eq, Array.length_toList] at this
      exact ⟨s, rfl, this⟩
    · cases hc
  | .unit => by
    refine ⟨fun t fuel cs x hc => by simp [chk] at hc, fun fs off n cs xs hc hl _ _ _ => ?_⟩
    exact ⟨(), by
      show cs.drop off = []
      rw [List.drop_eq_nil_iff]
      have : cs.length = off + 0 := hl
      omega⟩
  | .pair a b => by
    have key : ∀ (fs : List Field) (off n : Nat) (cs : List Value) (xs : List (DataW H × List MemPlace)),
        (match fs with | f :: r => Nat.beq f.offset off && Nat.beq (P.cellsOf f.type) a.size && chk P a (some f.type) [] 0 && chk P b none r (off + a.size) | [] => false) = true →
        cs.length = off + (a.size + b.size) → xs.length = fs.length →
        (∀ (i : Nat) (f : Field), fs[i]? = some f → DataW.trod enc P w 0 spare held n f.type ((cs.drop f.offset).take (P.cellsOf f.type)) = xs[i]?) →
        (∀ n ∈ DataW.weightsEach P (fs.map (·.type)) (xs.map (·.1)), n ≤ reachBytes) → ∃ d, Reads w (.pair a b) (cs.drop off) d := by
      intro fs off n cs xs hc hl hx hr hw
      match fs, xs, hc, hx, hr, hw with
      | f :: r, x :: xs, hc, hx, hr, hw =>
        simp only [Bool.and_eq_true, Nat.beq_eq] at hc
        obtain ⟨⟨⟨h1, h2⟩, h3⟩, h4⟩ := hc
        simp only [List.map_cons, DataW.weightsEach, List.mem_append] at hw
        have r0 := hr 0 f rfl
        rw [h1, h2] at r0
        obtain ⟨d1, hd1⟩ := (opens hspare a).1 f.type n _ x h3 (by simpa using r0) fun m hm => hw m (Or.inl hm)
        obtain ⟨d2, hd2⟩ := (opens hspare b).2 r (off + a.size) n cs xs h4 (by omega) (by simpa using hx) (fun i g hg => by simpa using hr (i + 1) g (by simpa using hg)) fun m hm => hw m (Or.inr hm)
        refine ⟨(d1, d2), hd1, ?_⟩
        show Reads w b ((cs.drop off).drop a.size) d2
        rw [List.drop_drop]
        exact hd2
      | [], _, hc, _, _, _ => cases hc
    refine ⟨fun t fuel cs x hc h hw => ?_, fun fs off n cs xs hc hl hx hr hw => ?_⟩
    · simp only [chk] at hc
      split at hc
      · rename_i fs hu
        simp only [Bool.and_eq_true, Nat.beq_eq] at hc
        obtain ⟨xs, n, rfl, rfl, hl, hx, hr⟩ := DataW.trod_struct hu h
        have := key fs.toList 0 n cs xs (by simpa only [Nat.zero_add] using hc.2) (by rw [hl, hc.1]; omega) (by simpa using hx) (fun i f hf => hr i f (by simpa using hf)) (fun m hm => hw m (by simpa [DataW.weights, hu] using hm))
        simpa using this
      · cases hc
    · exact key fs off n cs xs (by simpa only [chk] using hc) hl hx hr hw
  | .arr m e => by
    refine ⟨fun t fuel cs x hc h hw => ?_, fun fs off n cs xs hc => by simp [chk] at hc⟩
    simp only [chk] at hc
    split at hc
    · rename_i n' e' hu
      simp only [Bool.and_eq_true, Nat.beq_eq] at hc
      obtain ⟨⟨⟨rfl, h1⟩, h2⟩, h3⟩ := hc
      obtain ⟨xs, n, rfl, rfl, hl, hx, hr⟩ := DataW.trod_array hu h
      rw [h2] at hr
      obtain ⟨ds, hd1, hd2⟩ := choose_list (α := e.den) (fun i d => Reads w e ((cs.drop (i * e.size)).take e.size) d) n' (fun i hi => by
        have hi2 : i < xs.length := by omega
        have := hr i hi
        rw [List.getElem?_eq_getElem hi2] at this
        refine (opens hspare e).1 e' n _ xs[i] h3 this fun k hk => hw k ?_
        simp only [DataW.weights, hu]
        exact weightsAll_mem (List.mem_map.2 ⟨xs[i], List.getElem_mem _, rfl⟩) hk) ()
      exact ⟨ds, hd1, by rw [hl, h1], hd2⟩
    · cases hc
  | .sl by_ e => by
    refine ⟨fun t fuel cs x hc h hw => ?_, fun fs off n cs xs hc => by simp [chk] at hc⟩
    simp only [chk] at hc
    split at hc
    · rename_i e' hu
      simp only [Bool.and_eq_true, Nat.beq_eq] at hc
      obtain ⟨⟨⟨h1, h2⟩, h3⟩, h4⟩ := hc
      have hpos : 0 < e.size := by simp [Nat.blt] at h2; omega
      rcases DataW.trod_slice hu h with ⟨rfl, rfl⟩ | ⟨a, len, cap, elems, rest, n, _, rfl, rfl, hb, hl, hm, hlen, hel, hsp, hns⟩
      · exact ⟨[], none, 0, rfl, by simp, by simp, by omega, fun h0 => by simp at h0⟩
      · rw [h1] at hel
        have hrl := (hsp (hspare _)).1
        have hcap : cap * by_ ≤ 140737488351232 := by
          have := hw ((elems.length + rest.length) * P.bytesOf e') (by simp [DataW.weights, hu])
          rw [hlen, hrl, h3, reach_eq, Nat.add_sub_cancel' hl] at this
          exact this
        have hm2 : cap ≤ 9223372036854775807 := hm
        have hcell : ∀ i, i < len → ∃ cs', cs'.length = e.size ∧ (∀ j, j < e.size → w.cell? ((a.add (i * e.size)).add j) = cs'[j]?) ∧ ∃ d, Reads w e cs' d := by
          intro i hi
          have hi2 : i < elems.length := by omega
          have := hel i hi
          rw [List.getElem?_eq_getElem hi2] at this
          obtain ⟨cs', q1, q2⟩ := Option.bind_eq_some_iff.1 this
          obtain ⟨_, q3, q4⟩ := World.cells?_some q1
          refine ⟨cs', q3, q4, (opens hspare e).1 e' n cs' elems[i] h4 q2 fun k hk => hw k ?_⟩
          simp only [DataW.weights, hu, List.mem_cons, List.mem_append]
          exact Or.inr (Or.inl (weightsAll_mem (List.mem_map.2 ⟨elems[i], List.getElem_mem _, rfl⟩) hk))
        obtain ⟨ds, hd1, hd2⟩ := choose_list (α := e.den) (fun i d => ∃ cs', cs'.length = e.size ∧ (∀ j, j < e.size → w.cell? ((a.add (i * e.size)).add j) = cs'[j]?) ∧ Reads w e cs' d) len (fun i hi => by
          obtain ⟨cs', q1, q2, d, q3⟩ := hcell i hi
          exact ⟨d, cs', q1, q2, q3⟩) ()
        refine ⟨ds, some a, cap, by rw [hd1], by omega, hcap, hm2, fun h0 => ?_⟩
        obtain ⟨b, off, spot⟩ := a
        have h00 : ∃ v, w.cell? ⟨b, off, spot⟩ = some v := by
          obtain ⟨cs', q1, q2, _⟩ := hd2 0 h0
          have := q2 0 hpos
          rw [List.getElem?_eq_getElem (by omega)] at this
          simp only [Nat.zero_mul, Addr.add, if_true] at this
          exact ⟨_, this⟩
        obtain ⟨v, hv⟩ := h00
        have hspot : spot = none := by simpa using World.cell?_spot hv
        subst hspot
        refine ⟨b, off, rfl, World.block_lt_of_cell? w _ hv, fun i hi => ?_⟩
        obtain ⟨cs', q1, q2, q3⟩ := hd2 i hi
        refine ⟨cs', q1, fun j hj => ?_, q3⟩
        have := q2 j hj
        rw [Addr.add_lit, Addr.add_lit] at this
        rw [← this, Nat.add_assoc]
    · cases hc
end
end Go.Proofs.YtbnjenbhpaknbaaGreat.Open

/- The statements CrcSums and CrcOpens: their walks. -/
namespace Go.Proofs.YtbnjenbhpaknbaaGreat
open Go.RowKit CrcMath

/-- Texts that came in, as the walks take them. -/
theorem crc_reads_strs {w : World} {a : Option Addr} {cap : Nat} {l : List ByteArray} (h : Open.Reads w (.sl 16 .str) [.slice a l.length cap] l) :
    Lies w w.heap.size a (strs l) ∧ (∀ s ∈ l, s.size ≤ 140737488351232) ∧ l.length ≤ cap ∧ cap ≤ 140737488351232 := by
  obtain ⟨a', cap', e, h1, h2, h3, h4⟩ := h
  simp at e
  obtain ⟨rfl, rfl⟩ := e
  refine ⟨fun h0 => ?_, fun s hs => ?_, h1, by omega⟩
  · rw [strs_length] at h0
    obtain ⟨b, off, e1, e2, e3⟩ := h4 h0
    refine ⟨b, off, e1, e2, fun j u hu => ?_⟩
    have hj : j < l.length := by
      have := (List.getElem?_eq_some_iff.1 hu).1
      rwa [strs_length] at this
    obtain ⟨cs', q1, q2, q3⟩ := e3 j hj
    have := q2 0 (by decide)
    rw [q3.1] at this
    rw [strs_get l j hj] at hu
    simpa [Open.Ty.size, ← hu] using this
  · obtain ⟨i, hi, rfl⟩ := List.mem_iff_getElem.1 hs
    obtain ⟨b, off, e1, e2, e3⟩ := h4 (by omega)
    obtain ⟨cs', q1, q2, q3⟩ := e3 i hi
    exact q3.2

/-- What was sealed is opened. -/
theorem openR_seal (l : List UInt8) : openR (sealB l) = (l, 0) := by
  have e : (sealB l).length - 4 = l.length := by rw [sealB_length]; omega
  have h1 : (sealB l).take ((sealB l).length - 4) = l := by rw [e, sealB, List.take_left]
  have h2 : (sealB l).drop ((sealB l).length - 4) = tailB (sumI l) := by rw [e, sealB, List.drop_left]
  rw [openR_ok (by rw [sealB_length]; omega) (by rw [h1, h2]), h1]

end Go.Proofs.YtbnjenbhpaknbaaGreat

/- What turned bytes do to a sealed text. -/
namespace Go.Proofs.YtbnjenbhpaknbaaGreat
open Go.RowKit CrcMath

def zer (n : Nat) : List UInt8 := List.replicate n 0
def pick4 (b0 b1 b2 b3 : UInt8) : Nat → UInt8
  | 0 => b0 | 1 => b1 | 2 => b2 | _ => b3
/-- The bytes L, of which the first k of four from a on are turned. -/
def mix (L : List UInt8) (a : Nat) (p : Nat → UInt8) : Nat → List UInt8
  | 0 => L
  | k + 1 => (mix L a p k).set (a + k) ((mix L a p k).getD (a + k) 0 ^^^ p k)
theorem mix_length (L : List UInt8) (a : Nat) (p : Nat → UInt8) (k : Nat) : (mix L a p k).length = L.length := by
  induction k with
  | zero => rfl
  | succ k ih => rw [mix, List.length_set, ih]
theorem mix_get (L : List UInt8) (a : Nat) (p : Nat → UInt8) (k i : Nat) :
    (mix L a p k).getD i 0 = if a ≤ i ∧ i < a + k ∧ i < L.length then L.getD i 0 ^^^ p (i - a) else L.getD i 0 := by
  induction k with
  | zero => rw [if_neg (by omega)]; rfl
  | succ k ih =>
    rw [mix, List.getD_eq_getElem?_getD, List.getElem?_set, mix_length]
    by_cases e : a + k = i
    · subst e
      rw [if_pos rfl]
      by_cases hl : a + k < L.length
      · have h2 : (mix L a p k).getD (a + k) 0 = L.getD (a + k) 0 := by
          have h3 : ∀ j, (mix L a p j).getD (a + k) 0 = (mix L a p j).getD (a + k) 0 := fun _ => rfl
          rw [ih, if_neg (by omega)]
        rw [if_pos hl, if_pos (by omega), Option.getD_some, h2]
        congr 2
        omega
      · rw [if_neg hl, if_neg (by omega)]
        simp [List.getD_eq_getElem?_getD, hl]
    · rw [if_neg e, ← List.getD_eq_getElem?_getD, ih]
      by_cases h : a ≤ i ∧ i < a + k ∧ i < L.length
      · rw [if_pos h, if_pos (by omega)]
      · rw [if_neg h, if_neg (by omega)]

theorem xors_length (l m : List UInt8) (h : l.length = m.length) : (xors l m).length = l.length := by simp [xors, h]
theorem xors_getD (l m : List UInt8) (h : l.length = m.length) (i : Nat) : (xors l m).getD i 0 = l.getD i 0 ^^^ m.getD i 0 := by
  simp only [List.getD_eq_getElem?_getD, xors, List.getElem?_zipWith]
  by_cases hi : i < l.length
  · rw [List.getElem?_eq_getElem hi, List.getElem?_eq_getElem (by omega)]
    rfl
  · rw [List.getElem?_eq_none (by omega), List.getElem?_eq_none (by omega)]
    decide
theorem ext_getD {l m : List UInt8} (h : l.length = m.length) (hg : ∀ i, l.getD i 0 = m.getD i 0) : l = m := by
  refine List.ext_getElem h fun i h1 h2 => ?_
  have := hg i
  rwa [List.getD_eq_getElem?_getD, List.getD_eq_getElem?_getD, List.getElem?_eq_getElem h1, List.getElem?_eq_getElem h2, Option.getD_some, Option.getD_some] at this

/-- What is turned in all. -/
def err (a r : Nat) (b0 b1 b2 b3 : UInt8) : List UInt8 := zer a ++ [b0, b1, b2, b3] ++ zer r
theorem err_length (a r : Nat) (b0 b1 b2 b3 : UInt8) : (err a r b0 b1 b2 b3).length = a + 4 + r := by simp [err, zer]; omega
theorem err_get (a r : Nat) (b0 b1 b2 b3 : UInt8) (i : Nat) : (err a r b0 b1 b2 b3).getD i 0 = if a ≤ i ∧ i < a + 4 then pick4 b0 b1 b2 b3 (i - a) else 0 := by
  rw [err, zer, zer, List.append_assoc, List.getD_eq_getElem?_getD]
  by_cases h1 : i < a
  · rw [List.getElem?_append_left (by simpa using h1), List.getElem?_replicate, if_pos h1, if_neg (by omega)]; rfl
  · rw [List.getElem?_append_right (by simp; omega), List.length_replicate]
    by_cases h2 : i - a < 4
    · rw [List.getElem?_append_left (by simpa using h2), if_pos (by omega)]
      obtain ⟨j, hj⟩ : ∃ j, i - a = j := ⟨_, rfl⟩
      rw [hj] at h2 ⊢
      match j, h2 with
      | 0, _ | 1, _ | 2, _ | 3, _ => rfl
    · rw [List.getElem?_append_right (by simp; omega), if_neg (by omega), List.getElem?_replicate]
      split <;> rfl

theorem mix_err (L : List UInt8) (a r : Nat) (b0 b1 b2 b3 : UInt8) (h : L.length = a + 4 + r) : mix L a (pick4 b0 b1 b2 b3) 4 = xors L (err a r b0 b1 b2 b3) := by
  have hl : L.length = (err a r b0 b1 b2 b3).length := by rw [err_length, h]
  refine ext_getD (by rw [mix_length, xors_length _ _ hl]) fun i => ?_
  rw [xors_getD _ _ hl, mix_get, err_get]
  by_cases h1 : a ≤ i ∧ i < a + 4
  · rw [if_pos (by omega), if_pos h1]
  · rw [if_neg (by omega), if_neg h1, UInt8.xor_zero]

theorem reg_err (a r : Nat) (b0 b1 b2 b3 : UInt8) (h : reg 0 (err a r b0 b1 b2 b3) = 0) : b0 = 0 ∧ b1 = 0 ∧ b2 = 0 ∧ b3 = 0 := by
  rw [err, reg_append, reg_append, zer, reg_zero_zeros] at h
  exact four _ _ _ _ (reg_zeros r h)

theorem sumI_turned (l : List UInt8) (e : List UInt8) (hl : l.length = e.length) (h : sumI (xors l e) = sumI l) : reg 0 e = 0 := by
  have h1 := reg_xor l e hl ones 0
  have h0 : ones ^^^ (0 : R) = ones := by decide
  rw [h0] at h1
  have h2 : crc (xors l e) = crc l := by
    apply BitVec.eq_of_toNat_eq
    unfold sumI at h
    omega
  have h3 : reg ones (xors l e) = reg ones l := by
    have := congrArg (fun x : R => ~~~ x) h2
    simpa [crc] using this
  rw [h3] at h1
  have := congrArg (fun x : R => reg ones l ^^^ x) h1
  simp only [← BitVec.xor_assoc, BitVec.xor_self, BitVec.zero_xor] at this
  exact this.symm

theorem tailB_inj {n m : Int} (hn : 0 ≤ n ∧ n < 4294967296) (hm : 0 ≤ m ∧ m < 4294967296) (h : tailB n = tailB m) : n = m := by
  have := NumMath.be_inj 4 n.toNat m.toNat (by omega) (by omega) h
  omega

theorem xors_append (a b c d : List UInt8) (h : a.length = c.length) : xors (a ++ b) (c ++ d) = xors a c ++ xors b d := by
  simp [xors, List.zipWith_append h]
theorem xors_zer (l : List UInt8) (n : Nat) (h : l.length = n) : xors l (zer n) = l := by
  refine ext_getD (by simp [xors, zer, h]) fun i => ?_
  rw [xors_getD _ _ (by simp [zer, h]), zer, List.getD_eq_getElem?_getD, List.getD_eq_getElem?_getD, List.getElem?_replicate]
  split <;> simp

theorem tells (l : List UInt8) (a : Nat) (b0 b1 b2 b3 : UInt8) (hne : ¬ (b0 = 0 ∧ b1 = 0 ∧ b2 = 0 ∧ b3 = 0)) (ha : a = l.length ∨ a + 4 ≤ l.length) :
    openR (mix (sealB l) a (pick4 b0 b1 b2 b3) 4) = ([], 7) := by
  have hlen : (sealB l).length = a + 4 + (l.length - a) := by rw [sealB_length]; omega
  have e1 : (mix (sealB l) a (pick4 b0 b1 b2 b3) 4).length = l.length + 4 := by rw [mix_length, sealB_length]
  have e2 : (mix (sealB l) a (pick4 b0 b1 b2 b3) 4).length - 4 = l.length := by omega
  refine openR_sum (by omega) ?_
  rw [e2, mix_err _ _ _ _ _ _ _ hlen]
  rcases ha with rfl | ha
  · have h0 : err l.length (l.length - l.length) b0 b1 b2 b3 = zer l.length ++ [b0, b1, b2, b3] := by simp [err, zer]
    have h1 : xors (sealB l) (err l.length (l.length - l.length) b0 b1 b2 b3) = l ++ xors (tailB (sumI l)) [b0, b1, b2, b3] := by
      rw [h0, sealB, xors_append _ _ _ _ (by simp [zer]), xors_zer l _ rfl]
    rw [h1, List.drop_left, List.take_left]
    intro h
    apply hne
    have hx : ∀ i, (tailB (sumI l)).getD i 0 ^^^ [b0, b1, b2, b3].getD i 0 = (tailB (sumI l)).getD i 0 := fun i => by
      rw [← xors_getD _ _ (by rw [tailB_length]; rfl), h]
    have hz : ∀ i, [b0, b1, b2, b3].getD i 0 = 0 := fun i => by
      have := congrArg (fun x => (tailB (sumI l)).getD i 0 ^^^ x) (hx i)
      simpa [← UInt8.xor_assoc] using this
    exact ⟨hz 0, hz 1, hz 2, hz 3⟩
  · obtain ⟨r, hr⟩ : ∃ r, l.length = a + 4 + r := ⟨l.length - a - 4, by omega⟩
    have h0 : err a (l.length - a) b0 b1 b2 b3 = err a r b0 b1 b2 b3 ++ zer 4 := by
      rw [err, err, List.append_assoc (zer a ++ [b0, b1, b2, b3])]
      congr 1
      rw [zer, zer, zer, List.replicate_append_replicate]
      congr 1
      omega
    have hl : l.length = (err a r b0 b1 b2 b3).length := by rw [err_length, hr]
    have h1 : xors (sealB l) (err a (l.length - a) b0 b1 b2 b3) = xors l (err a r b0 b1 b2 b3) ++ tailB (sumI l) := by
      rw [h0, sealB, xors_append _ _ _ _ hl, xors_zer _ 4 (tailB_length _)]
    have h2 : (xors l (err a r b0 b1 b2 b3)).length = l.length := xors_length _ _ hl
    rw [h1, ← h2, List.drop_left, List.take_left]
    intro h
    have h3 := tailB_inj (sumI_bd _) (sumI_bd _) h
    exact hne (reg_err a r _ _ _ _ (sumI_turned l _ hl h3.symm))

/-- The sums of three texts, and of what they turn into one another. -/
theorem turns (a b c : List UInt8) (hb : b.length = a.length) (hc : c.length = a.length) :
    crc a ^^^ crc b ^^^ crc c ^^^ crc (xors a (xors b c)) = 0 := by
  have h1 := reg_xor b c (by omega) ones ones
  have h2 := reg_xor a (xors b c) (by rw [xors_length _ _ (by omega)]; omega) ones (ones ^^^ ones)
  have e : ones ^^^ (ones ^^^ ones) = ones := by decide
  rw [e, h1] at h2
  unfold crc
  rw [h2]
  generalize reg ones a = x
  generalize reg ones b = y
  generalize reg ones c = z
  have hn : ∀ u : R, ~~~ u = u ^^^ ones := fun u => by
    rw [ones, BitVec.xor_allOnes]
  rw [hn, hn, hn, hn]
  have : x ^^^ ones ^^^ (y ^^^ ones) ^^^ (z ^^^ ones) ^^^ (x ^^^ (y ^^^ z) ^^^ ones) = (x ^^^ x) ^^^ (y ^^^ y) ^^^ (z ^^^ z) ^^^ (ones ^^^ ones) ^^^ (ones ^^^ ones) := by ac_rfl
  rw [this]
  simp only [BitVec.xor_self]
  rfl

end Go.Proofs.YtbnjenbhpaknbaaGreat

/- A block known whole: reading it and writing it by value, whatever its cells; a relation of worlds in which one old block alone has turned. -/
namespace Go.RowKit
theorem Below.putRow {B g : Nat} {w0 w : World} (hb : Below B w0 w) (hB : B ≤ g) (cs : Array Value) : Below B w0 (w.setRow g cs) :=
  hb.trans ⟨rfl, rfl, rfl, by simp, fun k hk => setRow_other w g k cs (by omega)⟩
end Go.RowKit
namespace Go.Proofs.YtbnjenbhpaknbaaGreat
open Go.RowKit

/-! A block that holds just these values, and may be written. -/
def Row (w : World) (g : Nat) (t : TypeId) (l : List Value) : Prop := w.heap[g]? = some (.cells l.toArray t (0, 0))
theorem Row.lt {w : World} {g : Nat} {t : TypeId} {l : List Value} (h : Row w g t l) : g < w.heap.size := (Array.getElem?_eq_some_iff.1 h).1
theorem Row.cell {w : World} {g : Nat} {t : TypeId} {l : List Value} (h : Row w g t l) (j : Nat) : w.cell? ⟨g, j, none⟩ = l[j]? := by
  rw [cell_of_row w g j l.toArray t (0, 0) h]
  simp
theorem Row.frozen {w : World} {g : Nat} {t : TypeId} {l : List Value} (h : Row w g t l) (j : Nat) : w.frozen? ⟨g, j, none⟩ = false := frozen_of_row w g j _ t h
theorem Row.new (w : World) (t : TypeId) (l : List Value) : Row (w.alloc (.cells l.toArray t)) w.heap.size t l := heap_alloc_new w _
theorem Row.alloc {w : World} {g : Nat} {t : TypeId} {l : List Value} (h : Row w g t l) (o : Obj) : Row (w.alloc o) g t l := (Below.heap_alloc w o g h.lt).trans h
theorem Row.drew {w : World} {g : Nat} {t : TypeId} {l : List Value} (h : Row w g t l) : Row w.drew g t l := h
theorem Row.drewN {w : World} {g : Nat} {t : TypeId} {l : List Value} (h : Row w g t l) (n : Nat) : Row (w.drewN n) g t l := h
theorem Row.set {w : World} {g : Nat} {t : TypeId} {l : List Value} (h : Row w g t l) (j : Nat) (v : Value) : Row (w.setCell ⟨g, j, none⟩ v) g t (l.set j v) := by
  unfold Row
  rw [heap_setCell_same w g j _ t v h]
  simp
theorem Row.far {w : World} {g : Nat} {t : TypeId} {l : List Value} (h : Row w g t l) (p : Addr) (v : Value) (hp : g ≠ p.block) : Row (w.setCell p v) g t l := (heap_setCell_other w p g v hp).trans h
theorem Row.below {w w' : World} {B g : Nat} {t : TypeId} {l : List Value} (h : Row w g t l) (hb : Below B w w') (hg : g < B) : Row w' g t l := (hb.block g hg).trans h
theorem Row.step {w w' : World} {g : Nat} {t : TypeId} {l : List Value} (h : Row w g t l) (hb : Below w.heap.size w w') : Row w' g t l := h.below hb h.lt


section
variable {P : Program}
/-- The whole block, by value. -/
theorem Row.load {w : World} {g : Nat} {t : TypeId} {l : List Value} (h : Row w g t l) (ty : TypeId) (d : TypeDesc) (hu : P.underlying ty = some d) (hd : d.isRow = true) (hi : (P.info? ty).map (·.size) = some l.length) :
    (Instr.loadAt ty (.pointer (some ⟨g, 0, none⟩))).run P w = .ok (.agg l.toArray) w := by
  have := run_loadVar_row (P := P) w g t ty l.toArray (0, 0) d h hu (by cases d <;> simp_all) (by simpa using hi)
  simp only [Instr.loadAt, Instr.sureAddr, Sem.run_bind, Sem.run_pure, Result.andThen_ok, this]
/-- A value over the whole block. -/
theorem Row.store {w : World} {g : Nat} {t : TypeId} {l : List Value} (h : Row w g t l) (ty : TypeId) (m : List Value) (hi : (P.info? ty).map (·.size) = some m.length) (hl : l.length = m.length) (h1 : m.all (·.oneCell') = true) :
    (Instr.storeAt ty (.pointer (some ⟨g, 0, none⟩)) (.agg m.toArray)).run P w = .ok () (w.setRow g m.toArray) := by
  have := run_storeVar_row (P := P) w g t ty l.toArray m.toArray h (by simpa using hi) (by simpa using hl) (by simpa using h1)
  simp only [Instr.storeAt, Instr.sureAddr, Sem.run_bind, Sem.run_pure, Result.andThen_ok, this]
/-- The two at the walk's list of operations: 'go_wp2_with (first | refine HR.out.wpLoad TY _ A.underlyingTY rfl HI.out _ rfl rfl rfl ?_ | ..)'. -/
theorem Row.wpLoad {ops : Array Oper} {rest : List Oper} {o : Oper} {a : Act} {w : World} {Q : Exit → Act → World → Prop} {g : Nat} {t : TypeId} {l : List Value} (h : Row w g t l) (ty : TypeId) (d : TypeDesc) (hu : P.underlying ty = some d) (hd : d.isRow = true)
    (hi : (P.info? ty).map (·.size) = some l.length) (x : Operand) (hgd : o.guard = none) (ho : o.op = .load ty x) (hx : a.eval x = .pointer (some ⟨g, 0, none⟩)) (k : wpList P ops Q rest (a.put o.dst (.agg l.toArray)) w) : wpList P ops Q (o :: rest) a w :=
  wpList_load_row hgd ty x ho g hx t l.toArray (0, 0) d h hu (by cases d <;> simp_all) (by simpa using hi) k
theorem Row.wpStore {ops : Array Oper} {rest : List Oper} {o : Oper} {a : Act} {w : World} {Q : Exit → Act → World → Prop} {g : Nat} {t : TypeId} {l : List Value} (h : Row w g t l) (ty : TypeId) (m : List Value)
    (hi : (P.info? ty).map (·.size) = some m.length) (hl : l.length = m.length) (h1 : m.all (·.oneCell') = true) (x y : Operand) (hgd : o.guard = none) (ho : o.op = .store ty x y) (hx : a.eval x = .pointer (some ⟨g, 0, none⟩)) (hy : a.eval y = .agg m.toArray)
    (k : wpList P ops Q rest (a.put o.dst undef) (w.setRow g m.toArray)) : wpList P ops Q (o :: rest) a w :=
  wpList_store_row hgd ty x y ho g m.toArray hx hy t l.toArray h (by simpa using hi) (by simpa using hl) (by simpa using h1) k
/-- A result that lies in a block. -/
theorem Row.result {w : World} {g : Nat} {t : TypeId} {l : List Value} (h : Row w g t l) {fn : Func} {p : Tmp} {ty : TypeId} (hf : fn.results = #[.cell p ty]) (tmps : Array Value) (d : TypeDesc)
    (hp : tmps.getD p undef = .pointer (some ⟨g, 0, none⟩)) (hu : P.underlying ty = some d) (hd : d.isRow = true) (hi : (P.info? ty).map (·.size) = some l.length) :
    (results fn tmps).run P w = .ok (.agg l.toArray) w :=
  results_cell_row hf tmps w g t l.toArray (0, 0) d hp h hu (by cases d <;> simp_all) (by simpa using hi)
end
theorem Row.put {w : World} {g : Nat} {t : TypeId} {l : List Value} (h : Row w g t l) (m : List Value) : Row (w.setRow g m.toArray) g t m := setRow_heap w g _ _ t _ h
theorem Row.putFar {w : World} {g : Nat} {t : TypeId} {l : List Value} (h : Row w g t l) (k : Nat) (cs : Array Value) (hne : g ≠ k) : Row (w.setRow k cs) g t l := (setRow_other w k g cs hne).trans h
/-- Of what was there block g alone may have turned. -/
def Only (g : Nat) (w w' : World) : Prop := w'.os = w.os ∧ w'.tape = w.tape ∧ w'.output = w.output ∧ w.heap.size ≤ w'.heap.size ∧ ∀ k, k < w.heap.size → k ≠ g → w'.heap[k]? = w.heap[k]?
theorem Only.refl (g : Nat) (w : World) : Only g w w := ⟨rfl, rfl, rfl, Nat.le_refl _, fun _ _ _ => rfl⟩
theorem Only.size {g : Nat} {w w' : World} (h : Only g w w') : w.heap.size ≤ w'.heap.size := h.2.2.2.1
theorem Only.trans {g : Nat} {a b c : World} (h : Only g a b) (k : Only g b c) : Only g a c :=
  ⟨k.1.trans h.1, k.2.1.trans h.2.1, k.2.2.1.trans h.2.2.1, Nat.le_trans h.size k.size, fun i hi hne => (k.2.2.2.2 i (Nat.lt_of_lt_of_le hi h.size) hne).trans (h.2.2.2.2 i hi hne)⟩
theorem Only.of_below {g : Nat} {w w' : World} (h : Below w.heap.size w w') : Only g w w' := ⟨h.os, h.tape, h.output, h.size, fun k hk _ => h.block k hk⟩
theorem Only.step {g : Nat} {a b c : World} (h : Only g a b) (k : Below b.heap.size b c) : Only g a c := h.trans (Only.of_below k)
theorem Only.drew {g : Nat} {a b : World} (h : Only g a b) : Only g a b.drew := h
theorem Only.drewN {g : Nat} {a b : World} (h : Only g a b) (n : Nat) : Only g a (b.drewN n) := h.trans ⟨rfl, rfl, rfl, Nat.le_refl _, fun _ _ _ => rfl⟩
theorem Only.alloc {g : Nat} {a b : World} (h : Only g a b) (o : Obj) : Only g a (b.alloc o) := h.step ((Below.refl _ _).alloc (Nat.le_refl _) _)
theorem Only.setCell {g : Nat} {a b : World} (h : Only g a b) (p : Addr) (v : Value) (hp : p.block = g ∨ a.heap.size ≤ p.block) : Only g a (b.setCell p v) :=
  ⟨h.1, h.2.1, h.2.2.1, Nat.le_trans h.size (by simp [World.setCell]), fun k hk hne => (Below.heap_setCell _ _ _ _ (by rcases hp with hp | hp <;> omega)).trans (h.2.2.2.2 k hk hne)⟩
theorem Only.putRow {g : Nat} {a b : World} (h : Only g a b) (k : Nat) (cs : Array Value) (hk : k = g ∨ a.heap.size ≤ k) : Only g a (b.setRow k cs) :=
  ⟨h.1, h.2.1, h.2.2.1, Nat.le_trans h.size (by simp), fun i hi hne => (setRow_other _ _ _ _ (by rcases hk with hk | hk <;> omega)).trans (h.2.2.2.2 i hi hne)⟩
/-- Of a block that is new there nothing old has turned. -/
theorem Only.below {g B : Nat} {w w' : World} (h : Only g w w') (hg : B ≤ g) (hB : B ≤ w.heap.size) : Below B w w' := ⟨h.1, h.2.1, h.2.2.1, h.size, fun k hk => h.2.2.2.2 k (by omega) (by omega)⟩
theorem Row.only {w w' : World} {g k : Nat} {t : TypeId} {l : List Value} (h : Row w g t l) (ho : Only k w w') (hne : g ≠ k) : Row w' g t l := (ho.2.2.2.2 g h.lt hne).trans h
theorem Lies.only {w w' : World} {B g : Nat} {a : Option Addr} {xs : List Value} (h : Lies w B a xs) (ho : Only g w w') (hB : B ≤ w.heap.size) (hg : B ≤ g) : Lies w' B a xs :=
  h.below (ho.below hg hB)


/-! A part of a block, by value. -/
theorem Row.mid {w : World} {g : Nat} {t : TypeId} {x y z : List Value} (h : Row w g t (x ++ y ++ z)) (o : Nat) (ho : x.length = o) : w.rangeAt g o y := by
  intro j v hv
  have hj : j < y.length := (List.getElem?_eq_some_iff.1 hv).1
  rw [h.cell, ← ho, List.append_assoc, List.getElem?_append_right (by omega), Nat.add_sub_cancel_left, List.getElem?_append_left hj, hv]
theorem Row.there {w : World} {g : Nat} {t : TypeId} {x y z : List Value} (h : Row w g t (x ++ y ++ z)) (o n : Nat) (ho : x.length = o) (hn : y.length = n) : w.there g o n := by
  intro j hj
  refine ⟨?_, h.frozen _⟩
  rw [h.cell, List.getElem?_eq_getElem (by simp; omega)]
  rfl
theorem Row.setCells {g : Nat} {t : TypeId} {z : List Value} : ∀ (vs : List Value) {w : World} {x y : List Value}, Row w g t (x ++ y ++ z) → y.length = vs.length → ∀ o, x.length = o → Row (w.setCells g o vs) g t (x ++ vs ++ z)
  | [], w, x, y, h, hy, o, _ => by
    have : y = [] := List.eq_nil_of_length_eq_zero hy
    subst this
    exact h
  | v :: r, w, x, y, h, hy, o, ho => by
    match y, hy with
    | u :: ys, hy =>
      have h1 := h.set o v
      have e : (x ++ u :: ys ++ z).set o v = (x ++ [v]) ++ ys ++ z := by
        rw [List.append_assoc, List.set_append_right _ _ (by omega), ← ho, Nat.sub_self]
        simp
      rw [e] at h1
      have h2 := Row.setCells r h1 (by simpa using hy) (o + 1) (by simp [ho])
      have e2 : x ++ [v] ++ r ++ z = x ++ v :: r ++ z := by simp
      rw [e2] at h2
      exact h2
theorem Only.setCells {g : Nat} : ∀ (vs : List Value) (o : Nat) {a b : World}, Only g a b → Only g a (b.setCells g o vs)
  | [], _, _, _, h => h
  | v :: r, o, _, _, h => Only.setCells r (o + 1) (h.setCell ⟨g, o, none⟩ v (Or.inl rfl))
theorem Row.farCells {g k : Nat} {t : TypeId} {l : List Value} : ∀ (vs : List Value) (o : Nat) {w : World}, Row w g t l → g ≠ k → Row (w.setCells k o vs) g t l
  | [], _, _, h, _ => h
  | v :: r, o, _, h, hne => Row.farCells r (o + 1) (h.far ⟨k, o, none⟩ v hne) hne
section
variable {P : Program}
theorem Row.wpLoadMid {ops : Array Oper} {rest : List Oper} {o : Oper} {a : Act} {w : World} {Q : Exit → Act → World → Prop} {g i : Nat} {t : TypeId} {x y z : List Value} (h : Row w g t (x ++ y ++ z)) (hx0 : x.length = i) (ty : TypeId) (d : TypeDesc) (hu : P.underlying ty = some d) (hd : d.isRow = true)
    (hi : (P.info? ty).map (·.size) = some y.length) (p : Operand) (hgd : o.guard = none) (ho : o.op = .load ty p) (hx : a.eval p = .pointer (some ⟨g, i, none⟩)) (k : wpList P ops Q rest (a.put o.dst (.agg y.toArray)) w) : wpList P ops Q (o :: rest) a w :=
  wpList_load_mid hgd ty p ho g i hx y d (h.mid i hx0) hu hd hi k
theorem Row.wpStoreMid {ops : Array Oper} {rest : List Oper} {o : Oper} {a : Act} {w : World} {Q : Exit → Act → World → Prop} {g i : Nat} {t : TypeId} {x y z : List Value} (h : Row w g t (x ++ y ++ z)) (hx0 : x.length = i) (ty : TypeId) (m : List Value) (hm : y.length = m.length)
    (hi : (P.info? ty).map (·.size) = some m.length) (h1 : m.all (·.oneCell') = true) (p q : Operand) (hgd : o.guard = none) (ho : o.op = .store ty p q) (hx : a.eval p = .pointer (some ⟨g, i, none⟩)) (hy : a.eval q = .agg m.toArray)
    (k : wpList P ops Q rest (a.put o.dst undef) (w.setCells g i m)) : wpList P ops Q (o :: rest) a w :=
  wpList_store_mid hgd ty p q ho g i m.toArray hx hy (by simpa using h.there i m.length hx0 hm) (by simpa using hi) (by simpa using h1) (by simpa using k)
end

section
variable {P : Program}
/-- A variable's zero value, its cells under a letter. -/
theorem wpAllocZero {ops : Array Oper} {rest : List Oper} {o : Oper} {a : Act} {w : World} {Q : Exit → Act → World → Prop} (Z : List Value) (ty : TypeId) (hz : ∀ u, (zeroValue ty).run P u = .ok (.agg Z.toArray) u) (hgd : o.guard = none) (ho : o.op = .alloc ty)
    (k : wpList P ops Q rest (a.put o.dst (.pointer (some ⟨w.heap.size, 0, none⟩))) (w.alloc (.cells Z.toArray ty))) : wpList P ops Q (o :: rest) a w :=
  wpList_plain hgd fun _ hK => by
    have h := hz w
    unfold Oper.wp execOp
    simp only [ho, Instr.alloc, Sem.run_bind, h, Result.andThen_ok, newVar, Value.cells]
    simp [go_sem]
    exact hK _ _ k
/-! The same with the world behind under a letter: what is known of it stands in the three facts that come with it. What the operation is stands in ONE closed premise ('rfl'). -/
def boxOf (o : Oper) (a : Act) : Option (TypeId × Value) := match o.guard, o.op with | none, .box ty x => some (ty, a.eval x) | _, _ => none
def allocOf (o : Oper) : Option TypeId := match o.guard, o.op with | none, .alloc ty => some ty | _, _ => none
def loadOf (o : Oper) (a : Act) : Option (TypeId × Value) := match o.guard, o.op with | none, .load ty x => some (ty, a.eval x) | _, _ => none
def storeOf (o : Oper) (a : Act) : Option (TypeId × Value × Value) := match o.guard, o.op with | none, .store ty x y => some (ty, a.eval x, a.eval y) | _, _ => none
theorem boxOf_spec {o : Oper} {a : Act} {ty : TypeId} {v : Value} (h : boxOf o a = some (ty, v)) : o.guard = none ∧ ∃ x, o.op = .box ty x ∧ a.eval x = v := by
  unfold boxOf at h
  split at h
  · rename_i x hg ho
    simp only [Option.some.injEq, Prod.mk.injEq] at h
    exact ⟨hg, _, by rw [ho, h.1], h.2⟩
  · cases h
theorem allocOf_spec {o : Oper} {ty : TypeId} (h : allocOf o = some ty) : o.guard = none ∧ o.op = .alloc ty := by
  unfold allocOf at h
  split at h
  · rename_i hg ho
    simp only [Option.some.injEq] at h
    exact ⟨hg, by rw [ho, h]⟩
  · cases h
theorem loadOf_spec {o : Oper} {a : Act} {ty : TypeId} {v : Value} (h : loadOf o a = some (ty, v)) : o.guard = none ∧ ∃ x, o.op = .load ty x ∧ a.eval x = v := by
  unfold loadOf at h
  split at h
  · rename_i x hg ho
    simp only [Option.some.injEq, Prod.mk.injEq] at h
    exact ⟨hg, _, by rw [ho, h.1], h.2⟩
  · cases h
theorem storeOf_spec {o : Oper} {a : Act} {ty : TypeId} {u v : Value} (h : storeOf o a = some (ty, u, v)) : o.guard = none ∧ ∃ x y, o.op = .store ty x y ∧ a.eval x = u ∧ a.eval y = v := by
  unfold storeOf at h
  split at h
  · rename_i x y hg ho
    simp only [Option.some.injEq, Prod.mk.injEq] at h
    exact ⟨hg, _, _, by rw [ho, h.1], h.2.1, h.2.2⟩
  · cases h

/-- What a type's value takes, out of one closed fact on its row of the table. -/
structure Fits (P : Program) (ty : TypeId) (n : Nat) : Prop where
  row : ∃ d, P.underlying ty = some d ∧ d.isRow = true
  size : (P.info? ty).map (·.size) = some n

theorem wpAllocK {ops : Array Oper} {rest : List Oper} {o : Oper} {a : Act} {w : World} {Q : Exit → Act → World → Prop} (Z : List Value) (ty : TypeId) (hz : ∀ u, (zeroValue ty).run P u = .ok (.agg Z.toArray) u) (ho : allocOf o = some ty)
    (k : ∀ w', Row w' w.heap.size ty Z → Below w.heap.size w w' → w'.heap.size = w.heap.size + 1 → wpList P ops Q rest (a.put o.dst (.pointer (some ⟨w.heap.size, 0, none⟩))) w') : wpList P ops Q (o :: rest) a w := by
  obtain ⟨hg, ho⟩ := allocOf_spec ho
  exact wpAllocZero Z ty hz hg ho (k _ (Row.new w ty Z) ((Below.refl _ _).alloc (Nat.le_refl _) _) (by simp))
theorem wpBoxK {ops : Array Oper} {rest : List Oper} {o : Oper} {a : Act} {w : World} {Q : Exit → Act → World → Prop} (l : List Value) (ty : TypeId) (hb : boxOf o a = some (ty, .agg l.toArray))
    (k : ∀ w', Row w' w.heap.size ty l → Below w.heap.size w w' → w'.heap.size = w.heap.size + 1 → wpList P ops Q rest (a.put o.dst (.pointer (some ⟨w.heap.size, 0, none⟩))) w') : wpList P ops Q (o :: rest) a w := by
  obtain ⟨hgd, x, ho, hx⟩ := boxOf_spec hb
  exact wpList_plain hgd fun _ hK => by
    unfold Oper.wp execOp
    simp only [ho, hx, Instr.box, newVar, Value.cells]
    simp [go_sem]
    exact hK _ _ (k _ (Row.new w ty l) ((Below.refl _ _).alloc (Nat.le_refl _) _) (by simp))
theorem Row.wpLoadK {ops : Array Oper} {rest : List Oper} {o : Oper} {a : Act} {w : World} {Q : Exit → Act → World → Prop} {g : Nat} {t : TypeId} {l : List Value} (h : Row w g t l) (ty : TypeId) {n : Nat} (hf : Fits P ty n) (hl : l.length = n)
    (ho : loadOf o a = some (ty, .pointer (some ⟨g, 0, none⟩))) (k : wpList P ops Q rest (a.put o.dst (.agg l.toArray)) w) : wpList P ops Q (o :: rest) a w := by
  obtain ⟨hg, x, ho, hx⟩ := loadOf_spec ho
  obtain ⟨d, hu, hd⟩ := hf.row
  exact h.wpLoad ty d hu hd (by rw [hl]; exact hf.size) x hg ho hx k
theorem Row.wpStoreK {ops : Array Oper} {rest : List Oper} {o : Oper} {a : Act} {w : World} {Q : Exit → Act → World → Prop} {g : Nat} {t : TypeId} {l : List Value} (h : Row w g t l) (ty : TypeId) (m : List Value) {n : Nat}
    (hf : Fits P ty n) (hl : l.length = n) (hm : m.length = n) (h1 : m.all (·.oneCell') = true) (ho : storeOf o a = some (ty, .pointer (some ⟨g, 0, none⟩), .agg m.toArray))
    (k : ∀ w', Row w' g t m → Only g w w' → w'.heap.size = w.heap.size → wpList P ops Q rest (a.put o.dst undef) w') : wpList P ops Q (o :: rest) a w := by
  obtain ⟨hg, x, y, ho, hx, hy⟩ := storeOf_spec ho
  exact h.wpStore ty m (by rw [hm]; exact hf.size) (by rw [hl, hm]) h1 x y hg ho hx hy (k _ (h.put m) ((Only.refl g w).putRow g _ (Or.inl rfl)) (by simp))
theorem World.size_setCells (g : Nat) : ∀ (vs : List Value) (o : Nat) (w : World), (w.setCells g o vs).heap.size = w.heap.size
  | [], _, _ => rfl
  | v :: r, o, w => by rw [World.setCells, World.size_setCells g r]; simp [World.setCell]
theorem Row.wpLoadMidK {ops : Array Oper} {rest : List Oper} {o : Oper} {a : Act} {w : World} {Q : Exit → Act → World → Prop} {g : Nat} {t : TypeId} {x y z : List Value} (h : Row w g t (x ++ y ++ z)) (i : Nat) (hx0 : x.length = i) (ty : TypeId) {n : Nat} (hf : Fits P ty n) (hy : y.length = n)
    (ho : loadOf o a = some (ty, .pointer (some ⟨g, i, none⟩))) (k : wpList P ops Q rest (a.put o.dst (.agg y.toArray)) w) : wpList P ops Q (o :: rest) a w := by
  obtain ⟨hg, p, ho, hp⟩ := loadOf_spec ho
  obtain ⟨d, hu, hd⟩ := hf.row
  exact h.wpLoadMid hx0 ty d hu hd (by rw [hy]; exact hf.size) p hg ho hp k
theorem Row.wpStoreMidK {ops : Array Oper} {rest : List Oper} {o : Oper} {a : Act} {w : World} {Q : Exit → Act → World → Prop} {g : Nat} {t : TypeId} {x y z : List Value} (h : Row w g t (x ++ y ++ z)) (i : Nat) (hx0 : x.length = i) (ty : TypeId) (m : List Value) {n : Nat} (hf : Fits P ty n) (hy : y.length = n) (hm : m.length = n)
    (h1 : m.all (·.oneCell') = true) (ho : storeOf o a = some (ty, .pointer (some ⟨g, i, none⟩), .agg m.toArray))
    (k : ∀ w', Row w' g t (x ++ m ++ z) → Only g w w' → w'.heap.size = w.heap.size → wpList P ops Q rest (a.put o.dst undef) w') : wpList P ops Q (o :: rest) a w := by
  obtain ⟨hg, p, q, ho, hp, hq⟩ := storeOf_spec ho
  exact h.wpStoreMid hx0 ty m (by rw [hy, hm]) (by rw [hm]; exact hf.size) h1 p q hg ho hp hq (k _ (Row.setCells m h (by rw [hy, hm]) i hx0) (Only.setCells m i (Only.refl g w)) (World.size_setCells _ _ _ _))
/-- A value of one cell into a block. -/
theorem Row.wpStore1K {ops : Array Oper} {rest : List Oper} {o : Oper} {a : Act} {w : World} {Q : Exit → Act → World → Prop} {g : Nat} {t : TypeId} {l : List Value} (h : Row w g t l) (i : Nat) (ty : TypeId) (v : Value) (hf : (P.info? ty).map (·.size) = some 1) (hi : i < l.length) (hv : v.cells = #[v])
    (h1 : v.oneCell' = true) (ho : storeOf o a = some (ty, .pointer (some ⟨g, i, none⟩), v))
    (k : ∀ w', Row w' g t (l.set i v) → Only g w w' → w'.heap.size = w.heap.size → wpList P ops Q rest (a.put o.dst undef) w') : wpList P ops Q (o :: rest) a w := by
  obtain ⟨hg, x, y, ho, hx, hy⟩ := storeOf_spec ho
  have hc : w.cell? ⟨g, i, none⟩ = some l[i] := by rw [h.cell, List.getElem?_eq_getElem hi]
  have hr := run_storeCells_cells (P := P) g i [v] 0 w (fun j hj => by
    have : j = 0 := by simpa using hj
    subst this
    simpa using by rw [hc]; rfl) (fun j _ => by simpa using h.frozen _) (fun u hu => by
    have : u = v := by simpa using hu
    rw [this]; exact h1)
  refine wpList_plain hg fun K hK => ?_
  cases hq : P.info? ty with
  | none => simp [hq] at hf
  | some ie =>
    have hs : ie.size = 1 := by simpa [hq] using hf
    unfold Oper.wp execOp
    simp only [ho, hx, hy, Instr.storeAt, Instr.sureAddr, Sem.run_bind, Sem.run_pure, Result.andThen_ok, storeVar, hv, sizeOf, typeInfo]
    simp only [Nat.add_zero, World.setCells] at hr
    simp [hq, hs, hr]
    exact hK _ _ (k _ (h.set i v) ((Only.refl g w).setCell ⟨g, i, none⟩ v (Or.inl rfl)) (by simp [World.setCell]))

/-- A load by value among the operations of a still region. -/
theorem Row.stillLoadMid {ops : Array Oper} {rest : List Oper} {o : Oper} {a : Act} {w : World} {Q : Act → Prop} {g : Nat} {t : TypeId} {x y z : List Value} (h : Row w g t (x ++ y ++ z)) (i : Nat) (hx0 : x.length = i) (ty : TypeId) {n : Nat} (hf : Fits P ty n) (hy : y.length = n)
    (ho : loadOf o a = some (ty, .pointer (some ⟨g, i, none⟩))) (k : wpStill P ops w Q rest (a.put o.dst (.agg y.toArray))) : wpStill P ops w Q (o :: rest) a := by
  obtain ⟨hg, p, ho, hp⟩ := loadOf_spec ho
  obtain ⟨d, hu, hd⟩ := hf.row
  have hw : Region.wanted o (yielded ops a.tmps) = true := by unfold Region.wanted; rw [hg]
  show (if Region.wanted o (yielded ops a.tmps) then o.still P a w (wpStill P ops w Q rest) else wpStill P ops w Q rest (a.put o.dst undef))
  rw [if_pos hw]
  unfold Oper.still execOp
  simp only [ho, hp, run_loadAt_mid w g i ty y d (h.mid i hx0) hu hd (by rw [hy]; exact hf.size), Sem.run_bind, Sem.run_pure, Result.andThen_ok, Oper.stillUpon]
  exact ⟨trivial, k⟩
theorem Row.stillLoad {ops : Array Oper} {rest : List Oper} {o : Oper} {a : Act} {w : World} {Q : Act → Prop} {g : Nat} {t : TypeId} {l : List Value} (h : Row w g t l) (ty : TypeId) {n : Nat} (hf : Fits P ty n) (hl : l.length = n)
    (ho : loadOf o a = some (ty, .pointer (some ⟨g, 0, none⟩))) (k : wpStill P ops w Q rest (a.put o.dst (.agg l.toArray))) : wpStill P ops w Q (o :: rest) a :=
  Row.stillLoadMid (x := []) (y := l) (z := []) (by simpa using h) 0 rfl ty hf hl ho k
/-- A struct's or an array's zero value, built. -/
def buildZ (o : Oper) : Option TypeId := match o.guard, o.op with | none, .build t parts => (if parts.size = 0 then some t else none) | _, _ => none
theorem wpBuildZeroK {ops : Array Oper} {rest : List Oper} {o : Oper} {a : Act} {w : World} {Q : Exit → Act → World → Prop} (l : List Value) (ty : TypeId) (hb : P.built ty [] = some l.toArray) (ho : buildZ o = some ty)
    (k : wpList P ops Q rest (a.put o.dst (.agg l.toArray)) w) : wpList P ops Q (o :: rest) a w := by
  unfold buildZ at ho
  split at ho
  · rename_i t ps hg hop
    split at ho
    · rename_i h0
      obtain rfl := Option.some.inj ho
      have e : ps = #[] := Array.eq_empty_of_size_eq_zero h0
      subst e
      have e2 : ((#[] : Array (Nat × Operand)).map fun (i, x) => (i, a.eval x)).toList = [] := by simp
      refine wpList_build hg t #[] hop (by rw [e2, hb]; rfl) ?_
      rw [e2, hb]
      exact k
    · cases ho
  · cases ho
/-- A load by value that is guarded, its guard decided. -/
def loadG (ops : Array Oper) (o : Oper) (a : Act) : Option (TypeId × Value) := if Region.wanted o (yielded ops a.tmps) then (match o.op with | .load ty x => some (ty, a.eval x) | _ => none) else none
theorem Row.wpLoadG {ops : Array Oper} {rest : List Oper} {o : Oper} {a : Act} {w : World} {Q : Exit → Act → World → Prop} {g : Nat} {t : TypeId} {l : List Value} (h : Row w g t l) (ty : TypeId) {n : Nat} (hf : Fits P ty n) (hl : l.length = n)
    (ho : loadG ops o a = some (ty, .pointer (some ⟨g, 0, none⟩))) (k : wpList P ops Q rest (a.put o.dst (.agg l.toArray)) w) : wpList P ops Q (o :: rest) a w := by
  unfold loadG at ho
  split at ho
  · rename_i hw
    split at ho
    · rename_i ty' x hop
      simp only [Option.some.injEq, Prod.mk.injEq] at ho
      obtain ⟨rfl, hx⟩ := ho
      obtain ⟨d, hu, hd⟩ := hf.row
      refine wpList_step fun K hK => ?_
      rw [if_pos hw]
      exact wp_load_row ty' x hop g hx t l.toArray (0, 0) d h hu (by cases d <;> simp_all) (by simpa [hl] using hf.size) (hK _ _ k)
    · cases ho
  · cases ho
end

end Go.Proofs.YtbnjenbhpaknbaaGreat

/- The contract of num.Take. -/
namespace Go.Proofs.YtbnjenbhpaknbaaGreat
open Go.RowKit NumMath
set_option maxRecDepth 100000

/-- How many bytes the sizes are in all; 0 where one may not be. -/
def nsum (l : List Int) : Int := l.foldl (· + ·) 0

def nallOk (l : List Int) : Bool := l.all okB

theorem nsum_snoc (l : List Int) (s : Int) : nsum (l ++ [s]) = nsum l + s := by simp [nsum]

theorem nsum_bd (l : List Int) (h : nallOk l = true) : 0 ≤ nsum l ∧ nsum l ≤ 7 * l.length := by
  induction l using snoc_ind with
  | h0 => simp [nsum]
  | h1 l s ih =>
    simp only [nallOk, List.all_append, List.all_cons, List.all_nil, Bool.and_true, Bool.and_eq_true] at h
    have := ih h.1
    have h2 : 1 ≤ s ∧ s ≤ 7 := by simpa [okB] using h.2
    rw [nsum_snoc, List.length_append, List.length_singleton]
    omega

theorem nallOk_snoc (l : List Int) (s : Int) : nallOk (l ++ [s]) = (nallOk l && okB s) := by simp [nallOk]

theorem nallOk_take {l : List Int} (k : Nat) (h : nallOk l = true) : nallOk (l.take k) = true := by
  unfold nallOk at *
  rw [List.all_eq_true] at *
  intro x hx
  exact h x (List.mem_of_mem_take hx)

def ntot (l : List Int) : Int := if nallOk l then nsum l else 0

theorem tot_yes {l : List Int} (h : nallOk l = true) : ntot l = nsum l := by simp [ntot, h]

theorem tot_no {l : List Int} (h : nallOk l = false) : ntot l = 0 := by simp [ntot, h]

theorem num_ret_total {l : List Int} {a : Int} {b : Bool} (h1 : a = ntot l) (h2 : b = nallOk l) : Ending.returned (.tuple #[.int .i64 a, .bool b]) = .returned (.tuple #[.int .i64 (ntot l), .bool (nallOk l)]) := by rw [h1, h2]

theorem num_total_any (a : Option Addr) (cap : Nat) (l : List Int) (w : World) (hl : l.length ≤ 1152921504606846976) (hr : Lies w w.heap.size a (ints l)) :
    Calls Tryz.prog 112 #[.slice a l.length cap] w fun e w' =>
      e = .returned (.tuple #[.int .i64 (ntot l), .bool (nallOk l)]) ∧ w = w' := by
  go_enter Tryz.func112, Tryz.ntmps112
  go_wp2
  go_loop [4, 9] (fun t i => ∃ k : Nat, k ≤ l.length ∧ i = .int .i64 k ∧ nallOk (l.take k) = true ∧ t = .int .i64 (nsum (l.take k))) (fun _ i => l.length - (intOf i).toNat)
  case atStart => exact ⟨0, Nat.zero_le _, rfl, rfl, rfl⟩
  case round =>
    obtain ⟨k, hk, rfl, hall, rfl⟩ := hrel
    have hbd := nsum_bd (l.take k) hall
    have hlen : (l.take k).length ≤ k := List.length_take_le _ _
    by_cases hlt : k < l.length
    · obtain ⟨b, off, rfl, hbb, hc⟩ := hr (by rw [ints_length]; omega)
      have hcell : w.cell? ⟨b, off + k, none⟩ = some (.int .i64 l[k]) := hc k _ (ints_get l k hlt)
      clear hc hr
      have HA := Lib.hid hall
      clear hall
      have HT := Lib.hid (take_snoc l k hlt)
      have HN : Hid (okB l[k] = false → nallOk l = false) := Lib.hid fun hn => by
        cases hh : nallOk l with
        | false => rfl
        | true =>
          have := nallOk_take (k + 1) hh
          rw [HT.out, nallOk_snoc, hn, Bool.and_false] at this
          cases this
      by_cases hok : okB l[k] = true
      · have hb2 : 1 ≤ l[k] ∧ l[k] ≤ 7 := by simpa [okB] using hok
        go_wp2_with (go_at_call 101; refine (num_right_any _ _).mono ?_; rintro e w' ⟨rfl, rfl⟩)
        go_round
        case rel => exact ⟨k + 1, by omega, by go_num, by rw [HT.out, nallOk_snoc, HA.out, hok]; rfl, by rw [HT.out, nsum_snoc]⟩
        case measure => simp [intOf]; omega
      · have hno : okB l[k] = false := by simpa using hok
        clear hok
        go_wp2_with (go_at_call 101; refine (num_right_any _ _).mono ?_; rintro e w' ⟨rfl, rfl⟩)
        go_ret2
        have h2 := HN.out hno
        exact ⟨num_ret_total (tot_no h2).symm h2.symm, rfl⟩
    · have HE : Hid (l.take k = l) := Lib.hid (List.take_of_length_le (by omega))
      have HA := Lib.hid hall
      clear hall
      go_wp2
      go_ret2
      have h1 := HA.out
      rw [HE.out] at h1
      exact ⟨num_ret_total (by rw [HE.out, tot_yes h1]) h1.symm, rfl⟩

theorem num_val_step (l : List UInt8) (b : UInt8) (h : l.length ≤ 6) :
    bits .or .i64 (wrap64 ((val l : Int) * 256)) (wrap64 (b.toNat : Int)) = (val (l ++ [b]) : Int) := by
  have hv := val_lt l
  have hb : b.toNat < 256 := b.toNat_lt
  have hp : 256 ^ l.length ≤ 256 ^ 6 := Nat.pow_le_pow_right (by omega) h
  have hn : (256 : Nat) ^ 6 = 281474976710656 := rfl
  rw [IntWalk.wrap64_in _ ⟨by omega, by omega⟩, IntWalk.wrap64_in _ ⟨by omega, by omega⟩]
  have e : (val l : Int) * 256 = ((2 ^ 8 * val l : Nat) : Int) := by omega
  rw [e, or_i64 _ _ (by omega) (by omega), ← Nat.two_pow_add_eq_or_of_lt (by omega), val_snoc]

theorem num_number_any (s : ByteArray) (w : World) (hs : s.size ≤ 7) :
    Calls Tryz.prog 113 #[.string s] w fun e w' => e = .returned (.int .i64 (val s.data.toList)) ∧ w = w' := by
  go_enter Tryz.func113, Tryz.ntmps113
  go_wp2
  go_loop [3, 7] (fun t i => ∃ k : Nat, k ≤ s.size ∧ i = .int .i64 k ∧ t = .int .i64 (val (s.data.toList.take k))) (fun _ i => s.size - (intOf i).toNat)
  case atStart => exact ⟨0, Nat.zero_le _, rfl, rfl⟩
  case round =>
    obtain ⟨k, hk, rfl, rfl⟩ := hrel
    by_cases hlt : k < s.size
    · have HS : Hid (_ = _) := Lib.hid (num_val_step (s.data.toList.take k) s[k] (by rw [List.length_take]; omega))
      have HT := Lib.hid (bytes_take s k hlt)
      go_wp2
      go_round
      case rel => exact ⟨k + 1, by omega, by go_num, by rw [HS.out, HT.out]⟩
      case measure => simp [intOf]; omega
    · have HE : Hid (s.data.toList.take k = s.data.toList) := Lib.hid (List.take_of_length_le (by simp; omega))
      go_wp2
      go_ret
      exact ⟨ret_int (by rw [HE.out]), rfl⟩

/-- The numbers of these sizes that stand there. -/
def nnums : List UInt8 → List Int → List Int
  | _, [] => []
  | L, s :: r => (val (L.take s.toNat) : Int) :: nnums (L.drop s.toNat) r

theorem nnums_length (L : List UInt8) (l : List Int) : (nnums L l).length = l.length := by
  induction l generalizing L with
  | nil => rfl
  | cons s r ih => simp [nnums, ih]

/-- How many bytes the sizes are. -/
def nwidth (l : List Int) : Nat := l.foldr (fun s n => s.toNat + n) 0

theorem nwidth_snoc (l : List Int) (s : Int) : nwidth (l ++ [s]) = nwidth l + s.toNat := by
  induction l with
  | nil => simp [nwidth]
  | cons x l ih =>
    have e : nwidth (x :: (l ++ [s])) = x.toNat + nwidth (l ++ [s]) := rfl
    have e2 : nwidth (x :: l) = x.toNat + nwidth l := rfl
    rw [List.cons_append, e, ih, e2]
    omega

theorem nnums_snoc (L : List UInt8) (l : List Int) (s : Int) : nnums L (l ++ [s]) = nnums L l ++ [(val ((L.drop (nwidth l)).take s.toNat) : Int)] := by
  induction l generalizing L with
  | nil => simp [nnums, nwidth]
  | cons x l ih =>
    have e2 : nwidth (x :: l) = x.toNat + nwidth l := rfl
    rw [List.cons_append, nnums, ih, nnums, List.cons_append, e2, List.drop_drop]

theorem nsum_width (l : List Int) (h : nallOk l = true) : nsum l = nwidth l := by
  induction l using snoc_ind with
  | h0 => rfl
  | h1 l s ih =>
    simp only [nallOk, List.all_append, List.all_cons, List.all_nil, Bool.and_true, Bool.and_eq_true] at h
    have h2 : 1 ≤ s ∧ s ≤ 7 := by simpa [okB] using h.2
    rw [nsum_snoc, nwidth_snoc, ih h.1]
    omega

theorem nwidth_take_le (l : List Int) (k : Nat) : nwidth (l.take k) ≤ nwidth l := by
  induction l generalizing k with
  | nil => simp
  | cons x l ih =>
    cases k with
    | zero => simp [nwidth]
    | succ k =>
      have e2 : nwidth (x :: l) = x.toNat + nwidth l := rfl
      have e3 : nwidth (x :: l.take k) = x.toNat + nwidth (l.take k) := rfl
      have := ih k
      rw [List.take_succ_cons, e2, e3]
      omega

/-- num.Take's answer: the numbers, and the error's number. -/
def takeR (L : List UInt8) (l : List Int) : List Int × Int :=
  if nallOk l then if L.length < nwidth l then ([], 13) else (nnums L l, 0) else ([], 1)

theorem takeR_arg {L : List UInt8} {l : List Int} (h : nallOk l = false) : takeR L l = ([], 1) := by simp [takeR, h]

theorem takeR_short {L : List UInt8} {l : List Int} (h : nallOk l = true) (h2 : L.length < nwidth l) : takeR L l = ([], 13) := by simp [takeR, h, h2]

theorem takeR_ok {L : List UInt8} {l : List Int} (h : nallOk l = true) (h2 : nwidth l ≤ L.length) : takeR L l = (nnums L l, 0) := by simp [takeR, h, Nat.not_lt.2 h2]

def NTakes (L : List UInt8) (l : List Int) (w : World) (e : Ending) (w' : World) : Prop :=
  ∃ v, e = .returned (.tuple #[v, .int .i64 (takeR L l).2]) ∧ w'.ownsRow w.heap.size 3 1 v (takeR L l).1.length (ints (takeR L l).1) ∧ Below w.heap.size w w'

theorem num_drop_extract (t : ByteArray) (n : Nat) : (t.extract n t.size).data.toList = t.data.toList.drop n := by
  rw [Lib.extract_data]
  exact List.take_of_length_le (by rw [List.length_drop]; simp)

theorem num_take_extract (t : ByteArray) (n : Nat) : (t.extract 0 n).data.toList = t.data.toList.take n := by
  rw [Lib.extract_data]; simp

theorem num_take_any (s : ByteArray) (a : Option Addr) (cap : Nat) (l : List Int) (w : World) (hl : l.length ≤ 100000) (_hs : s.size ≤ 140737488355328) (hr : Lies w w.heap.size a (ints l)) :
    Calls Tryz.prog 108 #[.string s, .slice a l.length cap] w (NTakes s.data.toList l w) := by
  by_cases hok : nallOk l = true
  · have hT := nsum_bd l hok
    have hW := nsum_width l hok
    obtain ⟨p, hp⟩ : ∃ p, p = nwidth l := ⟨_, rfl⟩
    have ht : ntot l = (p : Int) := by rw [tot_yes hok, hW, hp]
    have hpb : p ≤ 700000 := by rw [hp]; omega
    have HW := Lib.hid hW
    have HP := Lib.hid hp
    clear hW hp hT
    obtain ⟨i0, hi, hz0, hz1, hz2⟩ := info_parts info_int
    by_cases hshort : s.size < p
    · go_enter Tryz.func108, Tryz.ntmps108
      go_wp2_with (go_at_call 112; refine (num_total_any _ _ _ _ (by omega) hr).mono ?_; rintro e w' ⟨rfl, rfl⟩)
      go_ret2
      have h2 := takeR_short (L := s.data.toList) hok (by rw [← HP.out]; simpa using hshort)
      exact ⟨_, by rw [h2]; rfl, by rw [h2]; exact World.ownsRow_nil _ _ _ _, Below.refl _ _⟩
    · go_enter Tryz.func108, Tryz.ntmps108
      go_wp2_with (first | (go_at_call 112; refine (num_total_any _ _ _ _ (by omega) hr).mono ?_; rintro e w' ⟨rfl, rfl⟩) | (at_make; refine wpList_make_own _ rfl (.const (.int .i64 0)) (.tmp 23) 83 rfl w.heap.size 3 i0 (.int .i64 0) 1 Tryz.underlying83 hi hz0 hz1 _ _ _ l.length rfl rfl rfl ?b2 ?b3 (Nat.le_refl _) ?_))
      case b2 => rw [hz2]; omega
      case b3 => unfold maxLen; omega
      intro w0 hown0 hg0
      go_wp2
      have hb0 : Below w.heap.size w w0 := (Below.refl _ _).grown hg0 (Nat.le_refl _) (fun k h => by cases h)
      clear hg0
      go_loopw [0, 8, 27] (fun t v i wr => ∃ (k : Nat) (T : ByteArray), k ≤ l.length ∧ i = .int .i64 k ∧ t = .string T ∧ T.data.toList = s.data.toList.drop (nwidth (l.take k)) ∧ v = .slice (some ⟨w.heap.size, 0, none⟩) k l.length ∧
          wr.ownsRow w.heap.size 3 1 (.slice (some ⟨w.heap.size, 0, none⟩) k l.length) k (ints (nnums s.data.toList (l.take k))) ∧ Below w.heap.size w wr)
        (fun _ _ i _ => l.length - (intOf i).toNat)
      case atStart => exact ⟨0, s, Nat.zero_le _, rfl, rfl, by simp [nwidth], rfl, by simpa [ints, nnums] using hown0, hb0⟩
      case round =>
        obtain ⟨k, T, hk, rfl, rfl, hT, rfl, hownr, hbw⟩ := hrel
        by_cases hlt : k < l.length
        · obtain ⟨b, off, rfl, hbb, hc⟩ := hr (by rw [ints_length]; omega)
          have hcell0 : wr.cell? ⟨b, off + k, none⟩ = some (.int .i64 l[k]) := (hbw.cell (p := ⟨b, off + k, none⟩) hbb).trans (hc k _ (ints_get l k hlt))
          have HT := Lib.hid (take_snoc l k hlt)
          have hok1 : 1 ≤ l[k] ∧ l[k] ≤ 7 := by
            have := nallOk_take (k + 1) hok
            rw [HT.out, nallOk_snoc, Bool.and_eq_true] at this
            simpa [okB] using this.2
          obtain ⟨m, hm⟩ : ∃ m : Nat, l[k] = (m : Int) := ⟨l[k].toNat, by omega⟩
          have hm1 : 1 ≤ m := by omega
          have hm7 : m ≤ 7 := by omega
          rw [hm] at hcell0
          have hwk : nwidth (l.take (k + 1)) = nwidth (l.take k) + m := by rw [HT.out, nwidth_snoc, hm]; rfl
          have hsz : T.size = s.size - nwidth (l.take k) := by
            have := congrArg List.length hT
            simpa using this
          have hroom : m ≤ T.size := by
            have h1 := nwidth_take_le l (k + 1)
            have h2 := HP.out
            omega
          have HM := Lib.hid hm
          have HZ := Lib.hid hsz
          have HWK := Lib.hid hwk
          have HTT := Lib.hid hT
          have hss : (T.extract 0 m).size ≤ 7 := by
            have := congrArg List.length (num_take_extract T m)
            rw [List.length_take] at this
            have e : (T.extract 0 m).data.toList.length = (T.extract 0 m).size := by simp
            omega
          clear hc hr hown0 hb0 hok1 hm hwk hsz hT ht
          have HOK := Lib.hid hok
          clear hok
          go_wp2_with (first | (go_at_call 113; refine (num_number_any _ _ hss).mono ?_; rintro e w' ⟨rfl, rfl⟩) | (at_builtin; refine wpList_append_fits _ rfl (.tmp 31) (.tmp 36) 83 rfl w.heap.size 3 i0 1 Tryz.underlying83 hi hz1 w.heap.size k l.length _ rfl (hownr.alloc _) ⟨wr.heap.size, 0, none⟩ 1 1 [.int .i64 ((val (T.extract 0 m).data.toList : Nat) : Int)] rfl rfl ?c1 ?c2 (by omega) ?_))
          case c1 =>
            intro j u hj
            match j, hj with
            | 0, hj =>
              simp at hj
              subst hj
              simp [Addr.add]
          case c2 => intro u hu; simp at hu; subst hu; rfl
          intro w1 hown1 hg1
          have hb1 : Below w.heap.size w w1 := (hbw.alloc hbw.size _).grown hg1 (by have := hbw.size; simp; omega) (fun j hj => by cases hj; exact Nat.le_refl _)
          clear hg1
          go_wp2
          go_roundw
          case rel =>
            refine ⟨k + 1, T.extract m T.size, by omega, by go_num, rfl, ?_, rfl, ?_, hb1⟩
            · rw [num_drop_extract, HTT.out, List.drop_drop, HWK.out]
            · rw [HT.out, nnums_snoc, ints_append, HM.out, ← HTT.out, Int.toNat_natCast]
              exact hown1
          case measure => simp [intOf]; omega
        · have HE : Hid (l.take k = l) := Lib.hid (List.take_of_length_le (by omega))
          have HTT := Lib.hid hT
          have HOK := Lib.hid hok
          clear hT hok
          go_wp2
          go_ret2
          have h2 := takeR_ok (L := s.data.toList) HOK.out (by rw [← HP.out]; simp; omega)
          have ek : k = l.length := by omega
          subst ek
          rw [HE.out] at hownr
          exact ⟨_, by rw [h2]; rfl, by rw [h2]; rw [nnums_length]; exact hownr, hbw⟩
  · have hno : nallOk l = false := by simpa using hok
    clear hok
    go_enter Tryz.func108, Tryz.ntmps108
    go_wp2_with (go_at_call 112; refine (num_total_any _ _ _ _ (by omega) hr).mono ?_; rintro e w' ⟨rfl, rfl⟩)
    go_ret2
    have h2 := takeR_arg (L := s.data.toList) hno
    exact ⟨_, by rw [h2]; rfl, by rw [h2]; exact World.ownsRow_nil _ _ _ _, Below.refl _ _⟩

/-- A slice that the call made: the numbers r, handed num_back with the error's number c. -/
def NMade (r : List Int) (c : Int) (w : World) (e : Ending) (w' : World) : Prop :=
  ∃ a cap, e = .returned (.tuple #[.slice a r.length cap, .int .i64 c]) ∧ Lies w' w'.heap.size a (ints r) ∧ Below w.heap.size w w'

theorem num_take_at (s : ByteArray) (L : List UInt8) (a : Option Addr) (n cap : Nat) (l r : List Int) (c : Int) (w : World) (hs : s.data.toList = L) (hz : s.size ≤ 140737488355328) (hn : l.length = n) (hR : takeR L l = (r, c)) (hl : n ≤ 100000) (hr : Lies w w.heap.size a (ints l)) :
    Calls Tryz.prog 108 #[.string s, .slice a n cap] w (NMade r c w) := by
  subst hn
  subst hs
  refine (num_take_any s a cap l w hl hz hr).mono fun e w' h => ?_
  obtain ⟨v, he, hown, hb⟩ := h
  rw [hR] at he hown
  obtain ⟨ra, rc, hv, hlies⟩ := own_form hown
  exact ⟨ra, rc, by rw [he, hv], hlies, hb⟩

/-- Likewise, of some numbers: the answer is new memory. -/
def NMadeN (r : List Int) (c : Int) (w : World) (e : Ending) (w' : World) : Prop :=
  ∃ g cap ys, e = .returned (.tuple #[.slice (some ⟨g, 0, none⟩) r.length cap, .int .i64 c]) ∧ w.heap.size ≤ g ∧ r.length ≤ cap ∧ Row w' g 3 (ints r ++ ys) ∧ Below w.heap.size w w'
theorem NTakes.new {L : List UInt8} {l r : List Int} {c : Int} {w w' : World} {e : Ending} (h : NTakes L l w e w') (hR : takeR L l = (r, c)) (h0 : 0 < r.length) : NMadeN r c w e w' := by
  obtain ⟨v, he, hown, hb⟩ := h
  rw [hR] at he hown
  rcases hown.2 with ⟨h1, h2⟩ | ⟨g, cap, cur, h1, h2, h3, h4, h5, h6, h7⟩
  · have h3 : r.length = 0 := h2
    omega
  · refine ⟨g, cap, cur.toList.drop r.length, by rw [he, h1], h2, h4, ?_, hb⟩
    rw [Nat.mul_one] at h7
    have h8 : cur.toList.take r.length = ints r := h7
    rw [← h8, List.take_append_drop]
    exact h3
theorem num_take_new (s : ByteArray) (L : List UInt8) (a : Option Addr) (n cap : Nat) (l r : List Int) (c : Int) (w : World) (hs : s.data.toList = L) (hz : s.size ≤ 140737488355328) (hn : l.length = n) (hR : takeR L l = (r, c)) (h0 : 0 < r.length) (hl : n ≤ 100000) (hr : Lies w w.heap.size a (ints l)) :
    Calls Tryz.prog 108 #[.string s, .slice a n cap] w (NMadeN r c w) := by
  subst hn
  subst hs
  exact (num_take_any s a cap l w hl hz hr).mono fun e w' h => h.new hR h0

end Go.Proofs.YtbnjenbhpaknbaaGreat

/- Records and their pages as bytes: what a page tells, what is left of a torn one, what a turned byte does. -/
namespace Go.Proofs.YtbnjenbhpaknbaaGreat
open Go.RowKit CrcMath NumMath
set_option linter.unusedVariables false
set_option maxRecDepth 100000

def rOk (k s n v : Int) : Bool := decide (0 ≤ k ∧ k < 128 ∧ 0 ≤ s ∧ s < 4 ∧ 0 ≤ n ∧ n < 65536 ∧ 0 ≤ v ∧ v < 281474976710656)
theorem rOk_is {k s n v : Int} (h : rOk k s n v = true) : 0 ≤ k ∧ k < 128 ∧ 0 ≤ s ∧ s < 4 ∧ 0 ≤ n ∧ n < 65536 ∧ 0 ≤ v ∧ v < 281474976710656 := by simpa [rOk] using h
/-- A record's 12 bytes ahead of the sum. -/
def txtB (k s n v : Int) : List UInt8 := be 1 k.toNat ++ be 1 s.toNat ++ be 2 n.toNat ++ be 6 v.toNat ++ be 2 0
/-- The sum as it stands in a page. -/
def sumM (l : List UInt8) : Int := if sumI l = 4294967295 then 4294967294 else sumI l
theorem sumM_bd (l : List UInt8) : 0 ≤ sumM l ∧ sumM l < 4294967295 := by
  have := sumI_bd l
  unfold sumM
  split <;> omega
def pageB (k s n v : Int) : List UInt8 := txtB k s n v ++ be 4 (sumM (txtB k s n v)).toNat
theorem txtB_length (k s n v : Int) : (txtB k s n v).length = 12 := by simp [txtB, be_length]
theorem pageB_length (k s n v : Int) : (pageB k s n v).length = 16 := by simp [pageB, txtB_length, be_length]
theorem pageB_txt (k s n v : Int) : (pageB k s n v).take 12 = txtB k s n v := by
  rw [pageB, List.take_append_of_le_length (by rw [txtB_length]; omega), List.take_of_length_le (by rw [txtB_length]; omega)]
theorem pageB_sum (k s n v : Int) : (pageB k s n v).drop 12 = be 4 (sumM (txtB k s n v)).toNat := by
  rw [pageB, List.drop_append_of_le_length (by rw [txtB_length]; omega), List.drop_of_length_le (by rw [txtB_length]; omega), List.nil_append]

/-! What stands in a page. -/
def pK (L : List UInt8) : Int := (val (L.take 1) : Int)
def pS (L : List UInt8) : Int := (val ((L.drop 1).take 1) : Int)
def pN (L : List UInt8) : Int := (val ((L.drop 2).take 2) : Int)
def pV (L : List UInt8) : Int := (val ((L.drop 4).take 6) : Int)
theorem nnums_page (L : List UInt8) : nnums L [1, 1, 2, 6] = [pK L, pS L, pN L, pV L] := by
  simp [nnums, pK, pS, pN, pV, List.drop_drop]
def isP (L : List UInt8) : Bool := decide (L.length = 16 ∧ rOk (pK L) (pS L) (pN L) (pV L) = true ∧ pageB (pK L) (pS L) (pN L) (pV L) = L)

theorem drop_app {α : Type} (a b : List α) (n : Nat) (h : a.length = n) : (a ++ b).drop n = b := by rw [← h]; simp
theorem take_app {α : Type} (a b : List α) (n : Nat) (h : a.length = n) : (a ++ b).take n = a := by rw [← h]; simp

theorem p_txt {k s n v : Int} (h : rOk k s n v = true) (r : List UInt8) : pK (txtB k s n v ++ r) = k ∧ pS (txtB k s n v ++ r) = s ∧ pN (txtB k s n v ++ r) = n ∧ pV (txtB k s n v ++ r) = v := by
  obtain ⟨h1, h2, h3, h4, h5, h6, h7, h8⟩ := rOk_is h
  have e : txtB k s n v ++ r = be 1 k.toNat ++ (be 1 s.toNat ++ (be 2 n.toNat ++ (be 6 v.toNat ++ (be 2 0 ++ r)))) := by simp [txtB]
  rw [e]
  have l1 := be_length 1 k.toNat
  have l2 := be_length 1 s.toNat
  have l3 := be_length 2 n.toNat
  have l4 := be_length 6 v.toNat
  have d1 : ∀ x : List UInt8, (be 1 k.toNat ++ x).drop 1 = x := fun x => drop_app _ _ _ l1
  have d2 : ∀ x : List UInt8, (be 1 k.toNat ++ (be 1 s.toNat ++ x)).drop 2 = x := fun x => by rw [← List.append_assoc]; exact drop_app _ _ _ (by simp [be_length])
  have d4 : ∀ x : List UInt8, (be 1 k.toNat ++ (be 1 s.toNat ++ (be 2 n.toNat ++ x))).drop 4 = x := fun x => by rw [← List.append_assoc, ← List.append_assoc]; exact drop_app _ _ _ (by simp [be_length])
  refine ⟨?_, ?_, ?_, ?_⟩
  · rw [pK, take_app _ _ _ l1, val_be _ _ (by omega)]; omega
  · rw [pS, d1, take_app _ _ _ l2, val_be _ _ (by omega)]; omega
  · rw [pN, d2, take_app _ _ _ l3, val_be _ _ (by omega)]; omega
  · rw [pV, d4, take_app _ _ _ l4, val_be _ _ (by omega)]; omega
theorem p_page {k s n v : Int} (h : rOk k s n v = true) : pK (pageB k s n v) = k ∧ pS (pageB k s n v) = s ∧ pN (pageB k s n v) = n ∧ pV (pageB k s n v) = v := p_txt h _
theorem page_is {k s n v : Int} (h : rOk k s n v = true) : isP (pageB k s n v) = true := by
  obtain ⟨h1, h2, h3, h4⟩ := p_page h
  unfold isP
  rw [h1, h2, h3, h4]
  simp [h, pageB_length]
theorem page_inj {k s n v k' s' n' v' : Int} (h : rOk k s n v = true) (h' : rOk k' s' n' v' = true) (e : pageB k s n v = pageB k' s' n' v') : k = k' ∧ s = s' ∧ n = n' ∧ v = v' := by
  obtain ⟨a1, a2, a3, a4⟩ := p_page h
  obtain ⟨b1, b2, b3, b4⟩ := p_page h'
  rw [e] at a1 a2 a3 a4
  exact ⟨a1.symm.trans b1, a2.symm.trans b2, a3.symm.trans b3, a4.symm.trans b4⟩
theorem isP_is {L : List UInt8} (h : isP L = true) : L.length = 16 ∧ rOk (pK L) (pS L) (pN L) (pV L) = true ∧ pageB (pK L) (pS L) (pN L) (pV L) = L := by simpa [isP] using h
/-- A page that has a record's 12 bytes is that record's. -/
theorem isP_txt {L : List UInt8} {k s n v : Int} (h : isP L = true) (ho : rOk k s n v = true) (e : L.take 12 = txtB k s n v) : L = pageB k s n v := by
  obtain ⟨h1, h2, h3⟩ := isP_is h
  have hL : L = txtB k s n v ++ L.drop 12 := by rw [← e, List.take_append_drop]
  obtain ⟨a1, a2, a3, a4⟩ := p_txt ho (L.drop 12)
  rw [← hL] at a1 a2 a3 a4
  rw [a1, a2, a3, a4] at h3
  exact h3.symm
theorem be2_zero : be 2 0 = [0, 0] := rfl
theorem page_noughts (k s n v : Int) : (pageB k s n v).getD 10 0 = 0 ∧ (pageB k s n v).getD 11 0 = 0 := by
  have e : pageB k s n v = (be 1 k.toNat ++ be 1 s.toNat ++ be 2 n.toNat ++ be 6 v.toNat) ++ (0 :: 0 :: be 4 (sumM (txtB k s n v)).toNat) := by
    rw [pageB]
    conv => lhs; lhs; rw [txtB, be2_zero]
    simp
  rw [e]
  constructor
  · rw [List.getD_eq_getElem?_getD, List.getElem?_append_right (by simp [be_length])]; simp [be_length]
  · rw [List.getD_eq_getElem?_getD, List.getElem?_append_right (by simp [be_length])]; simp [be_length]

/-- What is left of a torn page: up to m it is as it should be, behind m it is blank. -/
theorem torn_page {L : List UInt8} {k s n v : Int} (ho : rOk k s n v = true) (hl : L.length = 16) (m : Nat) (h1 : ∀ i, i < m → i < 16 → L.getD i 0 = (pageB k s n v).getD i 0) (h2 : ∀ i, m < i → i < 16 → L.getD i 0 = 255) (h : isP L = true) : L = pageB k s n v := by
  obtain ⟨g1, g2, g3⟩ := isP_is h
  obtain ⟨z1, z2⟩ := page_noughts (pK L) (pS L) (pN L) (pV L)
  obtain ⟨y1, y2⟩ := page_noughts k s n v
  rw [g3] at z1 z2
  have hm : 11 ≤ m := by
    by_cases hm : m < 11
    · have := h2 11 hm (by omega)
      rw [z2] at this
      exact absurd this (by decide)
    · omega
  refine isP_txt h ho ?_
  rw [← pageB_txt]
  refine ext_getD (by simp [hl, pageB_length]) fun i => ?_
  by_cases hi : i < 12
  · have e1 : (L.take 12).getD i 0 = L.getD i 0 := by rw [List.getD_eq_getElem?_getD, List.getElem?_take_of_lt hi, List.getD_eq_getElem?_getD]
    have e2 : ((pageB k s n v).take 12).getD i 0 = (pageB k s n v).getD i 0 := by rw [List.getD_eq_getElem?_getD, List.getElem?_take_of_lt hi, List.getD_eq_getElem?_getD]
    rw [e1, e2]
    by_cases hi2 : i < m
    · exact h1 i hi2 (by omega)
    · have : i = 11 := by omega
      subst this
      rw [z2, y2]
  · have e1 : (L.take 12).length = 12 := by simp [hl]
    have e2 : ((pageB k s n v).take 12).length = 12 := by simp [pageB_length]
    rw [List.getD_eq_getElem?_getD, List.getElem?_eq_none (by omega), List.getD_eq_getElem?_getD, List.getElem?_eq_none (by omega)]

/-! One byte that is turned. -/
theorem xor_z (x : R) : x ^^^ (0 : R) = x := by simp
theorem z_xor (x : R) : (0 : R) ^^^ x = x := by simp
theorem its_add (a b : Nat) (x : R) : its (a + b) x = its b (its a x) := by
  induction b with
  | zero => rfl
  | succ b ih => exact congrArg stp ih
def er1 (i r : Nat) (b : UInt8) : List UInt8 := zer i ++ [b] ++ zer r
theorem er1_length (i r : Nat) (b : UInt8) : (er1 i r b).length = i + 1 + r := by simp [er1, zer]; omega
theorem reg_zer (r : Nat) (x : R) : reg x (zer r) = its (8 * r) x := by
  induction r generalizing x with
  | zero => rfl
  | succ r ih =>
    have e : zer (r + 1) = 0 :: zer r := rfl
    rw [e, reg_cons, ih, fd, show (ex 0 : R) = 0 from by decide, xor_z, eight, ← its_add]
    congr 1
    omega
theorem reg_er1 (i r : Nat) (b : UInt8) : reg 0 (er1 i r b) = its (8 * (r + 1)) (ex b) := by
  rw [er1, reg_append, reg_append, zer, reg_zero_zeros, reg_cons, reg_nil, fd, z_xor]
  rw [reg_zer r (eight (ex b)), eight, ← its_add]
  congr 1
  omega
theorem its_sub (k : Nat) {x y : R} (h : its k x = its k y) : x = y := by
  have : its k (x ^^^ y) = 0 := by rw [its_xor, h]; simp
  have := its_inj k this
  have h2 := congrArg (fun z => z ^^^ y) this
  simpa [BitVec.xor_assoc] using h2
theorem not_byte (k : Nat) (y : R) (b : UInt8) (hy : its k y = 1#32) (hn : 256 ≤ y.toNat) : its k (ex b) ≠ 1#32 := fun h => by
  have hb := ex_lt b
  rw [its_sub k (h.trans hy.symm)] at hb
  omega
/-- No byte turns the sum's lowest bit alone. -/
theorem one_byte (r : Nat) (hr : r < 12) (b : UInt8) : its (8 * (r + 1)) (ex b) ≠ 1#32 :=
  match r, hr with
  | 0, _ => not_byte 8 256#32 b (by decide +kernel) (by decide +kernel)
  | 1, _ => not_byte 16 65536#32 b (by decide +kernel) (by decide +kernel)
  | 2, _ => not_byte 24 16777216#32 b (by decide +kernel) (by decide +kernel)
  | 3, _ => not_byte 32 3681617473#32 b (by decide +kernel) (by decide +kernel)
  | 4, _ => not_byte 40 3402602282#32 b (by decide +kernel) (by decide +kernel)
  | 5, _ => not_byte 48 1968546033#32 b (by decide +kernel) (by decide +kernel)
  | 6, _ => not_byte 56 1057189314#32 b (by decide +kernel) (by decide +kernel)
  | 7, _ => not_byte 64 3060473766#32 b (by decide +kernel) (by decide +kernel)
  | 8, _ => not_byte 72 221420351#32 b (by decide +kernel) (by decide +kernel)
  | 9, _ => not_byte 80 1609630090#32 b (by decide +kernel) (by decide +kernel)
  | 10, _ => not_byte 88 4102652473#32 b (by decide +kernel) (by decide +kernel)
  | 11, _ => not_byte 96 1563912214#32 b (by decide +kernel) (by decide +kernel)
theorem crc_turned (l e : List UInt8) (hl : l.length = e.length) : crc (xors l e) = crc l ^^^ reg 0 e := by
  have h1 := reg_xor l e hl ones 0
  have h0 : ones ^^^ (0 : R) = ones := by decide
  rw [h0] at h1
  rw [crc, crc, h1, ← BitVec.allOnes_xor, ← BitVec.allOnes_xor, BitVec.xor_assoc]
theorem ex_inj0 {b : UInt8} {k : Nat} (h : its k (ex b) = 0) : b = 0 := ex_zero (its_inj k h)
/-- Sums that stand alike, of texts that differ in one byte. -/
theorem sumM_turned (l : List UInt8) (i r : Nat) (b : UInt8) (hl : l.length = i + 1 + r) (hr : r < 12) (h : sumM (xors l (er1 i r b)) = sumM l) : b = 0 := by
  have hle : l.length = (er1 i r b).length := by rw [er1_length, hl]
  have hc := crc_turned l (er1 i r b) hle
  rw [reg_er1] at hc
  by_cases he : sumI (xors l (er1 i r b)) = sumI l
  · have h2 : crc (xors l (er1 i r b)) = crc l := by
      apply BitVec.eq_of_toNat_eq
      unfold sumI at he
      omega
    rw [h2] at hc
    have := congrArg (fun x : R => crc l ^^^ x) hc
    simp only [← BitVec.xor_assoc, BitVec.xor_self, BitVec.zero_xor] at this
    exact ex_inj0 this.symm
  · exfalso
    have h1 := sumI_bd l
    have h2 := sumI_bd (xors l (er1 i r b))
    have h3 : (sumI l = 4294967295 ∧ sumI (xors l (er1 i r b)) = 4294967294) ∨ (sumI l = 4294967294 ∧ sumI (xors l (er1 i r b)) = 4294967295) := by
      unfold sumM at h
      split at h <;> split at h <;> omega
    refine one_byte r hr b ?_
    have h4 := congrArg (fun x : R => crc l ^^^ x) hc
    simp only [← BitVec.xor_assoc, BitVec.xor_self, BitVec.zero_xor] at h4
    rw [← h4]
    rcases h3 with ⟨a, c⟩ | ⟨a, c⟩
    · have a' : crc l = 4294967295#32 := by apply BitVec.eq_of_toNat_eq; unfold sumI at a; simp; omega
      have c' : crc (xors l (er1 i r b)) = 4294967294#32 := by apply BitVec.eq_of_toNat_eq; unfold sumI at c; simp; omega
      rw [a', c']; decide
    · have a' : crc l = 4294967294#32 := by apply BitVec.eq_of_toNat_eq; unfold sumI at a; simp; omega
      have c' : crc (xors l (er1 i r b)) = 4294967295#32 := by apply BitVec.eq_of_toNat_eq; unfold sumI at c; simp; omega
      rw [a', c']; decide
theorem getD_set (l : List UInt8) (i j : Nat) (x : UInt8) (hi : i < l.length) : (l.set i x).getD j 0 = if j = i then x else l.getD j 0 := by
  rw [List.getD_eq_getElem?_getD, List.getElem?_set]
  by_cases h : i = j
  · subst h; simp [hi]
  · rw [if_neg h, if_neg (fun e => h e.symm), List.getD_eq_getElem?_getD]
theorem er1_getD (i r : Nat) (b : UInt8) (j : Nat) : (er1 i r b).getD j 0 = if j = i then b else 0 := by
  rw [List.getD_eq_getElem?_getD, er1, zer, zer, List.append_assoc, List.getElem?_append]
  by_cases h : j < i
  · rw [if_pos (by simpa using h), if_neg (by omega), List.getElem?_replicate, if_pos h]; rfl
  · rw [if_neg (by simpa using h)]
    by_cases h2 : j = i
    · subst h2; simp
    · rw [if_neg h2]
      obtain ⟨q, rfl⟩ : ∃ q, j = i + 1 + q := ⟨j - i - 1, by omega⟩
      have e : i + 1 + q - (List.replicate i (0 : UInt8)).length = q + 1 := by simp; omega
      rw [e, List.singleton_append, List.getElem?_cons_succ, List.getElem?_replicate]
      by_cases h3 : q < r
      · rw [if_pos h3]; rfl
      · rw [if_neg h3]; rfl
/-- A page in which one byte is turned is none's. -/
theorem turned_page {k s n v : Int} (ho : rOk k s n v = true) (i : Nat) (hi : i < 16) (b : UInt8) (hb : b ≠ 0) : isP ((pageB k s n v).set i ((pageB k s n v).getD i 0 ^^^ b)) = false := by
  cases hh : isP ((pageB k s n v).set i ((pageB k s n v).getD i 0 ^^^ b)) with
  | false => rfl
  | true =>
    exfalso
    obtain ⟨P, hP⟩ : ∃ P, pageB k s n v = P := ⟨_, rfl⟩
    have lP : P.length = 16 := by rw [← hP]; exact pageB_length _ _ _ _
    obtain ⟨x, hx⟩ : ∃ x, P.getD i 0 ^^^ b = x := ⟨_, rfl⟩
    have hne : x ≠ P.getD i 0 := fun e => by
      rw [e] at hx
      apply hb
      have := congrArg (fun z => P.getD i 0 ^^^ z) hx
      simpa [← UInt8.xor_assoc] using this
    rw [hP, hx] at hh
    by_cases h12 : 12 ≤ i
    · have he : (P.set i x).take 12 = txtB k s n v := by
        rw [List.take_set_of_le h12, ← hP, pageB_txt]
      have h1 := isP_txt hh ho he
      rw [hP] at h1
      have h2 := congrArg (fun l => l.getD i 0) h1
      simp only [getD_set P i i x (by omega), if_pos] at h2
      exact hne h2
    · obtain ⟨g1, g2, g3⟩ := isP_is hh
      have t1 : (P.set i x).take 12 = txtB (pK (P.set i x)) (pS (P.set i x)) (pN (P.set i x)) (pV (P.set i x)) := by
        conv => lhs; rw [← g3]
        exact pageB_txt _ _ _ _
      have s1 : (P.set i x).drop 12 = be 4 (sumM ((P.set i x).take 12)).toNat := by
        rw [t1]
        conv => lhs; rw [← g3]
        exact pageB_sum _ _ _ _
      have s2 : P.drop 12 = be 4 (sumM (P.take 12)).toNat := by rw [← hP, pageB_sum, pageB_txt]
      have s3 : (P.set i x).drop 12 = P.drop 12 := by rw [List.drop_set_of_lt (by omega)]
      have s4 : sumM ((P.set i x).take 12) = sumM (P.take 12) := by
        have b1 := sumM_bd ((P.set i x).take 12)
        have b2 := sumM_bd (P.take 12)
        have := be_inj 4 _ _ (by omega) (by omega) (s1.symm.trans (s3.trans s2))
        omega
      have lT : (P.take 12).length = 12 := by simp [lP]
      have e : (P.set i x).take 12 = xors (P.take 12) (er1 i (11 - i) b) := by
        have lE : (P.take 12).length = (er1 i (11 - i) b).length := by rw [er1_length, lT]; omega
        rw [List.take_set]
        refine ext_getD (by rw [xors_length _ _ lE]; simp) fun j => ?_
        rw [xors_getD _ _ lE, er1_getD, getD_set _ _ _ _ (by omega)]
        by_cases hj : j = i
        · subst hj
          rw [if_pos rfl, if_pos rfl, ← hx, List.getD_eq_getElem?_getD, List.getD_eq_getElem?_getD, List.getElem?_take_of_lt (by omega)]
        · rw [if_neg hj, if_neg hj, UInt8.xor_zero]
      rw [e] at s4
      exact hb (sumM_turned _ i (11 - i) b (by rw [lT]; omega) (by omega) s4)

/-! Versions as values. -/
theorem be_app (s t n : Nat) : be (s + t) n = be s (n / 256 ^ t) ++ be t n := by
  induction t generalizing n with
  | zero => simp [be]
  | succ t ih => rw [Nat.add_succ, be, ih, be, ← List.append_assoc, Nat.div_div_eq_div_mul, Nat.pow_succ, Nat.mul_comm 256]
theorem dm (a b m : Nat) (h : b < m) : (a * m + b) / m = a ∧ (a * m + b) % m = b := by
  constructor
  · rw [Nat.add_comm, Nat.add_mul_div_right _ _ (by omega), Nat.div_eq_of_lt h, Nat.zero_add]
  · rw [Nat.add_comm, Nat.add_mul_mod_self_right, Nat.mod_eq_of_lt h]
def numV (a b c : Int) : Int := (a * 65536 + b) * 65536 + c
def vOk (a b c : Int) : Bool := decide (0 ≤ a ∧ a < 65536 ∧ 0 ≤ b ∧ b < 65536 ∧ 0 ≤ c ∧ c < 65536)
theorem val_ver {a b c : Int} (h : vOk a b c = true) : be 2 a.toNat ++ be 2 b.toNat ++ be 2 c.toNat = be 6 (numV a b c).toNat := by
  obtain ⟨h1, h2, h3, h4, h5, h6⟩ : 0 ≤ a ∧ a < 65536 ∧ 0 ≤ b ∧ b < 65536 ∧ 0 ≤ c ∧ c < 65536 := by simpa [vOk] using h
  have e : (numV a b c).toNat = (a.toNat * 65536 + b.toNat) * 65536 + c.toNat := by unfold numV; omega
  rw [e, be_app 4 2, be_app 2 2]
  have p : (256 : Nat) ^ 2 = 65536 := rfl
  rw [p]
  have hb : b.toNat < 65536 := by omega
  have hc : c.toNat < 65536 := by omega
  clear e
  obtain ⟨e1, e4⟩ := dm (a.toNat * 65536 + b.toNat) c.toNat 65536 hc
  obtain ⟨e2, e3⟩ := dm a.toNat b.toNat 65536 hb
  rw [e1, e2, be_mod 2 (a.toNat * 65536 + b.toNat), be_mod 2 ((a.toNat * 65536 + b.toNat) * 65536 + c.toNat), p]
  rw [e3, e4]
def verA (n : Int) : Int := ((n.toNat / 4294967296 : Nat) : Int)
def verB (n : Int) : Int := ((n.toNat / 65536 % 65536 : Nat) : Int)
def verC (n : Int) : Int := ((n.toNat % 65536 : Nat) : Int)
theorem nnums_one {a b c : Int} (h : vOk a b c = true) : nnums (be 2 a.toNat ++ be 2 b.toNat ++ be 2 c.toNat) [6] = [numV a b c] := by
  have hb : 0 ≤ numV a b c ∧ numV a b c < 281474976710656 := by
    obtain ⟨h1, h2, h3, h4, h5, h6⟩ : 0 ≤ a ∧ a < 65536 ∧ 0 ≤ b ∧ b < 65536 ∧ 0 ≤ c ∧ c < 65536 := by simpa [vOk] using h
    unfold numV; omega
  rw [val_ver h]
  have e : (be 6 (numV a b c).toNat).take 6 = be 6 (numV a b c).toNat := List.take_of_length_le (by rw [be_length]; omega)
  have e2 : ((6 : Int).toNat) = 6 := rfl
  rw [nnums, nnums, e2, e, val_be _ _ (by omega)]
  congr 1
  omega
theorem ver_ok {n : Int} (h : 0 ≤ n ∧ n < 281474976710656) : vOk (verA n) (verB n) (verC n) = true ∧ numV (verA n) (verB n) (verC n) = n := by
  unfold vOk verA verB verC numV
  rw [decide_eq_true_eq]
  omega
theorem nnums_three {n : Int} (h : 0 ≤ n ∧ n < 281474976710656) : nnums (be 6 n.toNat) [2, 2, 2] = [verA n, verB n, verC n] := by
  obtain ⟨h1, h2⟩ := ver_ok h
  have e := val_ver h1
  rw [h2] at e
  rw [← e]
  have ea : (verA n).toNat = n.toNat / 4294967296 := by unfold verA; omega
  have eb : (verB n).toNat = n.toNat / 65536 % 65536 := by unfold verB; omega
  have ec : (verC n).toNat = n.toNat % 65536 := by unfold verC; omega
  have l1 := be_length 2 (verA n).toNat
  have l2 := be_length 2 (verB n).toNat
  have l3 := be_length 2 (verC n).toNat
  have e2 : ((2 : Int).toNat) = 2 := rfl
  rw [nnums, nnums, nnums, nnums, e2, List.append_assoc, drop_app _ _ _ l1, drop_app _ _ _ l2, take_app _ _ _ l1, take_app _ _ _ l2, List.take_of_length_le (by rw [l3]; omega)]
  rw [val_be _ _ (by rw [ea]; omega), val_be _ _ (by rw [eb]; omega), val_be _ _ (by rw [ec]; omega), ea, eb, ec]
  rfl
theorem num_less {a b c d e f : Int} (h : vOk a b c = true) (h' : vOk d e f = true) : (decide (numV a b c < numV d e f)) = decide (a < d ∨ a = d ∧ (b < e ∨ b = e ∧ c < f)) := by
  obtain ⟨h1, h2, h3, h4, h5, h6⟩ : 0 ≤ a ∧ a < 65536 ∧ 0 ≤ b ∧ b < 65536 ∧ 0 ≤ c ∧ c < 65536 := by simpa [vOk] using h
  obtain ⟨g1, g2, g3, g4, g5, g6⟩ : 0 ≤ d ∧ d < 65536 ∧ 0 ≤ e ∧ e < 65536 ∧ 0 ≤ f ∧ f < 65536 := by simpa [vOk] using h'
  unfold numV
  rw [decide_eq_decide]
  omega
end Go.Proofs.YtbnjenbhpaknbaaGreat

/- The log as a value: records, pages, halves (mathematics: no program). -/
namespace Go.Proofs.YtbnjenbhpaknbaaGreat
open CrcMath NumMath
set_option linter.unusedVariables false

structure Rc where
  k : Int
  s : Int
  n : Int
  v : Int
def Rc.page (r : Rc) (n : Nat) : List UInt8 := pageB r.k r.s (n : Int) r.v
def Rc.bare (r : Rc) : Rc := ⟨r.k, r.s, 0, r.v⟩
/-- May it be appended? -/
def Rc.may (r : Rc) : Bool := rOk r.k r.s 0 r.v && decide (r.k < 126)
/-- May it stand on a page? -/
def Rc.fine (r : Rc) : Bool := rOk r.k r.s 0 r.v
theorem Rc.bare_bare (r : Rc) : r.bare.bare = r.bare := rfl
theorem Rc.bare_may (r : Rc) : r.bare.may = r.may := rfl
theorem Rc.bare_page (r : Rc) (n : Nat) : r.bare.page n = r.page n := rfl
theorem Rc.page_length (r : Rc) (n : Nat) : (r.page n).length = 16 := pageB_length _ _ _ _
theorem Rc.may_fine {r : Rc} (h : r.may = true) : r.fine = true := by
  simp only [Rc.may, Bool.and_eq_true] at h; exact h.1
theorem Rc.fine_ok {r : Rc} (h : r.fine = true) {n : Nat} (hn : n < 65536) : rOk r.k r.s (n : Int) r.v = true := by
  have := rOk_is h
  simp only [rOk, decide_eq_true_eq]
  omega
def rd (P : List UInt8) : Rc := ⟨pK P, pS P, pN P, pV P⟩
def isN (n : Nat) (P : List UInt8) : Bool := isP P && decide (pN P = (n : Int))
def hold (A B : List UInt8) (n : Nat) : Bool := isN n A || isN n B
def holdR (A B : List UInt8) (n : Nat) : Rc := if isN n A then rd A else if isN n B then rd B else ⟨0, 0, 0, 0⟩
theorem isN_page {r : Rc} (h : r.fine = true) {n : Nat} (hn : n < 65536) : isN n (r.page n) = true := by
  have ho := Rc.fine_ok h hn
  have h3 : pN (r.page n) = (n : Int) := (p_page ho).2.2.1
  have h4 : isP (r.page n) = true := page_is ho
  unfold isN
  rw [h4, h3]
  simp
theorem rd_page {r : Rc} (h : r.fine = true) {n : Nat} (hn : n < 65536) : rd (r.page n) = ⟨r.k, r.s, (n : Int), r.v⟩ := by
  obtain ⟨h1, h2, h3, h4⟩ := p_page (Rc.fine_ok h hn)
  unfold rd Rc.page
  rw [h1, h2, h3, h4]
/-- The first n below m of which h isn't true; m, if there is none. -/
def lenF (h : Nat → Bool) : Nat → Nat
  | 0 => 0
  | m + 1 => if lenF h m < m then lenF h m else if h m then m + 1 else m
theorem lenF_le (h : Nat → Bool) : ∀ m, lenF h m ≤ m
  | 0 => Nat.le_refl _
  | m + 1 => by
    have := lenF_le h m
    unfold lenF
    split
    · omega
    · split <;> omega
theorem lenF_all (h : Nat → Bool) : ∀ m i, i < lenF h m → h i = true
  | 0, i, hi => absurd hi (Nat.not_lt_zero _)
  | m + 1, i, hi => by
    have h1 := lenF_le h m
    unfold lenF at hi
    split at hi
    · exact lenF_all h m i hi
    · split at hi
      · rename_i h2 h3
        by_cases e : i = m
        · rw [e]; exact h3
        · exact lenF_all h m i (by omega)
      · exact lenF_all h m i (by omega)
theorem lenF_end (h : Nat → Bool) : ∀ m, lenF h m < m → h (lenF h m) = false
  | 0, hm => absurd hm (Nat.not_lt_zero _)
  | m + 1, hm => by
    have h1 := lenF_le h m
    unfold lenF at hm ⊢
    split
    · rename_i h2
      exact lenF_end h m h2
    · split
      · rename_i h2 h3; rw [if_neg h2, if_pos h3] at hm; omega
      · rename_i h2 h3; simpa using h3
theorem lenF_is {h : Nat → Bool} {m k : Nat} (hk : k ≤ m) (h1 : ∀ i, i < k → h i = true) (h2 : k < m → h k = false) : lenF h m = k := by
  have a := lenF_le h m
  rcases Nat.lt_trichotomy (lenF h m) k with e | e | e
  · have := lenF_end h m (by omega)
    rw [h1 _ e] at this
    cases this
  · exact e
  · have := lenF_all h m k e
    rw [h2 (by omega)] at this
    cases this
theorem lenF_congr {h g : Nat → Bool} {m : Nat} (e : ∀ i, i < m → h i = g i) : lenF h m = lenF g m :=
  lenF_is (lenF_le g m) (fun i hi => by rw [e i (Nat.lt_of_lt_of_le hi (lenF_le g m))]; exact lenF_all g m i hi) (fun hk => by rw [e _ hk]; exact lenF_end g m hk)

attribute [irreducible] lenF
/-- The records of a half whose copies' pages are A, B, up to n of them. -/
def recsF (A B : Nat → List UInt8) (n : Nat) : List Rc := (List.range n).map fun i => holdR (A i) (B i) i
theorem recsF_length (A B : Nat → List UInt8) (n : Nat) : (recsF A B n).length = n := by simp [recsF]
theorem recsF_succ (A B : Nat → List UInt8) (n : Nat) : recsF A B (n + 1) = recsF A B n ++ [holdR (A n) (B n) n] := by simp [recsF, List.range_succ]
theorem recsF_get (A B : Nat → List UInt8) (n i : Nat) (h : i < n) : (recsF A B n)[i]'(by rw [recsF_length]; exact h) = holdR (A i) (B i) i := by simp [recsF]
def runN (A B : Nat → List UInt8) : Nat := lenF (fun i => hold (A i) (B i) i) 16
def runF (A B : Nat → List UInt8) : List Rc := recsF A B (runN A B)
theorem runF_length (A B : Nat → List UInt8) : (runF A B).length = runN A B := recsF_length _ _ _
theorem runN_le (A B : Nat → List UInt8) : runN A B ≤ 16 := lenF_le _ _

/-- Where the first one of kind 127 stands. -/
def endF (l : List Rc) : Nat := l.findIdx fun r => decide (r.k = 127)
def idxF (p : Rc → Bool) (l : List Rc) : Int := if l.findIdx p < l.length then (l.findIdx p : Int) else -1
def bares (l : List Rc) : List Rc := l.map Rc.bare
theorem bares_length (l : List Rc) : (bares l).length = l.length := by simp [bares]
theorem bares_append (l m : List Rc) : bares (l ++ m) = bares l ++ bares m := by simp [bares]
theorem bares_bares (l : List Rc) : bares (bares l) = bares l := by simp [bares, Rc.bare]
def r0 : Rc := ⟨0, 0, 0, 0⟩
def splitOk (l : List Rc) : Bool := decide (0 < l.length) && decide ((l.getD 0 r0).k = 126) && decide ((l.getD 0 r0).s = 0) && decide (endF l < l.length) && decide ((l.getD (endF l) r0).v = (l.getD 0 r0).v)
def splitG (l : List Rc) : Int := if splitOk l then (l.getD 0 r0).v else 0
def splitR (l : List Rc) : List Rc := if splitOk l then bares ((l.take (endF l)).drop 1 ++ l.drop (endF l + 1)) else []

def ff : List UInt8 := List.replicate 16 255
/-- The log's value; or a half's. -/
structure LV where
  which : Nat
  gen : Int
  recs : List Rc
  next : Nat
  clean : Bool
/-- The pages of a copy that begins at a. -/
def pgs (C : List UInt8) (a i : Nat) : List UInt8 := (C.drop (a + 16 * i)).take 16
def atF (L h c : Nat) : Nat := (L + (h * 2 + c) * 4) * 64
def cleanF (A B : Nat → List UInt8) (n : Nat) : Bool := (List.range 16).all fun i => decide (A i = B i) && (decide (i < n) || decide (A i = ff))
theorem cleanF_iff (A B : Nat → List UInt8) (n : Nat) : cleanF A B n = true ↔ ∀ i, i < 16 → A i = B i ∧ (i < n ∨ A i = ff) := by
  simp [cleanF, List.all_eq_true]
def halfF (A B : Nat → List UInt8) (h : Nat) : LV := ⟨h, splitG (runF A B), splitR (runF A B), runN A B, cleanF A B (runN A B)⟩
def lookF (C : List UInt8) (L h : Nat) : LV := halfF (pgs C (atF L h 0)) (pgs C (atF L h 1)) h
def v0 : LV := ⟨0, 0, [], 0, false⟩
def betterF (a b : LV) : LV := if a.gen < b.gen then b else a
def openF (C : List UInt8) (L : Nat) : LV := betterF (betterF v0 (lookF C L 0)) (lookF C L 1)
theorem halfF_congr {A B A' B' : Nat → List UInt8} {h : Nat} (e1 : ∀ i, i < 16 → A i = A' i) (e2 : ∀ i, i < 16 → B i = B' i) : halfF A B h = halfF A' B' h := by
  have en : runN A B = runN A' B' := lenF_congr fun i hi => by rw [e1 i hi, e2 i hi]
  have er : runF A B = runF A' B' := by
    unfold runF recsF
    rw [← en]
    refine List.map_congr_left fun i hi => ?_
    have hi2 : i < 16 := Nat.lt_of_lt_of_le (List.mem_range.1 hi) (runN_le _ _)
    rw [e1 i hi2, e2 i hi2]
  have ec : ∀ n, cleanF A B n = cleanF A' B' n := fun n => by
    rw [Bool.eq_iff_iff, cleanF_iff, cleanF_iff]
    exact ⟨fun h i hi => by rw [← e1 i hi, ← e2 i hi]; exact h i hi, fun h i hi => by rw [e1 i hi, e2 i hi]; exact h i hi⟩
  unfold halfF
  rw [er, en, ec]

/-! What Compact lays. -/
def begR (g : Int) : Rc := ⟨126, 0, 0, g⟩
def endR (g : Int) : Rc := ⟨127, 0, 0, g⟩
def allR (g : Int) (base later : List Rc) : List Rc := [begR g] ++ base ++ [endR g] ++ later
theorem allR_length (g : Int) (base later : List Rc) : (allR g base later).length = base.length + later.length + 2 := by simp [allR]; omega
theorem allR_snoc (g : Int) (base later : List Rc) (r : Rc) : allR g base (later ++ [r]) = allR g base later ++ [r] := by simp [allR]
def gOk (g : Int) : Prop := 1 ≤ g ∧ g < 281474976710656
theorem allR_fine {g : Int} {base later : List Rc} (hg : gOk g) (hb : ∀ r ∈ base, r.may = true) (hl : ∀ r ∈ later, r.may = true) : ∀ r ∈ allR g base later, r.fine = true := by
  have ho : ∀ k : Int, 0 ≤ k → k < 128 → rOk k 0 0 g = true := fun k h1 h2 => by
    simp only [rOk, decide_eq_true_eq]; unfold gOk at hg; omega
  intro r hr
  simp only [allR, List.mem_append, List.mem_singleton] at hr
  rcases hr with ((rfl | hr) | rfl) | hr
  · exact ho 126 (by omega) (by omega)
  · exact Rc.may_fine (hb r hr)
  · exact ho 127 (by omega) (by omega)
  · exact Rc.may_fine (hl r hr)
theorem may_k {r : Rc} (h : r.may = true) : r.k < 126 := by
  simp only [Rc.may, Bool.and_eq_true, decide_eq_true_eq] at h; exact h.2
theorem allR_end {g : Int} {base later : List Rc} (hb : ∀ r ∈ base, r.may = true) : endF (allR g base later) = base.length + 1 := by
  unfold endF
  rw [List.findIdx_eq (by rw [allR_length]; omega)]
  refine ⟨?_, fun j hj => ?_⟩
  · simp [allR, endR]
  · rcases Nat.eq_zero_or_pos j with rfl | h0
    · simp [allR, begR]
    · obtain ⟨q, rfl⟩ : ∃ q, j = q + 1 := ⟨j - 1, by omega⟩
      have hq : q < base.length := by omega
      have e : (allR g base later)[q + 1]'(by rw [allR_length]; omega) = base[q] := by
        simp only [allR]
        rw [List.getElem_append_left (by simp; omega), List.getElem_append_left (by simp; omega), List.getElem_append_right (by simp)]
        simp
      rw [e]
      have := may_k (hb _ (List.getElem_mem hq))
      simp
      omega
/-- A list as it stands in a half, its numbers being the pages'. -/
def lnumR (l : List Rc) : List Rc := l.mapIdx fun i r => ⟨r.k, r.s, (i : Int), r.v⟩
theorem lnumR_length (l : List Rc) : (lnumR l).length = l.length := by simp [lnumR]
theorem lnumR_get (l : List Rc) (i : Nat) (h : i < l.length) : (lnumR l)[i]'(by rw [lnumR_length]; exact h) = ⟨l[i].k, l[i].s, (i : Int), l[i].v⟩ := by simp [lnumR]
theorem bares_lnumR (l : List Rc) : bares (lnumR l) = bares l := by
  apply List.ext_getElem (by simp [bares, lnumR])
  intro i h1 h2
  simp [bares, lnumR, Rc.bare]
theorem lnumR_end (l : List Rc) : endF (lnumR l) = endF l := by
  unfold endF
  have e : ∀ (l : List Rc) (m : Nat), (l.mapIdx fun i r => (⟨r.k, r.s, ((m + i : Nat) : Int), r.v⟩ : Rc)).findIdx (fun r => decide (r.k = 127)) = l.findIdx (fun r => decide (r.k = 127)) := by
    intro l
    induction l with
    | nil => intro m; rfl
    | cons a t ih =>
      intro m
      rw [List.mapIdx_cons, List.findIdx_cons, List.findIdx_cons]
      have h := ih (m + 1)
      have e2 : (fun (i : Nat) (r : Rc) => (⟨r.k, r.s, ((m + 1 + i : Nat) : Int), r.v⟩ : Rc)) = (fun (i : Nat) (r : Rc) => ⟨r.k, r.s, ((m + (i + 1) : Nat) : Int), r.v⟩) := by
        funext i r
        rw [show m + 1 + i = m + (i + 1) by omega]
      rw [e2] at h
      rw [h]
  have := e l 0
  simpa [lnumR] using this
theorem split_allR {g : Int} {base later : List Rc} (hb : ∀ r ∈ base, r.may = true) :
    splitG (lnumR (allR g base later)) = g ∧ splitR (lnumR (allR g base later)) = bares (base ++ later) := by
  have he := (lnumR_end (allR g base later)).trans (allR_end (g := g) (later := later) hb)
  have hl := (lnumR_length (allR g base later)).trans (allR_length g base later)
  have g0 : (lnumR (allR g base later)).getD 0 r0 = begR g := by
    rw [List.getD_eq_getElem?_getD, List.getElem?_eq_getElem (by omega), Option.getD_some, lnumR_get _ _ (by rw [allR_length]; omega)]
    simp [allR, begR]
  have g1 : ((lnumR (allR g base later)).getD (endF (lnumR (allR g base later))) r0).v = g := by
    rw [he, List.getD_eq_getElem?_getD, List.getElem?_eq_getElem (by omega), Option.getD_some, lnumR_get _ _ (by rw [allR_length]; omega)]
    simp [allR, endR]
  have ho : splitOk (lnumR (allR g base later)) = true := by
    unfold splitOk
    rw [g1, g0, hl, he]
    simp [begR]
    omega
  refine ⟨by rw [splitG, if_pos ho, g0]; rfl, ?_⟩
  rw [splitR, if_pos ho, he]
  have e1 : bares ((lnumR (allR g base later)).take (base.length + 1)) = bares ([begR g] ++ base) := by
    rw [bares, List.map_take, ← bares, bares_lnumR, allR, bares, ← List.map_take]
    congr 1
    rw [List.append_assoc, List.take_left' (by simp)]
  have e2 : bares ((lnumR (allR g base later)).drop (base.length + 1 + 1)) = bares later := by
    rw [bares, List.map_drop, ← bares, bares_lnumR, allR, bares, ← List.map_drop]
    congr 1
    rw [List.drop_left' (by simp)]
  rw [bares_append, e2]
  have e3 : bares (((lnumR (allR g base later)).take (base.length + 1)).drop 1) = bares base := by
    rw [bares, List.map_drop, ← bares, e1]
    simp [bares]
  rw [e3, bares_append]

/-- A half in which these stand, and nothing else. -/
structure Stands (A B : Nat → List UInt8) (l : List Rc) : Prop where
  few : l.length ≤ 16
  one : ∀ i, i < 16 → A i = if h : i < l.length then (l[i]).page i else ff
  two : ∀ i, i < 16 → B i = if h : i < l.length then (l[i]).page i else ff
theorem ff_isP : isP ff = false := by
  cases h : isP ff with
  | false => rfl
  | true =>
    exfalso
    have h1 := (isP_is h).2.1
    have h2 : pK ff = 255 := rfl
    rw [h2] at h1
    have := rOk_is h1
    omega
theorem isN_ff (n : Nat) : isN n ff = false := by unfold isN; rw [ff_isP]; rfl
theorem Stands.hold {A B : Nat → List UInt8} {l : List Rc} (h : Stands A B l) (hf : ∀ r ∈ l, r.fine = true) : runN A B = l.length ∧ runF A B = lnumR l := by
  have hn : runN A B = l.length := by
    refine lenF_is h.few (fun i hi => ?_) (fun hk => ?_)
    · have h16 : i < 16 := Nat.lt_of_lt_of_le hi h.few
      unfold Go.Proofs.YtbnjenbhpaknbaaGreat.hold
      rw [h.one i h16, dif_pos hi, isN_page (hf _ (List.getElem_mem hi)) (by omega)]
      rfl
    · unfold Go.Proofs.YtbnjenbhpaknbaaGreat.hold
      rw [h.one _ hk, h.two _ hk, dif_neg (Nat.lt_irrefl _), isN_ff]
      rfl
  refine ⟨hn, ?_⟩
  unfold runF
  rw [hn]
  apply List.ext_getElem (by rw [recsF_length, lnumR_length])
  intro i h1 h2
  have hi : i < l.length := by rw [recsF_length] at h1; exact h1
  have h16 : i < 16 := Nat.lt_of_lt_of_le hi h.few
  have hff := hf _ (List.getElem_mem hi)
  rw [recsF_get _ _ _ _ hi, lnumR_get _ _ hi]
  unfold holdR
  rw [h.one i h16, dif_pos hi, isN_page hff (by omega), if_pos rfl, rd_page hff (by omega)]
theorem Stands.clean {A B : Nat → List UInt8} {l : List Rc} (h : Stands A B l) : cleanF A B l.length = true := by
  rw [cleanF_iff]
  intro i hi
  refine ⟨by rw [h.one i hi, h.two i hi], ?_⟩
  by_cases hl : i < l.length
  · exact .inl hl
  · right; rw [h.one i hi, dif_neg hl]
/-- What is read of a half in which a log stands. -/
theorem Stands.half {A B : Nat → List UInt8} {g : Int} {base later : List Rc} (h : Stands A B (allR g base later)) (hg : gOk g) (hb : ∀ r ∈ base, r.may = true) (hl : ∀ r ∈ later, r.may = true) (w : Nat) :
    halfF A B w = ⟨w, g, bares (base ++ later), base.length + later.length + 2, true⟩ := by
  obtain ⟨h1, h2⟩ := h.hold (allR_fine hg hb hl)
  obtain ⟨h3, h4⟩ := split_allR (g := g) (later := later) hb
  have h5 := h.clean
  unfold halfF
  rw [h2, h3, h4, h1, h5, allR_length]
/-- A half that is blank. -/
theorem Stands.none {A B : Nat → List UInt8} (h : Stands A B []) (w : Nat) : halfF A B w = ⟨w, 0, [], 0, true⟩ := by
  obtain ⟨h1, h2⟩ := h.hold (by simp)
  have h5 := h.clean
  unfold halfF
  rw [h1, h2, show ([] : List Rc).length = 0 from rfl]
  rw [show ([] : List Rc).length = 0 from rfl] at h5
  rw [h5]
  rfl
end Go.Proofs.YtbnjenbhpaknbaaGreat

/- append onto a slice of one's own, copy into a block of one's own: at the walk's list, what the operation is in one closed premise, the world behind under a letter. -/
namespace Go.Proofs.YtbnjenbhpaknbaaGreat
open Go.RowKit

def appendOf (o : Oper) (a : Act) : Option (TypeId × TypeId × Value × Value) :=
  match o.guard, o.op with
  | none, .call c => match c.callee, c.args.toList, c.argTypes.toList with
    | .builtin .append, [x, y], [t, t'] => some (t, t', a.eval x, a.eval y)
    | _, _, _ => none
  | _, _ => none
theorem appendOf_spec {o : Oper} {a : Act} {t t' : TypeId} {u v : Value} (h : appendOf o a = some (t, t', u, v)) :
    o.guard = none ∧ ∃ x y, o.op = .call { callee := .builtin .append, args := #[x, y], argTypes := #[t, t'] } ∧ a.eval x = u ∧ a.eval y = v := by
  unfold appendOf at h
  split at h
  · rename_i c hg ho
    split at h
    · rename_i x y s s' h1 h2 h3
      simp only [Option.some.injEq, Prod.mk.injEq] at h
      refine ⟨hg, x, y, ?_, h.2.2.1, h.2.2.2⟩
      rw [ho]
      congr 1
      cases c with
      | mk cal ar at' =>
        simp only at h1 h2 h3
        have e2 : ar = #[x, y] := by rw [← Array.toArray_toList (xs := ar), h2]
        have e3 : at' = #[s, s'] := by rw [← Array.toArray_toList (xs := at'), h3]
        simp [h1, e2, e3, h.1, h.2.1]
    · cases h
  · cases h
def copyOf (o : Oper) (a : Act) : Option (TypeId × TypeId × Value × Value) :=
  match o.guard, o.op with
  | none, .call c => match c.callee, c.args.toList, c.argTypes.toList with
    | .builtin .copy, [x, y], [t, t'] => some (t, t', a.eval x, a.eval y)
    | _, _, _ => none
  | _, _ => none
theorem copyOf_spec {o : Oper} {a : Act} {t t' : TypeId} {u v : Value} (h : copyOf o a = some (t, t', u, v)) :
    o.guard = none ∧ ∃ x y, o.op = .call { callee := .builtin .copy, args := #[x, y], argTypes := #[t, t'] } ∧ a.eval x = u ∧ a.eval y = v := by
  unfold copyOf at h
  split at h
  · rename_i c hg ho
    split at h
    · rename_i x y s s' h1 h2 h3
      simp only [Option.some.injEq, Prod.mk.injEq] at h
      refine ⟨hg, x, y, ?_, h.2.2.1, h.2.2.2⟩
      rw [ho]
      congr 1
      cases c with
      | mk cal ar at' =>
        simp only at h1 h2 h3
        have e2 : ar = #[x, y] := by rw [← Array.toArray_toList (xs := ar), h2]
        have e3 : at' = #[s, s'] := by rw [← Array.toArray_toList (xs := at'), h3]
        simp [h1, e2, e3, h.1, h.2.1]
    · cases h
  · cases h

/-- A fact with a great numeral: 'contradiction', which opens every definition, is kept from it. -/
structure Big (p : Prop) : Prop where
  out : p

/-- A type of one cell, of some bytes. -/
structure One (P : Program) (e : TypeId) : Prop where
  row : ∃ i z, P.info? e = some i ∧ i.zero = some z ∧ i.size = 1 ∧ z.cells.size = 1 ∧ i.bytes ≤ 64

section
variable {P : Program}
theorem One.of {e : TypeId} (h : ((P.info? e).map fun i => (i.zero.map fun z => z.cells.size) == some 1 && i.size == 1 && decide (i.bytes ≤ 64)) = some true) : One P e := by
  generalize hq : P.info? e = q at h
  match q with
  | none => cases h
  | some i =>
    simp only [Option.map_some, Option.some.injEq, Bool.and_eq_true, beq_iff_eq, decide_eq_true_eq] at h
    obtain ⟨⟨h1, h2⟩, h3⟩ := h
    generalize hz : i.zero = zz at h1
    match zz with
    | none => cases h1
    | some z =>
      simp only [Option.map_some, Option.some.injEq] at h1
      exact ⟨i, z, hq, hz, h2, h1, h3⟩

/-- append(v, l...): v a slice of one's own, l what lies at an address. -/
theorem wpAppendK {ops : Array Oper} {rest : List Oper} {o : Oper} {a : Act} {w : World} {Q : Exit → Act → World → Prop} {base n m : Nat} {T e : TypeId} {v : Value} {xs news : List Value} {p : Option Addr} (c : Nat)
    (hown : w.ownsRow base e 1 v n xs) (hT : P.underlying T = some (.slice e)) (he : One P e) (hs : Lies w w.heap.size p news) (hl : news.length = m) (hm : 0 < m) (h1 : news.all (·.oneCell') = true) (hn : Big (n + m ≤ 1099511627776)) (hbase : base ≤ w.heap.size)
    (ho : appendOf o a = some (T, T, v, .slice p m c))
    (k : ∀ v' w', w'.ownsRow base e 1 v' (n + m) (xs ++ news) → w.grownBy w' v.ownBlock → (v'.ownBlock = v.ownBlock ∨ v'.ownBlock = some w.heap.size) → wpList P ops Q rest (a.put o.dst v') w') : wpList P ops Q (o :: rest) a w := by
  obtain ⟨hg, x, y, hop, hx, hy⟩ := appendOf_spec ho
  obtain ⟨i, z, hi, hz, h2, h3, h4⟩ := he.row
  obtain ⟨b, off, rfl, hb, hc⟩ := hs (by omega)
  refine wpList_append_own_at w hg x y T hop base e i z 1 i.bytes hT hi hz h2 rfl h3 (by omega) v n xs hx hown ⟨b, off, none⟩ m c news hy (by omega) ?_ (fun u hu => (List.all_eq_true.1 h1) u hu) ?_ ?_ hbase fun v' w' g1 g2 _ g4 => k v' w' g1 g2 g4
  · intro j u hj
    rw [Addr.add_mid]
    exact hc j u hj
  · have := hn.out; unfold maxLen; omega
  · exact Nat.le_trans (Nat.mul_le_mul hn.out h4) (by omega)

/-- append(v, u). -/
theorem wpAppend1K {ops : Array Oper} {rest : List Oper} {o : Oper} {a : Act} {w : World} {Q : Exit → Act → World → Prop} {base n : Nat} {T e : TypeId} {v u : Value} {xs : List Value} {p : Option Addr}
    (hown : w.ownsRow base e 1 v n xs) (hT : P.underlying T = some (.slice e)) (he : One P e) (hs : Lies w w.heap.size p [u]) (h1 : u.oneCell' = true) (hn : Big (n + 1 ≤ 1099511627776)) (hbase : base ≤ w.heap.size)
    (ho : appendOf o a = some (T, T, v, .slice p 1 1))
    (k : ∀ v' w', w'.ownsRow base e 1 v' (n + 1) (xs ++ [u]) → w.grownBy w' v.ownBlock → (v'.ownBlock = v.ownBlock ∨ v'.ownBlock = some w.heap.size) → wpList P ops Q rest (a.put o.dst v') w') : wpList P ops Q (o :: rest) a w :=
  wpAppendK 1 hown hT he hs rfl Nat.one_pos (by simp [h1]) hn hbase ho k

theorem run_copy_string (w : World) (dT sT ty elem : TypeId) (b o dLen dCap : Nat) (s : ByteArray) (hu : P.underlying dT = some (.slice elem)) (hs : (P.info? elem).map (·.size) = some 1)
    (hc : w.there b o (Nat.min s.size dLen)) :
    (Builtin.copy_ #[dT, sT] ty #[.slice (some ⟨b, o, none⟩) dLen dCap, .string s]).run P w = .ok (goInt (Nat.min s.size dLen)) (w.setCells b o (bytes (s.data.toList.take (Nat.min s.size dLen)))) := by
  have hl : (bytes (s.data.toList.take (Nat.min s.size dLen))).length = Nat.min s.size dLen := by
    rw [bytes_length, List.length_take, size_list]
    exact Nat.min_eq_left (Nat.min_le_left _ _)
  have hst := run_storeCells_cells (P := P) b o (bytes (s.data.toList.take (Nat.min s.size dLen))) 0 w (fun j hj => by simpa using (hc j (by omega)).1) (fun j hj => by simpa using (hc j (by omega)).2)
    (fun v hv => by simp only [bytes, List.mem_map] at hv; obtain ⟨c, _, rfl⟩ := hv; rfl)
  cases hq : P.info? elem with
  | none => simp [hq] at hs
  | some i =>
    have hi : i.size = 1 := by simpa [hq] using hs
    simp only [Nat.add_zero, bytes, List.map_take] at hst
    simp [Builtin.copy_, run_underlying hu, Builtin.lenOf, Builtin.firstCells, sizeOf, typeInfo, hq, hst, bytes, List.map_take]

/-- copy(d, s): d a part of a block of one's own, s a text. -/
theorem Row.wpCopyK {ops : Array Oper} {rest : List Oper} {o : Oper} {a : Act} {w : World} {Q : Exit → Act → World → Prop} {g i dLen n : Nat} {t T e : TypeId} {x y z : List Value} {s : ByteArray} (h : Row w g t (x ++ y ++ z)) (hx0 : x.length = i) (T' : TypeId) (dCap : Nat)
    (hT : P.underlying T = some (.slice e)) (he : One P e) (hn : Nat.min s.size dLen = n) (hy : y.length = n) (ho : copyOf o a = some (T, T', .slice (some ⟨g, i, none⟩) dLen dCap, .string s))
    (k : ∀ w', Row w' g t (x ++ bytes (s.data.toList.take n) ++ z) → Only g w w' → w'.heap.size = w.heap.size → wpList P ops Q rest (a.put o.dst (.int .i64 (n : Int))) w') : wpList P ops Q (o :: rest) a w := by
  obtain ⟨hg, p, q, ho, hp, hq⟩ := copyOf_spec ho
  obtain ⟨ie, ze, hi, hz, h2, h3, h4⟩ := he.row
  refine wpList_plain hg fun K hK => ?_
  have hr := run_copy_string (P := P) w T T' o.type e g i dLen dCap s hT (by rw [hi]; simp [h2]) (by rw [hn]; exact h.there i n hx0 hy)
  unfold Oper.wp execOp
  simp only [ho, resolve, invoke, builtin, Sem.run_bind, Sem.run_pure, Result.andThen_ok, List.map_toArray, List.map_cons, List.map_nil, hp, hq, hr]
  rw [hn]
  have hl : (bytes (s.data.toList.take n)).length = n := by
    rw [bytes_length, List.length_take, size_list, ← hn]
    exact Nat.min_eq_left (Nat.min_le_left _ _)
  exact hK _ _ (k _ (Row.setCells _ h (by rw [hy, hl]) i hx0) (Only.setCells _ i (Only.refl g w)) (World.size_setCells _ _ _ _))
end

section
variable {P : Program}
/-- copy(d, s): d a part of a block of one's own, s what lies at an address. -/
theorem Row.wpCopyLK {ops : Array Oper} {rest : List Oper} {o : Oper} {a : Act} {w : World} {Q : Exit → Act → World → Prop} {g i dLen m : Nat} {t T e : TypeId} {x y z news : List Value} {p : Option Addr} (h : Row w g t (x ++ y ++ z)) (hx0 : x.length = i) (T' : TypeId) (dCap sCap : Nat)
    (hT : P.underlying T = some (.slice e)) (he : One P e) (hs : Lies w w.heap.size p news) (hl : news.length = m) (hm : 0 < m) (hd : m ≤ dLen) (hy : y.length = m) (h1 : news.all (·.oneCell') = true)
    (ho : copyOf o a = some (T, T', .slice (some ⟨g, i, none⟩) dLen dCap, .slice p m sCap))
    (k : ∀ w', Row w' g t (x ++ news ++ z) → Only g w w' → w'.heap.size = w.heap.size → wpList P ops Q rest (a.put o.dst (.int .i64 (m : Int))) w') : wpList P ops Q (o :: rest) a w := by
  obtain ⟨ie, ze, hi, hz, h2, h3, h4⟩ := he.row
  obtain ⟨b, off, rfl, hb, hc⟩ := hs (by omega)
  obtain ⟨hg, p', q', hop, hp, hq⟩ := copyOf_spec ho
  refine wpList_plain hg fun K hK => ?_
  have hr := run_copy_row (P := P) w T T' o.type e g i dLen dCap ⟨b, off, none⟩ m sCap (x ++ y ++ z).toArray t news hT (by rw [hi]; simp [h2]) h (by rw [hl]; exact (Nat.min_eq_left hd).symm) (fun j u hj => by rw [Addr.add_mid]; exact hc j u hj)
    (by simp only [List.size_toArray, List.length_append]; omega) (fun v hv => (List.all_eq_true.1 h1) v hv)
  have hcur : ((x ++ y ++ z).toArray.toList.take i ++ news ++ (x ++ y ++ z).toArray.toList.drop (i + news.length)).toArray = (x ++ news ++ z).toArray := by
    congr 1
    have e1 : (x ++ y ++ z).toArray.toList = x ++ (y ++ z) := by simp
    rw [e1, List.take_left' hx0, show i + news.length = i + y.length by omega, ← hx0, ← List.drop_drop, List.drop_left, List.drop_left]
  rw [hcur, hl] at hr
  unfold Oper.wp execOp
  simp only [hop, resolve, invoke, builtin, Sem.run_bind, Sem.run_pure, Result.andThen_ok, List.map_toArray, List.map_cons, List.map_nil, hp, hq, hr]
  exact hK _ _ (k _ (h.put _) ((Only.refl g w).putRow g _ (Or.inl rfl)) (by simp))
end

/-- A block of one's own as a slice that may be appended to. -/
theorem Row.owns {w : World} {g base n cap : Nat} {e : TypeId} {xs ys : List Value} (h : Row w g e (xs ++ ys)) (hb : base ≤ g) (hx : xs.length = n) (hy : ys.length = cap - n) (hn : n ≤ cap) (hcap : cap ≤ maxLen) : w.ownsRow base e 1 (.slice (some ⟨g, 0, none⟩) n cap) n xs :=
  ⟨by omega, .inr ⟨g, cap, _, rfl, hb, h, hn, hcap, by simp; omega, by simp [← hx]⟩⟩

theorem own_below {w w' : World} {base : Nat} {e : TypeId} {s : Nat} {v : Value} {n : Nat} {xs : List Value} (h : w.ownsRow base e s v n xs) (hb : Below w.heap.size w w') : w'.ownsRow base e s v n xs := by
  refine ⟨h.1, ?_⟩
  rcases h.2 with h | ⟨g, cap, cur, h1, h2, h3, h4⟩
  · exact .inl h
  · exact .inr ⟨g, cap, cur, h1, h2, (hb.block g (Array.getElem?_eq_some_iff.1 h3).1).trans h3, h4⟩
/-- The block of a slice of one's own, known whole. -/
theorem own_row {w : World} {base g n cap : Nat} {e : TypeId} {xs : List Value} (h : w.ownsRow base e 1 (.slice (some ⟨g, 0, none⟩) n cap) n xs) : base ≤ g ∧ ∃ ys, Row w g e (xs ++ ys) := by
  rcases h.2 with ⟨h1, _⟩ | ⟨g', cap', cur, h1, h2, h3, h4, h5, h6, h7⟩
  · cases h1
  · cases h1
    refine ⟨h2, cur.toList.drop n, ?_⟩
    rw [Nat.mul_one] at h7
    rw [← h7, List.take_append_drop]
    exact h3

/-! make([]T, n, c), T of one cell. -/
def makeOf (o : Oper) (a : Act) : Option (TypeId × Value × Value) := match o.guard, o.op with | none, .makeSlice t x y => some (t, a.eval x, a.eval y) | _, _ => none
theorem makeOf_spec {o : Oper} {a : Act} {t : TypeId} {u v : Value} (h : makeOf o a = some (t, u, v)) : o.guard = none ∧ ∃ x y, o.op = .makeSlice t x y ∧ a.eval x = u ∧ a.eval y = v := by
  unfold makeOf at h
  split at h
  · rename_i t' x y hg ho
    simp only [Option.some.injEq, Prod.mk.injEq] at h
    exact ⟨hg, x, y, by rw [ho, h.1], h.2.1, h.2.2⟩
  · cases h
theorem wpMakeK {P : Program} {ops : Array Oper} {rest : List Oper} {o : Oper} {a : Act} {w : World} {Q : Exit → Act → World → Prop} (T e : TypeId) (zv : Value) (n c : Nat) (hT : P.underlying T = some (.slice e)) (hz : (P.info? e).map (fun i => (i.zero, i.size, i.bytes)) = some (some zv, 1, 8) ∨ (P.info? e).map (fun i => (i.zero, i.size, i.bytes)) = some (some zv, 1, 1)) (hzc : zv.cells = #[zv])
    (hn : n ≤ c) (hc : c ≤ 1099511627776) (ho : makeOf o a = some (T, .int .i64 (n : Int), .int .i64 (c : Int)))
    (k : ∀ w', Row w' w.heap.size e (List.replicate c zv) → Below w.heap.size w w' → w'.heap.size = w.heap.size + 1 → wpList P ops Q rest (a.put o.dst (.slice (some ⟨w.heap.size, 0, none⟩) n c)) w') : wpList P ops Q (o :: rest) a w := by
  obtain ⟨hg, x, y, hop, hx, hy⟩ := makeOf_spec ho
  cases hq : P.info? e with
  | none => rw [hq] at hz; rcases hz with h | h <;> cases h
  | some i =>
    rw [hq] at hz
    have hi : i.zero = some zv ∧ i.size = 1 ∧ i.bytes ≤ 8 := by
      rcases hz with h | h <;> simp only [Option.map_some, Option.some.injEq, Prod.mk.injEq] at h <;> exact ⟨h.1, h.2.1, by omega⟩
    have hb : (i.bytes : Int) * (c : Int) ≤ 281474976710656 := by
      have h1 : i.bytes * c ≤ 8 * 1099511627776 := Nat.mul_le_mul hi.2.2 hc
      have h2 : ((i.bytes * c : Nat) : Int) ≤ 281474976710656 := by omega
      rwa [Int.natCast_mul] at h2
    have hr := run_make (P := P) w T e i zv hT hq hi.1 .i64 .i64 (n : Int) (c : Int) (by omega) (by omega) hb (by omega)
    rw [Int.toNat_natCast, Int.toNat_natCast, hi.2.1, Nat.mul_one, hzc] at hr
    have hm : madeCells #[zv] c = (List.replicate c zv).toArray := by
      apply Array.ext'
      rw [toList_madeCells_one]
    rw [hm] at hr
    refine wpList_plain hg fun K hK => ?_
    unfold Oper.wp execOp
    simp only [hop, hx, hy, Sem.run_bind, hr, Result.andThen_ok]
    exact hK _ _ (k _ (Row.new w e _) ((Below.refl _ _).alloc (Nat.le_refl _) _) (by simp))

/-! A list that is laid over another one, from its head on. -/
def over {α : Type} (L P : List α) (i : Nat) : List α := L.take i ++ P.drop i
section
variable {α : Type}
theorem over_zero (L P : List α) : over L P 0 = P := by simp [over]
theorem over_full (L P : List α) (i : Nat) (h1 : L.length ≤ i) (h2 : P.length ≤ i) : over L P i = L := by rw [over, List.take_of_length_le h1, List.drop_of_length_le h2, List.append_nil]
theorem over_length (L P : List α) (i : Nat) (h : L.length = P.length) : (over L P i).length = P.length := by simp [over]; omega
theorem over_get (L P : List α) (i : Nat) (h : L.length = P.length) (hi : i < P.length) : (over L P i)[i]? = some P[i] := by
  rw [over, List.getElem?_append_right (by simp; omega), List.getElem?_drop, List.getElem?_eq_getElem (by simp; omega)]
  congr 2
  simp
  omega
theorem over_step (L P : List α) (i : Nat) (h : L.length = P.length) (hi : i < L.length) : (over L P i).set i L[i] = over L P (i + 1) := by
  have h1 : (L.take i).length = i := by simp; omega
  rw [over, over, List.take_succ_eq_append_getElem hi, List.set_append_right _ _ (by omega), h1, Nat.sub_self, List.append_assoc, List.drop_eq_getElem_cons (by omega : i < P.length), List.set_cons_zero]
  rfl
end
theorem bytes_set (l : List UInt8) (j : Nat) (c : UInt8) : (bytes l).set j (.int .u8 (c.toNat : Int)) = bytes (l.set j c) := by simp [bytes, List.map_set]

end Go.Proofs.YtbnjenbhpaknbaaGreat

/- A flash device as a value (mathematics: no program). -/
namespace FlaMath
structure Dv where
  fb : Int
  fm : UInt8
  lit : Bool
  left : Int
  C : List UInt8
  L : List Bool
  E : List Int
  ops : Int
  dn : Bool
structure Dv.Ok (D : Dv) : Prop where
  one : 1 ≤ D.L.length
  top : D.L.length ≤ 512
  cells : D.C.length = 64 * D.L.length
  worn : D.E.length = D.L.length
/-- How many of n bytes are done when it is torn. -/
def reach (fb : Int) (n : Nat) : Nat := ((fb.tmod (n + 1) + n + 1).tmod (n + 1)).toNat
theorem reach_le (fb : Int) (n : Nat) : reach fb n ≤ n := by
  unfold reach
  have := Int.tmod_lt_of_pos (fb.tmod (n + 1) + n + 1) (b := (n : Int) + 1) (by omega)
  omega
theorem reach_eq (fb : Int) (n : Nat) : (fb.tmod (n + 1) + n + 1).tmod (n + 1) = (reach fb n : Int) := by
  unfold reach
  have h0 := Int.lt_tmod_of_pos fb (b := (n : Int) + 1) (by omega)
  have := Int.tmod_nonneg (a := fb.tmod (n + 1) + n + 1) ((n : Int) + 1) (by omega)
  omega
/-- Bytes o .. of a list: k of them by f. -/
def prog (C : List UInt8) (o k : Nat) (f : Nat → UInt8 → UInt8) : List UInt8 := C.mapIdx fun i c => if o ≤ i ∧ i < o + k then f (i - o) c else c
theorem prog_length (C : List UInt8) (o k : Nat) (f : Nat → UInt8 → UInt8) : (prog C o k f).length = C.length := by simp [prog]
theorem prog_zero (C : List UInt8) (o : Nat) (f : Nat → UInt8 → UInt8) : prog C o 0 f = C := by
  apply List.ext_getElem (by simp [prog])
  intro i h1 h2
  simp only [prog, List.getElem_mapIdx]
  rw [if_neg (by omega)]
theorem prog_get (C : List UInt8) (o k : Nat) (f : Nat → UInt8 → UInt8) (i : Nat) (h : i < C.length) : (prog C o k f)[i]'(by rw [prog_length]; exact h) = if o ≤ i ∧ i < o + k then f (i - o) C[i] else C[i] := by
  simp only [prog, List.getElem_mapIdx]
theorem prog_at (C : List UInt8) (o k : Nat) (f : Nat → UInt8 → UInt8) (h : o + k < C.length) : (prog C o k f)[o + k]'(by rw [prog_length]; exact h) = C[o + k] := by
  rw [prog_get _ _ _ _ _ h, if_neg (by omega)]
theorem prog_step (C : List UInt8) (o k : Nat) (f : Nat → UInt8 → UInt8) (h : o + k < C.length) : (prog C o k f).set (o + k) (f k C[o + k]) = prog C o (k + 1) f := by
  apply List.ext_getElem (by simp [prog])
  intro i h1 h2
  simp only [prog, List.getElem_set, List.getElem_mapIdx]
  by_cases e : o + k = i
  · subst e
    rw [if_pos rfl, if_pos (by omega), show o + k - o = k by omega]
  · rw [if_neg e]
    by_cases hi : o ≤ i ∧ i < o + k
    · rw [if_pos hi, if_pos (by omega)]
    · rw [if_neg hi, if_neg (by omega)]
/-- .. and the next, if there is one before n, by g. -/
def work (C : List UInt8) (o n r : Nat) (f g : Nat → UInt8 → UInt8) : List UInt8 := if r < n then (prog C o r f).set (o + r) (g r (C.getD (o + r) 0)) else prog C o r f
theorem work_length (C : List UInt8) (o n r : Nat) (f g : Nat → UInt8 → UInt8) : (work C o n r f g).length = C.length := by
  unfold work
  split
  · rw [List.length_set, prog_length]
  · rw [prog_length]
theorem work_get (C : List UInt8) (o n r : Nat) (f g : Nat → UInt8 → UInt8) (i : Nat) (h : i < C.length) :
    (work C o n r f g)[i]'(by rw [work_length]; exact h) = if o ≤ i ∧ i < o + r then f (i - o) C[i] else if i = o + r ∧ r < n then g r C[i] else C[i] := by
  by_cases hr : r < n
  · simp only [work, if_pos hr, List.getElem_set]
    by_cases e : o + r = i
    · subst e
      rw [if_pos rfl, if_neg (by omega), if_pos ⟨rfl, hr⟩, List.getD_eq_getElem?_getD, List.getElem?_eq_getElem h]; rfl
    · rw [if_neg e, prog_get _ _ _ _ _ h]
      by_cases hi : o ≤ i ∧ i < o + r
      · rw [if_pos hi, if_pos hi]
      · rw [if_neg hi, if_neg hi, if_neg (by omega)]
  · simp only [work, if_neg hr]
    rw [prog_get _ _ _ _ _ h]
    by_cases hi : o ≤ i ∧ i < o + r
    · rw [if_pos hi, if_pos hi]
    · rw [if_neg hi, if_neg hi, if_neg (by omega)]
def fE (_ : Nat) (_ : UInt8) : UInt8 := 255
def gE (m : UInt8) (_ : Nat) (c : UInt8) : UInt8 := c ||| m
def fP (l : List UInt8) (k : Nat) (c : UInt8) : UInt8 := c &&& l.getD k 0
def gP (l : List UInt8) (m : UInt8) (k : Nat) (c : UInt8) : UInt8 := c &&& (l.getD k 0 ||| m)
/-- The state when power comes back. -/
def Dv.on (D : Dv) : Dv := { D with fb := 0, fm := 0, lit := false, left := 0, dn := false }
def Dv.fuse (D : Dv) (n fb : Int) (fm : UInt8) : Dv := { D with fb := fb, fm := fm, lit := decide (0 ≤ n), left := n }
/-- Sectors a .. b - 1 are locked. -/
def lockF (L : List Bool) (a b : Nat) : List Bool := L.mapIdx fun i x => if a ≤ i ∧ i < b then true else x
theorem lockF_length (L : List Bool) (a b : Nat) : (lockF L a b).length = L.length := by simp [lockF]
theorem lockF_self (L : List Bool) (a : Nat) : lockF L a a = L := by
  apply List.ext_getElem (by simp [lockF])
  intro i h1 h2
  simp [lockF]
  omega
theorem lockF_step (L : List Bool) (a b : Nat) (hab : a ≤ b) : (lockF L a b).set b true = lockF L a (b + 1) := by
  apply List.ext_getElem (by simp [lockF])
  intro i h1 h2
  simp only [lockF, List.getElem_set, List.getElem_mapIdx]
  by_cases e : b = i
  · subst e
    simp [hab]
  · have : (a ≤ i ∧ i < b + 1) ↔ (a ≤ i ∧ i < b) := by omega
    simp only [e, if_false, this]
def lockE (n : Nat) (x y : Int) : Int := if x < 0 ∨ y < x ∨ (n : Int) < y then 2 else 0
def Dv.lock (D : Dv) (x y : Int) : Dv := if x < 0 ∨ y < x ∨ (D.L.length : Int) < y then D else { D with L := lockF D.L x.toNat y.toNat }
/-- Bytes o .. are turned by l. -/
def rotF (C : List UInt8) (o : Nat) (l : List UInt8) : List UInt8 := C.mapIdx fun i c => if o ≤ i ∧ i < o + l.length then c ^^^ l.getD (i - o) 0 else c
theorem rotF_length (C : List UInt8) (o : Nat) (l : List UInt8) : (rotF C o l).length = C.length := by simp [rotF]
theorem rotF_nil (C : List UInt8) (o : Nat) : rotF C o [] = C := by
  apply List.ext_getElem (by simp [rotF])
  intro i h1 h2
  simp [rotF]
  try omega
theorem rotF_at (C : List UInt8) (o : Nat) (l : List UInt8) (i : Nat) (h : i < C.length) (hi : o + l.length ≤ i) : (rotF C o l)[i]'(by rw [rotF_length]; exact h) = C[i] := by
  simp only [rotF, List.getElem_mapIdx]
  rw [if_neg (by omega)]
theorem rotF_step (C : List UInt8) (o k : Nat) (l : List UInt8) (hk : k < l.length) (h : o + k < C.length) : (rotF C o (l.take k)).set (o + k) (C[o + k] ^^^ l[k]) = rotF C o (l.take (k + 1)) := by
  apply List.ext_getElem (by simp [rotF])
  intro i h1 h2
  simp only [rotF, List.getElem_set, List.getElem_mapIdx, List.length_take]
  by_cases e : o + k = i
  · subst e
    rw [if_pos rfl, if_pos (by omega)]
    have : (l.take (k + 1)).getD (o + k - o) 0 = l[k] := by
      rw [show o + k - o = k by omega, List.getD_eq_getElem?_getD, List.getElem?_take_of_lt (by omega), List.getElem?_eq_getElem hk]; rfl
    rw [this]
  · rw [if_neg e]
    by_cases hi : o ≤ i ∧ i < o + k
    · rw [if_pos (by omega), if_pos (by omega), List.getD_eq_getElem?_getD, List.getD_eq_getElem?_getD, List.getElem?_take_of_lt (by omega), List.getElem?_take_of_lt (by omega)]
    · rw [if_neg (by omega), if_neg (by omega)]
def bey (n : Nat) (x y : Int) : Bool := decide (x < 0 ∨ y < 0 ∨ (n : Int) - x < y)
/-- What idle tells. -/
def idl (d : Bool) : Int := if d then 5 else 0
def readE (D : Dv) (x y : Int) : Int := if D.dn then 5 else if bey D.C.length x y then 2 else 0
def Dv.readD (D : Dv) (x y : Int) (op : Int) : Dv := if readE D x y = 0 then { D with ops := op } else D
def readS (D : Dv) (x y : Int) : List UInt8 := if readE D x y = 0 then (D.C.drop x.toNat).take y.toNat else []
def rotE (D : Dv) (x : Int) (l : List UInt8) : Int := if bey D.C.length x l.length then 2 else 0
def Dv.rot (D : Dv) (x : Int) (l : List UInt8) : Dv := if rotE D x l = 0 then { D with C := rotF D.C x.toNat l } else D
end FlaMath

/- A flash device in memory; those of its functions that only read. -/
namespace Go.Proofs.YtbnjenbhpaknbaaGreat
open Go.RowKit FlaMath
set_option linter.unusedVariables false
set_option maxRecDepth 100000

/-- Of what was there nothing has turned but the blocks of S. -/
def Onl (S : List Nat) (w w' : World) : Prop := w'.os = w.os ∧ w'.tape = w.tape ∧ w'.output = w.output ∧ w.heap.size ≤ w'.heap.size ∧ ∀ k, k < w.heap.size → k ∉ S → w'.heap[k]? = w.heap[k]?
theorem Onl.refl (S : List Nat) (w : World) : Onl S w w := ⟨rfl, rfl, rfl, Nat.le_refl _, fun _ _ _ => rfl⟩
theorem Onl.size {S : List Nat} {w w' : World} (h : Onl S w w') : w.heap.size ≤ w'.heap.size := h.2.2.2.1
theorem Onl.trans {S : List Nat} {a b c : World} (h : Onl S a b) (k : Onl S b c) : Onl S a c :=
  ⟨k.1.trans h.1, k.2.1.trans h.2.1, k.2.2.1.trans h.2.2.1, Nat.le_trans h.size k.size, fun j hj hs => (k.2.2.2.2 j (Nat.lt_of_lt_of_le hj h.size) hs).trans (h.2.2.2.2 j hj hs)⟩
theorem Onl.of_below {S : List Nat} {w w' : World} (h : Below w.heap.size w w') : Onl S w w' := ⟨h.os, h.tape, h.output, h.size, fun k hk _ => h.block k hk⟩
theorem Onl.of_only {S : List Nat} {g : Nat} {w w' : World} (h : Only g w w') (hg : g ∈ S) : Onl S w w' := ⟨h.1, h.2.1, h.2.2.1, h.2.2.2.1, fun k hk hs => h.2.2.2.2 k hk fun e => hs (e ▸ hg)⟩
theorem Onl.step {S : List Nat} {a b c : World} (h : Onl S a b) (k : Below b.heap.size b c) : Onl S a c := h.trans (Onl.of_below k)
theorem Onl.only {S : List Nat} {g : Nat} {a b c : World} (h : Onl S a b) (k : Only g b c) (hg : g ∈ S ∨ a.heap.size ≤ g) : Onl S a c :=
  ⟨k.1.trans h.1, k.2.1.trans h.2.1, k.2.2.1.trans h.2.2.1, Nat.le_trans h.size k.size, fun j hj hs => (k.2.2.2.2 j (Nat.lt_of_lt_of_le hj h.size) (fun e => by
    rcases hg with hg | hg
    · exact hs (e ▸ hg)
    · omega)).trans (h.2.2.2.2 j hj hs)⟩
theorem Onl.below {S : List Nat} {B : Nat} {w w' : World} (h : Onl S w w') (hg : ∀ k ∈ S, B ≤ k) (hB : B ≤ w.heap.size) : Below B w w' :=
  ⟨h.1, h.2.1, h.2.2.1, h.size, fun k hk => h.2.2.2.2 k (by omega) fun hm => by have := hg k hm; omega⟩
theorem Onl.mono {S T : List Nat} {w w' : World} (h : Onl S w w') (hs : ∀ k ∈ S, k ∈ T) : Onl T w w' := ⟨h.1, h.2.1, h.2.2.1, h.size, fun k hk hn => h.2.2.2.2 k hk fun hm => hn (hs k hm)⟩
theorem Row.onl {w w' : World} {g : Nat} {S : List Nat} {t : TypeId} {l : List Value} (h : Row w g t l) (ho : Onl S w w') (hne : g ∉ S) : Row w' g t l := (ho.2.2.2.2 g h.lt hne).trans h

def fbools (l : List Bool) : List Value := l.map Value.bool
theorem fbools_length (l : List Bool) : (fbools l).length = l.length := by simp [fbools]
theorem fbools_get (l : List Bool) (i : Nat) (h : i < l.length) : (fbools l)[i]? = some (.bool l[i]) := by simp [fbools, h]
theorem fbools_set (l : List Bool) (i : Nat) (b : Bool) : (fbools l).set i (.bool b) = fbools (l.set i b) := by simp [fbools, List.map_set]

/-- Where a device lies: its own block, and its three lists' blocks, rooms and cells behind. -/
structure Sh where
  b : Nat
  o1 : Nat
  k1 : Nat
  z1 : List Value
  o2 : Nat
  k2 : Nat
  z2 : List Value
  o3 : Nat
  k3 : Nat
  z3 : List Value
def Sh.S (s : Sh) : List Nat := [s.b, s.o1, s.o2, s.o3]
def devL (s : Sh) (D : Dv) : List Value := [.int .i64 D.fb, .int .u8 (D.fm.toNat : Int), .bool D.lit, .int .i64 D.left, .slice (some ⟨s.o1, 0, none⟩) D.C.length s.k1, .slice (some ⟨s.o2, 0, none⟩) D.L.length s.k2,
  .slice (some ⟨s.o3, 0, none⟩) D.E.length s.k3, .int .i64 D.ops, .bool D.dn]
theorem devL_length (s : Sh) (D : Dv) : (devL s D).length = 9 := rfl
structure Dev (w : World) (s : Sh) (D : Dv) : Prop where
  row : Row w s.b 85 (devL s D)
  c : Row w s.o1 5 (bytes D.C ++ s.z1)
  l : Row w s.o2 4 (fbools D.L ++ s.z2)
  e : Row w s.o3 3 (ints D.E ++ s.z3)
  ne : s.S.Nodup
  room : D.C.length ≤ s.k1
  cap : s.k1 ≤ 9223372036854775807
  ok : D.Ok
theorem Dev.step {w w' : World} {s : Sh} {D : Dv} (h : Dev w s D) (hb : Below w.heap.size w w') : Dev w' s D := ⟨h.row.step hb, h.c.step hb, h.l.step hb, h.e.step hb, h.ne, h.room, h.cap, h.ok⟩
theorem Dev.onl {w w' : World} {s : Sh} {D : Dv} {S : List Nat} (h : Dev w s D) (ho : Onl S w w') (hs : ∀ k ∈ s.S, k ∉ S) : Dev w' s D :=
  ⟨h.row.onl ho (hs _ (by simp [Sh.S])), h.c.onl ho (hs _ (by simp [Sh.S])), h.l.onl ho (hs _ (by simp [Sh.S])), h.e.onl ho (hs _ (by simp [Sh.S])), h.ne, h.room, h.cap, h.ok⟩
theorem Dev.lt {w : World} {s : Sh} {D : Dv} (h : Dev w s D) : ∀ k ∈ s.S, k < w.heap.size := by
  intro k hk
  simp [Sh.S] at hk
  rcases hk with rfl | rfl | rfl | rfl
  · exact h.row.lt
  · exact h.c.lt
  · exact h.l.lt
  · exact h.e.lt
section
variable {w : World} {s : Sh} {D : Dv} (h : Dev w s D)
include h
theorem Dev.c0 : w.cell? ⟨s.b, 0, none⟩ = some (.int .i64 D.fb) := h.row.cell 0
theorem Dev.c1 : w.cell? ⟨s.b, 1, none⟩ = some (.int .u8 (D.fm.toNat : Int)) := h.row.cell 1
theorem Dev.c2 : w.cell? ⟨s.b, 2, none⟩ = some (.bool D.lit) := h.row.cell 2
theorem Dev.c3 : w.cell? ⟨s.b, 3, none⟩ = some (.int .i64 D.left) := h.row.cell 3
theorem Dev.c4 : w.cell? ⟨s.b, 4, none⟩ = some (.slice (some ⟨s.o1, 0, none⟩) D.C.length s.k1) := h.row.cell 4
theorem Dev.c5 : w.cell? ⟨s.b, 5, none⟩ = some (.slice (some ⟨s.o2, 0, none⟩) D.L.length s.k2) := h.row.cell 5
theorem Dev.c6 : w.cell? ⟨s.b, 6, none⟩ = some (.slice (some ⟨s.o3, 0, none⟩) D.E.length s.k3) := h.row.cell 6
theorem Dev.c7 : w.cell? ⟨s.b, 7, none⟩ = some (.int .i64 D.ops) := h.row.cell 7
theorem Dev.c8 : w.cell? ⟨s.b, 8, none⟩ = some (.bool D.dn) := h.row.cell 8
theorem Dev.cc (i : Nat) (hi : i < D.C.length) : w.cell? ⟨s.o1, i, none⟩ = some (.int .u8 (D.C[i].toNat : Int)) := by
  rw [h.c.cell, List.getElem?_append_left (by rw [bytes_length]; exact hi)]; exact bytes_get _ _ hi
theorem Dev.cl (i : Nat) (hi : i < D.L.length) : w.cell? ⟨s.o2, i, none⟩ = some (.bool D.L[i]) := by
  rw [h.l.cell, List.getElem?_append_left (by rw [fbools_length]; exact hi)]; exact fbools_get _ _ hi
theorem Dev.ce (i : Nat) (hi : i < D.E.length) : w.cell? ⟨s.o3, i, none⟩ = some (.int .i64 D.E[i]) := by
  rw [h.e.cell, List.getElem?_append_left (by rw [ints_length]; exact hi)]; exact ints_get _ _ hi
end

theorem sectors_nil (w : World) : Calls Tryz.prog 40 #[.pointer none] w fun e w' => e = .returned (.int .i64 0) ∧ w = w' := by
  go_enter Tryz.func40, Tryz.ntmps40
  go_wp2
  go_ret
  exact ⟨rfl, rfl⟩
theorem sectors_any (s : Sh) (D : Dv) (w : World) (h : Dev w s D) : Calls Tryz.prog 40 #[.pointer (some ⟨s.b, 0, none⟩)] w fun e w' => e = .returned (.int .i64 (D.L.length : Int)) ∧ w = w' := by
  have h5 := h.c5
  go_enter Tryz.func40, Tryz.ntmps40
  go_wp2
  go_ret
  exact ⟨rfl, rfl⟩
theorem none_nil (w : World) : Calls Tryz.prog 37 #[.pointer none] w fun e w' => e = .returned (.bool true) ∧ w = w' := by
  have HX := Lib.hid (sectors_nil w)
  go_enter Tryz.func37, Tryz.ntmps37
  go_wp2_with (go_at_call 40; (with_reducible refine HX.out.mono ?_); rintro e u1 ⟨rfl, rfl⟩)
  go_ret
  exact ⟨rfl, rfl⟩
theorem none_any (s : Sh) (D : Dv) (w : World) (h : Dev w s D) : Calls Tryz.prog 37 #[.pointer (some ⟨s.b, 0, none⟩)] w fun e w' => e = .returned (.bool false) ∧ w = w' := by
  have HX := Lib.hid (sectors_any s D w h)
  have h1 := h.ok.one
  have hb : ((D.L.length : Int) == 0) = false := beq_eq_false_iff_ne.2 (by omega)
  clear h h1
  go_enter Tryz.func37, Tryz.ntmps37
  go_wp2_with (go_at_call 40; (with_reducible refine HX.out.mono ?_); rintro e u1 ⟨rfl, rfl⟩)
  go_ret
  exact ⟨rfl, rfl⟩
theorem idle_nil (w : World) : Calls Tryz.prog 74 #[.pointer none] w fun e w' => e = .returned (.int .i64 1) ∧ w = w' := by
  have HX := Lib.hid (none_nil w)
  go_enter Tryz.func74, Tryz.ntmps74
  go_wp2_with (go_at_call 37; (with_reducible refine HX.out.mono ?_); rintro e u1 ⟨rfl, rfl⟩)
  go_ret
  exact ⟨rfl, rfl⟩
theorem idle_any (s : Sh) (D : Dv) (w : World) (h : Dev w s D) : Calls Tryz.prog 74 #[.pointer (some ⟨s.b, 0, none⟩)] w fun e w' => e = .returned (.int .i64 (idl D.dn)) ∧ w = w' := by
  have HX := Lib.hid (none_any s D w h)
  have h8 := h.c8
  clear h
  obtain ⟨d, hd⟩ : ∃ d, D.dn = d := ⟨_, rfl⟩
  rw [hd] at h8 ⊢
  clear hd
  cases d with
  | false =>
    go_enter Tryz.func74, Tryz.ntmps74
    go_wp2_with (go_at_call 37; (with_reducible refine HX.out.mono ?_); rintro e u1 ⟨rfl, rfl⟩)
    go_ret
    exact ⟨rfl, rfl⟩
  | true =>
    go_enter Tryz.func74, Tryz.ntmps74
    go_wp2_with (go_at_call 37; (with_reducible refine HX.out.mono ?_); rintro e u1 ⟨rfl, rfl⟩)
    go_ret
    exact ⟨rfl, rfl⟩
theorem has_nil (i : Int) (w : World) : Calls Tryz.prog 63 #[.pointer none, .int .i64 i] w fun e w' => e = .returned (.bool false) ∧ w = w' := by
  have HX := Lib.hid (sectors_nil w)
  by_cases h0 : 0 ≤ i
  · have h1 : ¬ i < 0 := by omega
    go_enter Tryz.func63, Tryz.ntmps63
    go_wp2_with (go_at_call 40; (with_reducible refine HX.out.mono ?_); rintro e u1 ⟨rfl, rfl⟩)
    go_ret
    exact ⟨by first | rfl | exact ret_bool (decide_eq_false (by omega)), rfl⟩
  · go_enter Tryz.func63, Tryz.ntmps63
    go_wp2_with (go_at_call 40; (with_reducible refine HX.out.mono ?_); rintro e u1 ⟨rfl, rfl⟩)
    go_ret
    exact ⟨by first | rfl | exact ret_bool (decide_eq_false (by omega)), rfl⟩
theorem has_any (s : Sh) (D : Dv) (i : Int) (w : World) (h : Dev w s D) :
    Calls Tryz.prog 63 #[.pointer (some ⟨s.b, 0, none⟩), .int .i64 i] w fun e w' => e = .returned (.bool (decide (0 ≤ i ∧ i < D.L.length))) ∧ w = w' := by
  have HX := Lib.hid (sectors_any s D w h)
  clear h
  obtain ⟨n, hn⟩ : ∃ n, D.L.length = n := ⟨_, rfl⟩
  rw [hn] at HX ⊢
  clear hn
  by_cases h0 : 0 ≤ i
  · by_cases h1 : i < (n : Int)
    · have HD := Lib.hid (decide_eq_true (And.intro h0 h1))
      go_enter Tryz.func63, Tryz.ntmps63
      go_wp2_with (go_at_call 40; (with_reducible refine HX.out.mono ?_); rintro e u1 ⟨rfl, rfl⟩)
      go_ret
      exact ⟨ret_bool (by first | (simp; done) | (simp; omega)), rfl⟩
    · have HD : Hid (decide (0 ≤ i ∧ i < (n : Int)) = false) := Lib.hid (decide_eq_false (by omega))
      go_enter Tryz.func63, Tryz.ntmps63
      go_wp2_with (go_at_call 40; (with_reducible refine HX.out.mono ?_); rintro e u1 ⟨rfl, rfl⟩)
      go_ret
      exact ⟨ret_bool (by first | (simp; done) | (simp; omega)), rfl⟩
  · have HD : Hid (decide (0 ≤ i ∧ i < (n : Int)) = false) := Lib.hid (decide_eq_false (by omega))
    go_enter Tryz.func63, Tryz.ntmps63
    go_wp2_with (go_at_call 40; (with_reducible refine HX.out.mono ?_); rintro e u1 ⟨rfl, rfl⟩)
    go_ret
    exact ⟨ret_bool (by first | (simp; done) | (simp; omega)), rfl⟩
theorem beyond_any (s : Sh) (D : Dv) (x y : Int) (w : World) (h : Dev w s D) (hx : x < 9223372036854775808) :
    Calls Tryz.prog 38 #[.pointer (some ⟨s.b, 0, none⟩), .int .i64 x, .int .i64 y] w fun e w' => e = .returned (.bool (bey D.C.length x y)) ∧ w = w' := by
  have h4 := h.c4
  have hn : D.C.length ≤ 32768 := by have := h.ok.cells; have := h.ok.top; omega
  clear h
  obtain ⟨n, hn1⟩ : ∃ n, D.C.length = n := ⟨_, rfl⟩
  rw [hn1] at h4 hn ⊢
  clear hn1
  by_cases h0 : x < 0
  · have HD : Hid (bey n x y = true) := Lib.hid (decide_eq_true (Or.inl h0))
    go_enter Tryz.func38, Tryz.ntmps38
    go_wp2
    go_ret
    exact ⟨ret_bool HD.out.symm, rfl⟩
  · by_cases h1 : y < 0
    · have HD : Hid (bey n x y = true) := Lib.hid (decide_eq_true (Or.inr (Or.inl h1)))
      go_enter Tryz.func38, Tryz.ntmps38
      go_wp2
      go_ret
      exact ⟨ret_bool HD.out.symm, rfl⟩
    · have hw : wrap64 ((n : Int) - x) = (n : Int) - x := by unfold wrap64; omega
      by_cases h2 : (n : Int) - x < y
      · have HD : Hid (bey n x y = true) := Lib.hid (decide_eq_true (Or.inr (Or.inr h2)))
        clear hn hx
        go_enter Tryz.func38, Tryz.ntmps38
        go_wp2
        go_ret
        exact ⟨ret_bool HD.out.symm, rfl⟩
      · have HD : Hid (bey n x y = false) := Lib.hid (decide_eq_false (by omega))
        clear hn hx
        go_enter Tryz.func38, Tryz.ntmps38
        go_wp2
        go_ret
        exact ⟨ret_bool HD.out.symm, rfl⟩
end Go.Proofs.YtbnjenbhpaknbaaGreat

/- Contracts of flash: sector, Locked, Dump. -/
namespace Go.Proofs.YtbnjenbhpaknbaaGreat
open Go.RowKit FlaMath
set_option linter.unusedVariables false
set_option maxRecDepth 100000

theorem fla_sector_any (s : Sh) (D : Dv) (i : Nat) (w : World) (h : Dev w s D) (hi : i < D.L.length) :
    Calls Tryz.prog 64 #[.pointer (some ⟨s.b, 0, none⟩), .int .i64 (i : Int)] w fun e w' => e = .returned (.slice (some ⟨s.o1, i * 64, none⟩) 64 (s.k1 - i * 64)) ∧ w = w' := by
  have h4 := h.c4
  have h1 := h.ok.cells
  have h2 := h.ok.top
  have h3 := h.room
  have hw : wrap64 ((i : Int) * 64) = (i : Int) * 64 := by unfold wrap64; omega
  obtain ⟨n, hn⟩ : ∃ n, D.C.length = n := ⟨_, rfl⟩
  rw [hn] at h4 h1 h3
  obtain ⟨k, hk⟩ : ∃ k, s.k1 = k := ⟨_, rfl⟩
  rw [hk] at h4 h3 ⊢
  clear hn hk h
  have e1 : (i : Int) * 64 ≤ n := by omega
  have e2 : 0 ≤ (i : Int) * 64 := by omega
  have e3 : (64 : Int) ≤ (k : Int) - (i : Int) * 64 := by omega
  have e4 : (i : Int) * 64 ≤ k := by omega
  have e5 : ((i : Int) * 64).toNat = i * 64 := by omega
  have e6 : (n : Int) ≤ k := by omega
  go_enter Tryz.func64, Tryz.ntmps64
  go_wp2
  go_ret
  exact ⟨by simp, rfl⟩

/-- Whether a sector is locked. -/
def lkd (L : List Bool) (i : Int) : Bool := if 0 ≤ i ∧ i < L.length then L.getD i.toNat false else false
/-- A sector's bytes. -/
def sec (C : List UInt8) (i : Nat) : List UInt8 := (C.drop (i * 64)).take 64
def dump (D : Dv) (i : Int) : List UInt8 := if 0 ≤ i ∧ i < D.L.length then sec D.C i.toNat else []
theorem Dev.read {w : World} {s : Sh} {D : Dv} (h : Dev w s D) (o n cap : Nat) (ho : o + n ≤ D.C.length) :
    (convert 76 9 (.slice (some ⟨s.o1, o, none⟩) n cap)).run Tryz.prog w = .ok (.string (str ((D.C.drop o).take n))) w := by
  refine conv_bytes s.o1 o cap ((D.C.drop o).take n) n w (by simp; omega) fun j hj => ?_
  have h3 : j < n := by simp at hj; omega
  have h2 := h.cc (o + j) (by omega)
  simpa using h2
theorem dump_nil (i : Int) (w : World) : Calls Tryz.prog 41 #[.pointer none, .int .i64 i] w fun e w' => e = .returned (.string (str [])) ∧ w = w' := by
  have HX := Lib.hid (has_nil i w)
  go_enter Tryz.func41, Tryz.ntmps41
  go_wp2_with (go_at_call 63; (with_reducible refine HX.out.mono ?_); rintro e u1 ⟨rfl, rfl⟩)
  go_ret
  exact ⟨rfl, rfl⟩
theorem dump_any (s : Sh) (D : Dv) (i : Int) (w : World) (h : Dev w s D) :
    Calls Tryz.prog 41 #[.pointer (some ⟨s.b, 0, none⟩), .int .i64 i] w fun e w' => e = .returned (.string (str (dump D i))) ∧ w = w' := by
  have HX := Lib.hid (has_any s D i w h)
  by_cases hi : 0 ≤ i ∧ i < D.L.length
  · rw [decide_eq_true hi] at HX
    obtain ⟨j, rfl⟩ : ∃ j : Nat, i = j := ⟨i.toNat, by omega⟩
    have hj : j < D.L.length := by omega
    have h1 := h.ok.cells
    have HS := Lib.hid (fla_sector_any s D j w h hj)
    have hr := h.read (j * 64) 64 (s.k1 - j * 64) (by omega)
    have HD : Hid (str (dump D (j : Int)) = str ((D.C.drop (j * 64)).take 64)) := Lib.hid (by rw [dump, if_pos hi]; rfl)
    clear h h1 hj hi
    go_enter Tryz.func41, Tryz.ntmps41
    go_wp2_with (first
      | (go_at_call 63; (with_reducible refine HX.out.mono ?_); rintro e u1 ⟨rfl, rfl⟩)
      | (go_at_call 64; (with_reducible refine HS.out.mono ?_); rintro e u1 ⟨rfl, rfl⟩))
    go_ret
    exact ⟨ret_str HD.out.symm, rfl⟩
  · rw [decide_eq_false hi] at HX
    have HD : Hid (str (dump D i) = str []) := Lib.hid (by rw [dump, if_neg hi])
    clear h hi
    go_enter Tryz.func41, Tryz.ntmps41
    go_wp2_with (go_at_call 63; (with_reducible refine HX.out.mono ?_); rintro e u1 ⟨rfl, rfl⟩)
    go_ret
    exact ⟨ret_str HD.out.symm, rfl⟩
end Go.Proofs.YtbnjenbhpaknbaaGreat

/- Contracts of flash: PowerOn, Fuse, burn, reach, Lock. -/
namespace Go.Proofs.YtbnjenbhpaknbaaGreat
open Go.RowKit FlaMath
set_option linter.unusedVariables false
set_option maxRecDepth 100000

theorem Dv.Ok.same {D D' : Dv} (h : D.Ok) (hC : D'.C.length = D.C.length) (hL : D'.L.length = D.L.length) (hE : D'.E.length = D.E.length) : D'.Ok := ⟨by rw [hL]; exact h.one, by rw [hL]; exact h.top, by rw [hC, hL]; exact h.cells, by rw [hE, hL]; exact h.worn⟩
theorem Dev.put {w w' : World} {s : Sh} {D : Dv} (h : Dev w s D) (D' : Dv) (hr : Row w' s.b 85 (devL s D')) (ho : Only s.b w w') (hC : D'.C = D.C) (hL : D'.L = D.L) (hE : D'.E = D.E) : Dev w' s D' := by
  have hn := h.ne
  simp only [Sh.S, List.nodup_cons, List.mem_cons, not_or] at hn
  exact ⟨hr, by rw [hC]; exact h.c.only ho (Ne.symm hn.1.1), by rw [hL]; exact h.l.only ho (Ne.symm hn.1.2.1), by rw [hE]; exact h.e.only ho (Ne.symm hn.1.2.2.1), h.ne, by rw [hC]; exact h.room, h.cap, Dv.Ok.same h.ok (by rw [hC]) (by rw [hL]) (by rw [hE])⟩
theorem devL_c (s : Sh) (D : Dv) (C : List UInt8) (hC : C.length = D.C.length) : devL s { D with C := C } = devL s D := by simp [devL, hC]
theorem devL_l (s : Sh) (D : Dv) (L : List Bool) (hC : L.length = D.L.length) : devL s { D with L := L } = devL s D := by simp [devL, hC]
theorem devL_e (s : Sh) (D : Dv) (E : List Int) (hC : E.length = D.E.length) : devL s { D with E := E } = devL s D := by simp [devL, hC]
theorem Dev.putC {w w' : World} {s : Sh} {D : Dv} (h : Dev w s D) (C : List UInt8) (hr : Row w' s.o1 5 (bytes C ++ s.z1)) (ho : Only s.o1 w w') (hC : C.length = D.C.length) : Dev w' s { D with C := C } := by
  have hn := h.ne
  simp only [Sh.S, List.nodup_cons, List.mem_cons, not_or] at hn
  exact ⟨by rw [devL_c s D C hC]; exact h.row.only ho hn.1.1, hr, h.l.only ho (Ne.symm hn.2.1.1), h.e.only ho (Ne.symm hn.2.1.2.1), h.ne, by rw [show ({ D with C := C } : Dv).C = C from rfl, hC]; exact h.room, h.cap, Dv.Ok.same h.ok hC rfl rfl⟩
theorem Dev.putL {w w' : World} {s : Sh} {D : Dv} (h : Dev w s D) (L : List Bool) (hr : Row w' s.o2 4 (fbools L ++ s.z2)) (ho : Only s.o2 w w') (hC : L.length = D.L.length) : Dev w' s { D with L := L } := by
  have hn := h.ne
  simp only [Sh.S, List.nodup_cons, List.mem_cons, not_or] at hn
  exact ⟨by rw [devL_l s D L hC]; exact h.row.only ho hn.1.2.1, h.c.only ho hn.2.1.1, hr, h.e.only ho (Ne.symm hn.2.2.1.1), h.ne, h.room, h.cap, Dv.Ok.same h.ok rfl hC rfl⟩
theorem Dev.putE {w w' : World} {s : Sh} {D : Dv} (h : Dev w s D) (E : List Int) (hr : Row w' s.o3 3 (ints E ++ s.z3)) (ho : Only s.o3 w w') (hC : E.length = D.E.length) : Dev w' s { D with E := E } := by
  have hn := h.ne
  simp only [Sh.S, List.nodup_cons, List.mem_cons, not_or] at hn
  exact ⟨by rw [devL_e s D E hC]; exact h.row.only ho hn.1.2.2.1, h.c.only ho hn.2.1.2.1, h.l.only ho hn.2.2.1.1, hr, h.ne, h.room, h.cap, Dv.Ok.same h.ok rfl rfl hC⟩
theorem Sh.b_mem (s : Sh) : s.b ∈ s.S := by simp [Sh.S]
theorem Sh.o1_mem (s : Sh) : s.o1 ∈ s.S := by simp [Sh.S]
theorem Sh.o2_mem (s : Sh) : s.o2 ∈ s.S := by simp [Sh.S]
theorem Sh.o3_mem (s : Sh) : s.o3 ∈ s.S := by simp [Sh.S]
theorem finfo_byte : (Tryz.prog.info? 5).map (·.size) = some 1 := by kernel_rfl
theorem finfo_bool : (Tryz.prog.info? 4).map (·.size) = some 1 := by kernel_rfl
theorem finfo_int : (Tryz.prog.info? 3).map (·.size) = some 1 := by kernel_rfl
theorem int_cells (k : IntKind) (x : Int) : (Value.int k x).cells = #[.int k x] := rfl
theorem int_one (k : IntKind) (x : Int) : (Value.int k x).oneCell' = true := rfl
theorem bool_cells (x : Bool) : (Value.bool x).cells = #[.bool x] := rfl
theorem bool_one (x : Bool) : (Value.bool x).oneCell' = true := rfl

def buildOf (o : Oper) (a : Act) : Option (TypeId × List (Nat × Value)) := match o.guard, o.op with | none, .build t parts => some (t, (parts.map fun (i, x) => (i, a.eval x)).toList) | _, _ => none
theorem wpBuildK {P : Program} {ops : Array Oper} {rest : List Oper} {o : Oper} {a : Act} {w : World} {Q : Exit → Act → World → Prop} (l : List Value) (ty : TypeId) (ps : List (Nat × Value)) (hb : P.built ty ps = some l.toArray) (ho : buildOf o a = some (ty, ps))
    (k : wpList P ops Q rest (a.put o.dst (.agg l.toArray)) w) : wpList P ops Q (o :: rest) a w := by
  unfold buildOf at ho
  split at ho
  · rename_i t parts hg hop
    obtain ⟨rfl, e⟩ := Prod.mk.inj (Option.some.inj ho)
    refine wpList_build hg t parts hop (by rw [e, hb]; rfl) ?_
    rw [e, hb]
    exact k
  · cases ho
def fuse0 : List Value := [.int .i64 0, .int .u8 0, .bool false, .int .i64 0]
theorem built_fuse0 : Tryz.prog.built 81 [] = some fuse0.toArray := by kernel_rfl
theorem fits_fuse : Fits Tryz.prog 81 4 := ⟨⟨_, Tryz.underlying81, rfl⟩, by kernel_rfl⟩
theorem fits_torn : Fits Tryz.prog 79 2 := ⟨⟨_, Tryz.underlying79, rfl⟩, by kernel_rfl⟩
end Go.Proofs.YtbnjenbhpaknbaaGreat

/- Contracts of flash: Lock. -/
namespace Go.Proofs.YtbnjenbhpaknbaaGreat
open Go.RowKit FlaMath
set_option linter.unusedVariables false
set_option maxRecDepth 100000

theorem Dev.setL {w w' : World} {s : Sh} {D : Dv} (h : Dev w s D) (k : Nat) (x : Bool) (hk : k < D.L.length) (hr : Row w' s.o2 4 ((fbools D.L ++ s.z2).set k (.bool x))) (ho : Only s.o2 w w') : Dev w' s { D with L := D.L.set k x } :=
  h.putL _ (by rw [List.set_append_left _ _ (by rw [fbools_length]; exact hk), fbools_set] at hr; exact hr) ho (by simp)
theorem Dev.setC {w w' : World} {s : Sh} {D : Dv} (h : Dev w s D) (k : Nat) (x : UInt8) (hk : k < D.C.length) (hr : Row w' s.o1 5 ((bytes D.C ++ s.z1).set k (.int .u8 (x.toNat : Int)))) (ho : Only s.o1 w w') : Dev w' s { D with C := D.C.set k x } :=
  h.putC _ (by rw [List.set_append_left _ _ (by rw [bytes_length]; exact hk), show (bytes D.C).set k (.int .u8 (x.toNat : Int)) = bytes (D.C.set k x) by simp [bytes, List.map_set]] at hr; exact hr) ho (by simp)
theorem Dev.setE {w w' : World} {s : Sh} {D : Dv} (h : Dev w s D) (k : Nat) (x : Int) (hk : k < D.E.length) (hr : Row w' s.o3 3 ((ints D.E ++ s.z3).set k (.int .i64 x))) (ho : Only s.o3 w w') : Dev w' s { D with E := D.E.set k x } :=
  h.putE _ (by rw [List.set_append_left _ _ (by rw [ints_length]; exact hk), show (ints D.E).set k (.int .i64 x) = ints (D.E.set k x) by simp [ints, List.map_set]] at hr; exact hr) ho (by simp)

end Go.Proofs.YtbnjenbhpaknbaaGreat

/- Contracts of flash: Read, Rot. -/
namespace Go.Proofs.YtbnjenbhpaknbaaGreat
open Go.RowKit FlaMath
set_option linter.unusedVariables false
set_option maxRecDepth 100000

theorem read_nil (x y : Int) (w : World) : Calls Tryz.prog 56 #[.pointer none, .int .i64 x, .int .i64 y] w fun e w' => e = .returned (.tuple #[.string (str []), .int .i64 1]) ∧ w = w' := by
  have HX := Lib.hid (idle_nil w)
  go_enter Tryz.func56, Tryz.ntmps56
  go_wp2_with (go_at_call 74; (with_reducible refine HX.out.mono ?_); rintro e u1 ⟨rfl, rfl⟩)
  go_ret2
  exact ⟨rfl, rfl⟩
theorem read_good0 (s : Sh) (D : Dv) (a n : Nat) (w : World) (h : Dev w s D) (hd : D.dn = false) (ha : a + n ≤ D.C.length) (hk : a < s.k1) :
    Calls Tryz.prog 56 #[.pointer (some ⟨s.b, 0, none⟩), .int .i64 (a : Int), .int .i64 (n : Int)] w fun e w' => e = .returned (.tuple #[.string (str ((D.C.drop a).take n)), .int .i64 0]) ∧ Dev w' s { D with ops := wrap64 (D.ops + 1) } ∧ Onl s.S w w' := by
  have HX : Hid (Calls Tryz.prog 74 #[.pointer (some ⟨s.b, 0, none⟩)] w fun e w' => e = .returned (.int .i64 0) ∧ w = w') := Lib.hid (by have := idle_any s D w h; rwa [hd] at this)
  have hb : bey D.C.length a n = false := decide_eq_false (by omega)
  have hc := h.ok.cells
  have ht := h.ok.top
  have HY : Hid (Calls Tryz.prog 38 #[.pointer (some ⟨s.b, 0, none⟩), .int .i64 (a : Int), .int .i64 (n : Int)] w fun e w' => e = .returned (.bool false) ∧ w = w') := Lib.hid (by
    have := beyond_any s D a n w h (by omega); rwa [hb] at this)
  have HD := Lib.hid h
  have h7 := h.c7
  have h4 := h.c4
  have hrm := h.room
  have R0 : Hid (Row w s.b 85 (devL s D)) := Lib.hid h.row
  have HL : Hid (7 < (devL s D).length) := Lib.hid (by rw [devL_length]; decide)
  obtain ⟨p, hp⟩ : ∃ p, wrap64 (D.ops + 1) = p := ⟨_, rfl⟩
  have HE : Hid ((devL s D).set 7 (.int .i64 p) = devL s { D with ops := p }) := Lib.hid rfl
  have HR : Hid (∀ w1, Dev w1 s { D with ops := p } → (convert 76 9 (.slice (some ⟨s.o1, a, none⟩) n (s.k1 - a))).run Tryz.prog w1 = .ok (.string (str ((D.C.drop a).take n))) w1) := Lib.hid fun w1 h1 => h1.read a n _ ha
  obtain ⟨S, hS⟩ : ∃ S, str ((D.C.drop a).take n) = S := ⟨_, rfl⟩
  rw [hS] at HR ⊢
  rw [hp]
  obtain ⟨m, hm⟩ : ∃ m, D.C.length = m := ⟨_, rfl⟩
  have H4 : Hid (∀ w1, Dev w1 s { D with ops := p } → w1.cell? ⟨s.b, 4, none⟩ = some (.slice (some ⟨s.o1, 0, none⟩) m s.k1)) := Lib.hid fun w1 h1 => by have := h1.c4; rwa [show ({ D with ops := p } : Dv).C.length = m from hm] at this
  rw [hm] at h4 hrm ha hc
  have ew : wrap64 ((a : Int) + (n : Int)) = (a : Int) + n := by unfold wrap64; omega
  have e0 : (a : Int) + (n : Int) = ((a + n : Nat) : Int) := by omega
  have e1 : ((a + n : Nat) : Int) ≤ s.k1 := by omega
  have e2 : (a : Int) ≤ ((a + n : Nat) : Int) := by omega
  have e3 : a + n ≤ s.k1 := by omega
  have e4 : a + n - a = n := by omega
  have e5 : (a : Int) + n ≤ s.k1 := by omega
  have e6 : 0 ≤ (n : Int) := by omega
  have e7 : ((a : Int) + n).toNat = a + n := by omega
  have e8 : 0 ≤ (a : Int) + n := by omega
  have e9 : ¬ s.k1 - a = 0 := by omega
  have e10 : ¬ (s.k1 : Int) - a = 0 := by omega
  have e11 : ¬ s.k1 = a := by omega
  have e12 : ¬ s.k1 ≤ a := by omega
  obtain ⟨k1, hk1⟩ : ∃ k, s.k1 = k := ⟨_, rfl⟩
  rw [hk1] at e1 e3 e5 h4 HR H4 e9 e10 e11 e12 hk
  clear h hb hd hS hm hrm hc hk1 e0
  go_enter Tryz.func56, Tryz.ntmps56
  go_wp2_with (first
    | (go_at_call 74; (with_reducible refine HX.out.mono ?_); rintro e u1 ⟨rfl, rfl⟩)
    | (go_at_call 38; (with_reducible refine HY.out.mono ?_); rintro e u1 ⟨rfl, rfl⟩)
    | ((with_reducible refine R0.out.wpStore1K 7 3 (.int .i64 p) finfo_int HL.out (int_cells _ _) (int_one _ _) ?_ ?_); (simp only [storeOf, Act.eval]; exact congrArg (fun z => some (_, _, Value.int .i64 z)) hp); intro w1 r1 o1 s1; have D1 := Lib.hid (HD.out.put { D with ops := p } (by rw [← HE.out]; exact r1) o1 rfl rfl rfl); have O1 := Lib.hid o1; have h41 := H4.out w1 D1.out; have hr1 := HR.out w1 D1.out; clear r1 o1 s1))
  go_ret2
  exact ⟨rfl, D1.out, Onl.of_only O1.out s.b_mem⟩
theorem read_good1 (s : Sh) (D : Dv) (a : Nat) (w : World) (h : Dev w s D) (hd : D.dn = false) (ha : a + 0 ≤ D.C.length) (hk : s.k1 = a) :
    Calls Tryz.prog 56 #[.pointer (some ⟨s.b, 0, none⟩), .int .i64 (a : Int), .int .i64 (0 : Int)] w fun e w' => e = .returned (.tuple #[.string (str ((D.C.drop a).take 0)), .int .i64 0]) ∧ Dev w' s { D with ops := wrap64 (D.ops + 1) } ∧ Onl s.S w w' := by
  have HX : Hid (Calls Tryz.prog 74 #[.pointer (some ⟨s.b, 0, none⟩)] w fun e w' => e = .returned (.int .i64 0) ∧ w = w') := Lib.hid (by have := idle_any s D w h; rwa [hd] at this)
  have hb : bey D.C.length a 0 = false := decide_eq_false (by omega)
  have hc := h.ok.cells
  have ht := h.ok.top
  have HY : Hid (Calls Tryz.prog 38 #[.pointer (some ⟨s.b, 0, none⟩), .int .i64 (a : Int), .int .i64 (0 : Int)] w fun e w' => e = .returned (.bool false) ∧ w = w') := Lib.hid (by
    have := beyond_any s D a (0 : Int) w h (by omega); rwa [hb] at this)
  have HD := Lib.hid h
  have h7 := h.c7
  have h4 := h.c4
  have hrm := h.room
  have R0 : Hid (Row w s.b 85 (devL s D)) := Lib.hid h.row
  have HL : Hid (7 < (devL s D).length) := Lib.hid (by rw [devL_length]; decide)
  obtain ⟨p, hp⟩ : ∃ p, wrap64 (D.ops + 1) = p := ⟨_, rfl⟩
  have HE : Hid ((devL s D).set 7 (.int .i64 p) = devL s { D with ops := p }) := Lib.hid rfl
  have HR : Hid (∀ w1, Dev w1 s { D with ops := p } → (convert 76 9 (.slice (some ⟨s.o1, 0, none⟩) 0 0)).run Tryz.prog w1 = .ok (.string (str ((D.C.drop a).take 0))) w1) := Lib.hid fun w1 h1 => by have := h1.read 0 0 0 (by omega); simpa using this
  obtain ⟨S, hS⟩ : ∃ S, str ((D.C.drop a).take 0) = S := ⟨_, rfl⟩
  rw [hS] at HR ⊢
  rw [hp]
  obtain ⟨m, hm⟩ : ∃ m, D.C.length = m := ⟨_, rfl⟩
  have H4 : Hid (∀ w1, Dev w1 s { D with ops := p } → w1.cell? ⟨s.b, 4, none⟩ = some (.slice (some ⟨s.o1, 0, none⟩) m s.k1)) := Lib.hid fun w1 h1 => by have := h1.c4; rwa [show ({ D with ops := p } : Dv).C.length = m from hm] at this
  rw [hm] at h4 hrm ha hc
  have ew : wrap64 (a : Int) = a := by unfold wrap64; omega
  have ew2 : wrap64 ((a : Int) + 0) = a := by unfold wrap64; omega
  have e1 : (a : Int) ≤ s.k1 := by omega
  rw [hk] at h4 H4 e1
  clear h hb hd hS hm hrm hc hk
  go_enter Tryz.func56, Tryz.ntmps56
  go_wp2_with (first
    | (go_at_call 74; (with_reducible refine HX.out.mono ?_); rintro e u1 ⟨rfl, rfl⟩)
    | (go_at_call 38; (with_reducible refine HY.out.mono ?_); rintro e u1 ⟨rfl, rfl⟩)
    | ((with_reducible refine R0.out.wpStore1K 7 3 (.int .i64 p) finfo_int HL.out (int_cells _ _) (int_one _ _) ?_ ?_); (simp only [storeOf, Act.eval]; exact congrArg (fun z => some (_, _, Value.int .i64 z)) hp); intro w1 r1 o1 s1; have D1 := Lib.hid (HD.out.put { D with ops := p } (by rw [← HE.out]; exact r1) o1 rfl rfl rfl); have O1 := Lib.hid o1; have h41 := H4.out w1 D1.out; have hr1 := HR.out w1 D1.out; clear r1 o1 s1))
  go_ret2
  exact ⟨rfl, D1.out, Onl.of_only O1.out s.b_mem⟩
theorem fla_read_good (s : Sh) (D : Dv) (a n : Nat) (w : World) (h : Dev w s D) (hd : D.dn = false) (ha : a + n ≤ D.C.length) :
    Calls Tryz.prog 56 #[.pointer (some ⟨s.b, 0, none⟩), .int .i64 (a : Int), .int .i64 (n : Int)] w fun e w' => e = .returned (.tuple #[.string (str ((D.C.drop a).take n)), .int .i64 0]) ∧ Dev w' s { D with ops := wrap64 (D.ops + 1) } ∧ Onl s.S w w' := by
  have hr := h.room
  by_cases hk : s.k1 = a
  · obtain rfl : n = 0 := by omega
    exact read_good1 s D a w h hd ha hk
  · exact read_good0 s D a n w h hd ha (by omega)
theorem read_any (s : Sh) (D : Dv) (x y : Int) (w : World) (h : Dev w s D) (hx : x < 9223372036854775808) :
    Calls Tryz.prog 56 #[.pointer (some ⟨s.b, 0, none⟩), .int .i64 x, .int .i64 y] w fun e w' => e = .returned (.tuple #[.string (str (readS D x y)), .int .i64 (readE D x y)]) ∧ Dev w' s (D.readD x y (wrap64 (D.ops + 1))) ∧ Onl s.S w w' := by
  cases hd : D.dn with
  | true =>
    have hE : readE D x y = 5 := by simp [readE, hd]
    have hS : readS D x y = [] := by rw [readS, hE]; rfl
    have hD : D.readD x y (wrap64 (D.ops + 1)) = D := by rw [Dv.readD, hE]; rfl
    have HX : Hid (Calls Tryz.prog 74 #[.pointer (some ⟨s.b, 0, none⟩)] w fun e w' => e = .returned (.int .i64 5) ∧ w = w') := Lib.hid (by have := idle_any s D w h; rwa [hd] at this)
    rw [hE, hS, hD]
    have HD := Lib.hid h
    clear h hE hS hD hd
    go_enter Tryz.func56, Tryz.ntmps56
    go_wp2_with (go_at_call 74; (with_reducible refine HX.out.mono ?_); rintro e u1 ⟨rfl, rfl⟩)
    go_ret2
    exact ⟨rfl, HD.out, Onl.refl _ _⟩
  | false =>
    cases hb : bey D.C.length x y with
    | true =>
      have hE : readE D x y = 2 := by simp [readE, hd, hb]
      have hS : readS D x y = [] := by rw [readS, hE]; rfl
      have hD : D.readD x y (wrap64 (D.ops + 1)) = D := by rw [Dv.readD, hE]; rfl
      have HX : Hid (Calls Tryz.prog 74 #[.pointer (some ⟨s.b, 0, none⟩)] w fun e w' => e = .returned (.int .i64 0) ∧ w = w') := Lib.hid (by have := idle_any s D w h; rwa [hd] at this)
      have HY : Hid (Calls Tryz.prog 38 #[.pointer (some ⟨s.b, 0, none⟩), .int .i64 x, .int .i64 y] w fun e w' => e = .returned (.bool true) ∧ w = w') := Lib.hid (by
        have := beyond_any s D x y w h (by omega); rwa [hb] at this)
      rw [hE, hS, hD]
      have HD := Lib.hid h
      clear h hE hS hD hd hb hx
      go_enter Tryz.func56, Tryz.ntmps56
      go_wp2_with (first
        | (go_at_call 74; (with_reducible refine HX.out.mono ?_); rintro e u1 ⟨rfl, rfl⟩)
        | (go_at_call 38; (with_reducible refine HY.out.mono ?_); rintro e u1 ⟨rfl, rfl⟩))
      go_ret2
      exact ⟨rfl, HD.out, Onl.refl _ _⟩
    | false =>
      have hb2 := of_decide_eq_false hb
      have hE : readE D x y = 0 := by simp [readE, hd, hb]
      obtain ⟨a, rfl⟩ : ∃ a : Nat, x = a := ⟨x.toNat, by omega⟩
      obtain ⟨n, rfl⟩ : ∃ n : Nat, y = n := ⟨y.toNat, by omega⟩
      refine (fla_read_good s D a n w h hd (by omega)).mono ?_
      rintro e w' ⟨rfl, h1, h2⟩
      refine ⟨?_, ?_, h2⟩
      · rw [hE, readS, if_pos hE]; rfl
      · rw [Dv.readD, if_pos hE]; exact h1
end Go.Proofs.YtbnjenbhpaknbaaGreat

/- Contracts of flash: Rot. -/
namespace Go.Proofs.YtbnjenbhpaknbaaGreat
open Go.RowKit FlaMath
set_option linter.unusedVariables false
set_option maxRecDepth 100000

/-- A list that lies in another block than those of S. -/
def OffS (w : World) (S : List Nat) (a : Option Addr) (xs : List Value) : Prop :=
  0 < xs.length → ∃ bl off, a = some ⟨bl, off, none⟩ ∧ bl < w.heap.size ∧ bl ∉ S ∧ ∀ j u, xs[j]? = some u → w.cell? ⟨bl, off + j, none⟩ = some u
theorem OffS.onl {w w' : World} {S : List Nat} {a : Option Addr} {xs : List Value} (h : OffS w S a xs) (ho : Onl S w w') : OffS w' S a xs := by
  intro hx
  obtain ⟨bl, off, e, hl, hne, hc⟩ := h hx
  refine ⟨bl, off, e, Nat.lt_of_lt_of_le hl ho.size, hne, fun j u hj => ?_⟩
  rw [World.cell?_of_block (a := ⟨bl, off + j, none⟩) (ho.2.2.2.2 bl hl hne)]
  exact hc j u hj
theorem Lies.offS {w : World} {B : Nat} {S : List Nat} {a : Option Addr} {xs : List Value} (h : Lies w B a xs) (hS : ∀ k ∈ S, B ≤ k) (hB : B ≤ w.heap.size) : OffS w S a xs := by
  intro hx
  obtain ⟨bl, off, e, hl, hc⟩ := h hx
  exact ⟨bl, off, e, by omega, fun hm => by have := hS bl hm; omega, hc⟩
theorem OffS.nil (w : World) (S : List Nat) (a : Option Addr) : OffS w S a [] := fun h => absurd h (by simp)

theorem rot_nil (x : Int) (av : Value) (w : World) : Calls Tryz.prog 11 #[.pointer none, .int .i64 x, av] w fun e w' => e = .returned (.int .i64 1) ∧ w = w' := by
  have HX := Lib.hid (none_nil w)
  go_enter Tryz.func11, Tryz.ntmps11
  go_wp2_with (go_at_call 37; (with_reducible refine HX.out.mono ?_); rintro e u1 ⟨rfl, rfl⟩)
  go_ret
  exact ⟨rfl, rfl⟩
theorem fla_u8_xor (x y : UInt8) : bits .xor .u8 (x.toNat : Int) (y.toNat : Int) = ((x ^^^ y).toNat : Int) := by rw [u8_xor_nat _ _ x.toNat_lt y.toNat_lt, UInt8.toNat_xor]
theorem u8_and (x y : UInt8) : bits .and .u8 (x.toNat : Int) (y.toNat : Int) = ((x &&& y).toNat : Int) := by rw [u8_and_nat _ _ x.toNat_lt y.toNat_lt, UInt8.toNat_and]
theorem u8_or (x y : UInt8) : bits .or .u8 (x.toNat : Int) (y.toNat : Int) = ((x ||| y).toNat : Int) := by rw [u8_or_nat _ _ x.toNat_lt y.toNat_lt, UInt8.toNat_or]
set_option maxHeartbeats 1000000 in
theorem rot_loop (s : Sh) (D : Dv) (a : Nat) (p : Option Addr) (cap : Nat) (l : List UInt8) (w : World) (h : Dev w s D) (ha : a + l.length ≤ D.C.length) (hr : OffS w s.S p (bytes l)) :
    Calls Tryz.prog 11 #[.pointer (some ⟨s.b, 0, none⟩), .int .i64 (a : Int), .slice p l.length cap] w fun e w' => e = .returned (.int .i64 0) ∧ Dev w' s { D with C := rotF D.C a l } ∧ Onl s.S w w' := by
  have HX := Lib.hid (none_any s D w h)
  have hc := h.ok.cells
  have ht := h.ok.top
  have hb : bey D.C.length a l.length = false := decide_eq_false (by omega)
  have HY : Hid (Calls Tryz.prog 38 #[.pointer (some ⟨s.b, 0, none⟩), .int .i64 (a : Int), .int .i64 (l.length : Int)] w fun e w' => e = .returned (.bool false) ∧ w = w') := Lib.hid (by
    have := beyond_any s D a l.length w h (by omega); rwa [hb] at this)
  have HD := Lib.hid h
  have HRR := Lib.hid hr
  obtain ⟨m, hm⟩ : ∃ m, D.C.length = m := ⟨_, rfl⟩
  obtain ⟨n, hn⟩ : ∃ n, l.length = n := ⟨_, rfl⟩
  rw [hm] at ha hc
  rw [hn] at ha HY ⊢
  have HM := Lib.hid hm
  have HN := Lib.hid hn
  have a1 : (a : Int) + n ≤ m := by omega
  have a2 : (m : Int) ≤ 32768 := by omega
  clear h hr hb hc ht hm hn
  go_enter Tryz.func11, Tryz.ntmps11
  go_wp2_with (first
    | (go_at_call 37; (with_reducible refine HX.out.mono ?_); rintro e u1 ⟨rfl, rfl⟩)
    | (go_at_call 38; (with_reducible refine HY.out.mono ?_); rintro e u1 ⟨rfl, rfl⟩))
  go_loopw [18] (fun x wr => ∃ k : Nat, k ≤ n ∧ x = .int .i64 k ∧ Dev wr s { D with C := rotF D.C a (l.take k) } ∧ Onl s.S w wr) (fun x _ => n - (intOf x).toNat)
  case atStart => exact ⟨0, Nat.zero_le _, rfl, by rw [List.take_zero, rotF_nil]; exact HD.out, Onl.refl _ _⟩
  case round =>
    obtain ⟨k, hk2, rfl, hd, ho⟩ := hrel
    have h4 : wr.cell? ⟨s.b, 4, none⟩ = some (.slice (some ⟨s.o1, 0, none⟩) m s.k1) := by have := hd.c4; rwa [show ({ D with C := rotF D.C a (l.take k) } : Dv).C.length = m by rw [← HM.out]; exact rotF_length _ _ _] at this
    by_cases hlt : k < n
    · have e2 : (a : Int) + k < m := by omega
      have e3 : 0 ≤ (a : Int) + k := by omega
      have e4 : ((a : Int) + k).toNat = a + k := by omega
      have ew : wrap64 ((a : Int) + k) = (a : Int) + k := by unfold wrap64; omega
      have HEW := Lib.hid ew
      clear ew
      have hkl : k < l.length := by rw [HN.out]; exact hlt
      have hak : a + k < D.C.length := by rw [HM.out]; omega
      obtain ⟨bl, off, rfl, hbl, hne, hcl⟩ := HRR.out.onl ho (by rw [bytes_length]; omega)
      have hz := hcl k _ (bytes_get l k hkl)
      have hy : wr.cell? ⟨s.o1, a + k, none⟩ = some (.int .u8 (D.C[a + k].toNat : Int)) := by
        have := hd.cc (a + k) (by show _ < (rotF _ _ _).length; rw [rotF_length]; exact hak)
        rwa [show ({ D with C := rotF D.C a (l.take k) } : Dv).C[a + k]'(by show _ < (rotF _ _ _).length; rw [rotF_length]; exact hak) = D.C[a + k] from rotF_at D.C a (l.take k) (a + k) hak (by rw [List.length_take]; omega)] at this
      have HST : Hid ((rotF D.C a (l.take k)).set (a + k) (D.C[a + k] ^^^ l[k]) = rotF D.C a (l.take (k + 1))) := Lib.hid (rotF_step D.C a k l hkl hak)
      obtain ⟨y, hye⟩ : ∃ y, D.C[a + k] = y := ⟨_, rfl⟩
      obtain ⟨z, hze⟩ : ∃ z, l[k] = z := ⟨_, rfl⟩
      rw [hye] at hy HST
      rw [hze] at hz HST
      have hxor := fla_u8_xor y z
      have e1 : (k : Int) < n := by omega
      have RL : Hid (Row wr s.o1 5 (bytes (rotF D.C a (l.take k)) ++ s.z1)) := Lib.hid hd.c
      have HLE : Hid (a + k < (bytes (rotF D.C a (l.take k)) ++ s.z1).length) := Lib.hid (by rw [List.length_append, bytes_length, rotF_length]; omega)
      have HK : Hid (a + k < (rotF D.C a (l.take k)).length) := Lib.hid (by rw [rotF_length]; exact hak)
      have H0 := Lib.hid hd
      have HO := Lib.hid ho
      have ew := HEW.out
      clear hd ho hcl hkl hak hye hze hne hbl
      go_wp2_with ((with_reducible refine RL.out.wpStore1K (a + k) 5 (.int .u8 ((y ^^^ z).toNat : Int)) finfo_byte HLE.out (int_cells _ _) (int_one _ _) ?_ ?_); rfl; intro w1 r1 o1 s1; have R1 := Lib.hid r1; have O1 := Lib.hid o1; clear r1 o1 s1)
      go_roundw
      case rel =>
        have hd := H0.out.setC (a + k) (y ^^^ z) HK.out R1.out O1.out
        rw [show (({ D with C := rotF D.C a (l.take k) } : Dv).C.set (a + k) (y ^^^ z)) = rotF D.C a (l.take (k + 1)) from HST.out] at hd
        exact ⟨k + 1, by omega, by go_num, hd, HO.out.trans (Onl.of_only O1.out s.o1_mem)⟩
      case measure => simp [intOf]; omega
    · have ek : k = n := by omega
      subst ek
      have H0 : Hid (Dev wr s { D with C := rotF D.C a l }) := Lib.hid (by rwa [List.take_of_length_le (by rw [HN.out]; omega)] at hd)
      have HO := Lib.hid ho
      clear hd ho
      go_wp2
      go_ret
      exact ⟨rfl, H0.out, HO.out⟩
theorem fla_rot_any (s : Sh) (D : Dv) (x : Int) (p : Option Addr) (cap : Nat) (l : List UInt8) (w : World) (h : Dev w s D) (hx : x < 9223372036854775808) (hr : OffS w s.S p (bytes l)) :
    Calls Tryz.prog 11 #[.pointer (some ⟨s.b, 0, none⟩), .int .i64 x, .slice p l.length cap] w fun e w' => e = .returned (.int .i64 (rotE D x l)) ∧ Dev w' s (D.rot x l) ∧ Onl s.S w w' := by
  cases hb : bey D.C.length x l.length with
  | true =>
    have hE : rotE D x l = 2 := by simp [rotE, hb]
    have hD : D.rot x l = D := by rw [Dv.rot, hE]; rfl
    have HX := Lib.hid (none_any s D w h)
    have HY : Hid (Calls Tryz.prog 38 #[.pointer (some ⟨s.b, 0, none⟩), .int .i64 x, .int .i64 (l.length : Int)] w fun e w' => e = .returned (.bool true) ∧ w = w') := Lib.hid (by
      have := beyond_any s D x l.length w h (by omega); rwa [hb] at this)
    rw [hE, hD]
    have HD := Lib.hid h
    clear h hE hD hb hr hx
    go_enter Tryz.func11, Tryz.ntmps11
    go_wp2_with (first
      | (go_at_call 37; (with_reducible refine HX.out.mono ?_); rintro e u1 ⟨rfl, rfl⟩)
      | (go_at_call 38; (with_reducible refine HY.out.mono ?_); rintro e u1 ⟨rfl, rfl⟩))
    go_ret
    exact ⟨rfl, HD.out, Onl.refl _ _⟩
  | false =>
    have hb2 := of_decide_eq_false hb
    have hE : rotE D x l = 0 := by simp [rotE, hb]
    obtain ⟨a, rfl⟩ : ∃ a : Nat, x = a := ⟨x.toNat, by omega⟩
    refine (rot_loop s D a p cap l w h (by omega) hr).mono ?_
    rintro e w' ⟨rfl, h1, h2⟩
    refine ⟨by rw [hE], ?_, h2⟩
    rw [Dv.rot, if_pos hE]; exact h1
end Go.Proofs.YtbnjenbhpaknbaaGreat
