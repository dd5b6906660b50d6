/- The texts Kit, CrcMath, CrcA, CrcB, NumMath, Put, CrcC, CrcD, CrcE, Open, CrcF, CrcT, Row, Take, Inv, InvS, InvG, Slice, FlaMath, FlaA, FlaB, FlaC, FlaD, one behind the other. -/
import Derived.Test.YtpeofjlecgenbaaProg
import Derived.WalkKit
import Derived.Lib.Hide
import Derived.BigQuiet
import Derived.Outline
import Derived.Laws.IdiomStrings
import Derived.Laws.BytesArg
import Derived.PlainAid
import Derived.Deep.QuietTactic
import Derived.Laws.BitsAllLaws
import Derived.StillTailTactics
import Derived.Test.YtpeofjlecgenbaaShelf
import Derived.Lib.Join
import Derived.Deep.RegionWith
import Derived.Deep.Slices
import Derived.SizedLaws
import Derived.OpenShut
import Derived.Below
import Derived.ChangeArms
import Derived.ChangeMaps5
import Derived.RowKit
import Derived.Laws.Rows
import Derived.Laws.Tables
import Derived.Deep.MidRow
import Derived.Still
import Derived.Lib.Strings
import Derived.WalkSpells
import Derived.RegionTactic
import Derived.StillTail
import Derived.Maps.AppendAt
import Derived.Laws.MakeOwn
import Derived.Laws.OwnMore
import Derived.Laws.CopyRow
/- Words that all contracts use: what a slice reads as, bytes, strings, results' equations. -/
namespace Go.RowKit
theorem Below.drewN {B : Nat} {a w : World} (h : Below B a w) (n : Nat) : Below B a (w.drewN n) := h.trans ⟨rfl, rfl, rfl, Nat.le_refl _, fun _ _ => rfl⟩
theorem Below.next {a b c : World} (h : Below a.heap.size a b) (k : Below b.heap.size b c) : Below a.heap.size a c := h.trans (k.mono h.size)
end Go.RowKit
namespace Go.Proofs.Ytpeofjlecgenbaa
open Go.RowKit

theorem ret_bool {a b : Bool} (h : a = b) : Ending.returned (.bool a) = .returned (.bool b) := by rw [h]
theorem ret_int {k : IntKind} {a b : Int} (h : a = b) : Ending.returned (.int k a) = .returned (.int k b) := by rw [h]
theorem ret_str {a b : ByteArray} (h : a = b) : Ending.returned (.string a) = .returned (.string b) := by rw [h]
theorem ret_str_int {k : IntKind} {a b : ByteArray} {c d : Int} (h : a = b) (h2 : c = d) : Ending.returned (.tuple #[.string a, .int k c]) = .returned (.tuple #[.string b, .int k d]) := by rw [h, h2]

/-! int's bits. -/
theorem nat_i64 (a : Nat) (h : a < 9223372036854775808) : (BitVec.ofInt 64 (a : Int)).toNat = a := by
  rw [BitVec.ofInt_natCast, BitVec.toNat_ofNat]
  exact Nat.mod_eq_of_lt (by omega)
theorem or_i64 (a b : Nat) (ha : a < 9223372036854775808) (hb : b < 9223372036854775808) : bits .or .i64 (a : Int) (b : Int) = ((a ||| b : Nat) : Int) := by
  have hx : a ||| b < 2 ^ 63 := Nat.or_lt_two_pow (by omega) (by omega)
  show IntKind.i64.wrap ((BitVec.ofInt 64 (a : Int) ||| BitVec.ofInt 64 (b : Int)).toNat : Int) = _
  rw [BitVec.toNat_or, nat_i64 a ha, nat_i64 b hb, IntKind.wrap_i64]
  omega
theorem xor_i64 (a b : Nat) (ha : a < 9223372036854775808) (hb : b < 9223372036854775808) : bits .xor .i64 (a : Int) (b : Int) = ((a ^^^ b : Nat) : Int) := by
  have hx : a ^^^ b < 2 ^ 63 := Nat.xor_lt_two_pow (by omega) (by omega)
  show IntKind.i64.wrap ((BitVec.ofInt 64 (a : Int) ^^^ BitVec.ofInt 64 (b : Int)).toNat : Int) = _
  rw [BitVec.toNat_xor, nat_i64 a ha, nat_i64 b hb, IntKind.wrap_i64]
  omega
theorem and_i64 (a b : Nat) (ha : a < 9223372036854775808) (hb : b < 9223372036854775808) : bits .and .i64 (a : Int) (b : Int) = ((a &&& b : Nat) : Int) := by
  have hx : a &&& b < 2 ^ 63 := Nat.and_lt_two_pow _ (by omega)
  show IntKind.i64.wrap ((BitVec.ofInt 64 (a : Int) &&& BitVec.ofInt 64 (b : Int)).toNat : Int) = _
  rw [BitVec.toNat_and, nat_i64 a ha, nat_i64 b hb, IntKind.wrap_i64]
  omega

theorem snoc_ind {α : Type} {P : List α → Prop} (h0 : P []) (h1 : ∀ l a, P l → P (l ++ [a])) (l : List α) : P l := by
  have h : ∀ r : List α, P r.reverse := fun r => by
    induction r with
    | nil => exact h0
    | cons a r ih => rw [List.reverse_cons]; exact h1 _ _ ih
  simpa using h l.reverse

/-- The slice of length n reads as the values xs: where there are any, they lie side by side below block number B. -/
def Lies (w : World) (B : Nat) (a : Option Addr) (xs : List Value) : Prop :=
  0 < xs.length → ∃ b off, a = some ⟨b, off, none⟩ ∧ b < B ∧ ∀ j u, xs[j]? = some u → w.cell? ⟨b, off + j, none⟩ = some u

theorem Lies.below {w w' : World} {B : Nat} {a : Option Addr} {xs : List Value} (h : Lies w B a xs) (hb : Below B w w') : Lies w' B a xs := by
  intro hx
  obtain ⟨b, off, e, hlt, hc⟩ := h hx
  exact ⟨b, off, e, hlt, fun j u hu => (hb.cell (p := ⟨b, off + j, none⟩) hlt).trans (hc j u hu)⟩
theorem Lies.mono {w : World} {B B' : Nat} {a : Option Addr} {xs : List Value} (h : Lies w B a xs) (hB : B ≤ B') : Lies w B' a xs := by
  intro hx
  obtain ⟨b, off, e, hlt, hc⟩ := h hx
  exact ⟨b, off, e, by omega, hc⟩
theorem Lies.step {w w' : World} {a : Option Addr} {xs : List Value} (h : Lies w w.heap.size a xs) (hb : Below w.heap.size w w') : Lies w' w'.heap.size a xs := (h.below hb).mono hb.size
theorem Lies.nil (w : World) (B : Nat) (a : Option Addr) : Lies w B a [] := fun h => absurd h (by simp)

/-- A slice of one value that the call has just laid. -/
theorem Lies.one {w : World} {b : Nat} {u : Value} (h : w.cell? ⟨b, 0, none⟩ = some u) (hb : b < w.heap.size) : Lies w w.heap.size (some ⟨b, 0, none⟩) [u] := by
  intro _
  refine ⟨b, 0, rfl, hb, fun j v hj => ?_⟩
  match j, hj with
  | 0, hj => simp at hj; subst hj; simpa using h

/-- A slice of values that the call has just laid. -/
theorem Lies.new (xs : List Value) (w : World) (t : TypeId) : Lies (w.alloc (.cells xs.toArray t)) (w.alloc (.cells xs.toArray t)).heap.size (some ⟨w.heap.size, 0, none⟩) xs := by
  intro _
  refine ⟨_, 0, rfl, by simp, fun j u hu => ?_⟩
  rw [Nat.zero_add, World.cell?_alloc_at xs.toArray t w.heap.size j rfl]
  simpa using hu
theorem alloc_below (w : World) (o : Obj) : Below w.heap.size w (w.alloc o) := (Below.refl _ _).alloc (Nat.le_refl _) _

/-- Numbers as values. -/
def ints (l : List Int) : List Value := l.map (Value.int .i64)
theorem ints_length (l : List Int) : (ints l).length = l.length := by simp [ints]
theorem ints_get (l : List Int) (j : Nat) (h : j < l.length) : (ints l)[j]? = some (.int .i64 l[j]) := by simp [ints, h]
theorem ints_append (l m : List Int) : ints (l ++ m) = ints l ++ ints m := by simp [ints]

/-- The bytes as values. -/
def bytes (l : List UInt8) : List Value := l.map fun b => .int .u8 (b.toNat : Int)
theorem bytes_length (l : List UInt8) : (bytes l).length = l.length := by simp [bytes]
theorem bytes_append (l m : List UInt8) : bytes (l ++ m) = bytes l ++ bytes m := by simp [bytes]
theorem bytes_get (l : List UInt8) (j : Nat) (h : j < l.length) : (bytes l)[j]? = some (.int .u8 (l[j].toNat : Int)) := by rw [bytes, List.getElem?_map, List.getElem?_eq_getElem h]; rfl

/-- Texts as values. -/
def strs (l : List ByteArray) : List Value := l.map Value.string
theorem strs_length (l : List ByteArray) : (strs l).length = l.length := by simp [strs]
theorem strs_get (l : List ByteArray) (j : Nat) (h : j < l.length) : (strs l)[j]? = some (.string l[j]) := by simp [strs, h]
/-- All texts, one behind the other. -/
def cat (l : List ByteArray) : List UInt8 := l.flatMap fun s => s.data.toList
theorem cat_snoc (l : List ByteArray) (s : ByteArray) : cat (l ++ [s]) = cat l ++ s.data.toList := by rw [cat, List.flatMap_append, List.flatMap_cons, List.flatMap_nil, List.append_nil]; rfl
theorem cat_one (s : ByteArray) : cat [s] = s.data.toList := by rw [cat, List.flatMap_cons, List.flatMap_nil, List.append_nil]

theorem take_snoc {α : Type} (l : List α) (k : Nat) (h : k < l.length) : l.take (k + 1) = l.take k ++ [l[k]] := by
  rw [List.take_succ_eq_append_getElem h]
theorem bytes_take (s : ByteArray) (k : Nat) (h : k < s.size) : s.data.toList.take (k + 1) = s.data.toList.take k ++ [s[k]] := by
  rw [List.take_succ_eq_append_getElem (by simpa using h)]; rfl
theorem size_list (s : ByteArray) : s.data.toList.length = s.size := by rw [Array.length_toList]; rfl

/-- A string of these bytes. -/
def str (l : List UInt8) : ByteArray := ⟨l.toArray⟩
theorem str_size (l : List UInt8) : (str l).size = l.length := by simp [str, ByteArray.size]
theorem str_list (l : List UInt8) : (str l).data.toList = l := by simp [str]
theorem str_of (s : ByteArray) : str s.data.toList = s := by simp [str]
theorem str_append (l m : List UInt8) : str l ++ str m = str (l ++ m) := by
  apply ByteArray.ext
  rw [ByteArray.data_append]
  simp [str]
theorem str_inj {l m : List UInt8} (h : str l = str m) : l = m := by rw [← str_list l, h, str_list]

/-- Strings held against one another, as the walk has it. -/
theorem beq_yes {a b : ByteArray} (h : a = b) : (a.toList == b.toList) = true := by rw [h]; exact beq_self_eq_true _
theorem beq_no {a b : ByteArray} (h : ¬ a = b) : (a.toList == b.toList) = false := by
  rw [beq_eq_false_iff_ne]
  intro e
  rw [ByteArray.toList_eq, ByteArray.toList_eq] at e
  exact h (ByteArray.ext (Array.toList_inj.1 e))

/-- What a row of the call's own holds, as a string. -/
theorem own_string {base : Nat} {v : Value} {n : Nat} {l : List UInt8} {w : World} (h : w.ownsRow base 5 1 v n (bytes l)) :
    (convert 58 9 v).run Try.prog w = .ok (.string (str l)) w := by
  have hn : l.length = n := by have := h.1; rw [bytes_length] at this; omega
  rcases h.2 with ⟨rfl, rfl⟩ | ⟨g, cap, cur, rfl, _⟩
  · have : l = [] := List.eq_nil_of_length_eq_zero hn
    subst this
    exact run_convert_bytes_nil w _ _ Try.underlying58 Try.underlying5 _ _ _ Try.underlying9
  · subst hn
    refine run_convert_bytes_back w _ _ _ _ _ l Try.underlying58 Try.underlying5 Try.underlying9 fun j hj => ?_
    exact h.cells (g := g) rfl j _ (by simp [bytes, hj])

/-- Bytes that lie somewhere, as a string. -/
theorem conv_bytes (b o cap : Nat) (l : List UInt8) (n : Nat) (w : World) (hn : l.length = n) (hc : ∀ j (hj : j < l.length), w.cell? ⟨b, o + j, none⟩ = some (.int .u8 (l[j].toNat : Int))) :
    (convert 58 9 (.slice (some ⟨b, o, none⟩) n cap)).run Try.prog w = .ok (.string (str l)) w := by
  subst hn
  refine run_convert_bytes_back w _ _ _ _ _ l Try.underlying58 Try.underlying5 Try.underlying9 fun j hj => ?_
  rw [Addr.add_lit]
  exact hc j hj

/-- What the call owns, as a slice that can be handed on. -/
theorem own_form {w : World} {base : Nat} {v : Value} {n : Nat} {xs : List Value} {e : TypeId} (h : w.ownsRow base e 1 v n xs) :
    ∃ a cap, v = .slice a n cap ∧ Lies w w.heap.size a xs := by
  have hn : xs.length = n := by have := h.1; omega
  rcases h.2 with ⟨rfl, rfl⟩ | ⟨g, cap, cur, rfl, hb, hh, hr⟩
  · exact ⟨none, 0, rfl, fun h0 => by omega⟩
  · refine ⟨some ⟨g, 0, none⟩, cap, rfl, fun _ => ⟨g, 0, rfl, (Array.getElem?_eq_some_iff.1 hh).1, fun j u hu => ?_⟩⟩
    have := h.cells (g := g) rfl j u hu
    rwa [Addr.add_lit] at this

/-- Block g holds the bytes l at its beginning, and they may be written. -/
def Bytes (w : World) (g : Nat) (l : List UInt8) : Prop :=
  ∃ (cs : Array Value) (T : TypeId) (lo hi : Nat), w.heap[g]? = some (.cells cs T (lo, hi)) ∧ (∀ j, j < l.length → ¬ (lo ≤ j ∧ j < hi)) ∧ ∀ j (h : j < l.length), cs[j]? = some (.int .u8 (l[j].toNat : Int))

theorem Bytes.lt {w : World} {g : Nat} {l : List UInt8} (h : Bytes w g l) : g < w.heap.size := by
  obtain ⟨cs, T, lo, hi, hh, _⟩ := h
  exact (Array.getElem?_eq_some_iff.1 hh).1
theorem Bytes.cell {w : World} {g : Nat} {l : List UInt8} (h : Bytes w g l) (j : Nat) (hj : j < l.length) : w.cell? ⟨g, j, none⟩ = some (.int .u8 (l[j].toNat : Int)) := by
  obtain ⟨cs, T, lo, hi, hh, hf, hc⟩ := h
  simp only [World.cell?, hh]
  simpa using hc j hj
theorem Bytes.frozen {w : World} {g : Nat} {l : List UInt8} (h : Bytes w g l) (j : Nat) (hj : j < l.length) : w.frozen? ⟨g, j, none⟩ = false := by
  obtain ⟨cs, T, lo, hi, hh, hf, hc⟩ := h
  simp only [World.frozen?, hh]
  have := hf j hj
  simp only [Bool.and_eq_false_iff, decide_eq_false_iff_not]
  omega
theorem Bytes.set {w : World} {g : Nat} {l : List UInt8} (h : Bytes w g l) (j : Nat) (b : UInt8) (hj : j < l.length) : Bytes (w.setCell ⟨g, j, none⟩ (.int .u8 (b.toNat : Int))) g (l.set j b) := by
  obtain ⟨cs, T, lo, hi, hh, hf, hc⟩ := h
  have hjc : j < cs.size := (Array.getElem?_eq_some_iff.1 (hc j hj)).1
  refine ⟨cs.setIfInBounds j (.int .u8 (b.toNat : Int)), T, lo, hi, ?_, by simpa using hf, fun i hi => ?_⟩
  · simp only [World.setCell, Array.getElem?_modify, if_true, hh, Option.map_some]
    rfl
  · rw [Array.getElem?_setIfInBounds]
    rw [List.length_set] at hi
    rw [List.getElem_set]
    by_cases e : j = i
    · rw [if_pos e, if_pos hjc, if_pos e]
    · rw [if_neg e, if_neg e]; exact hc i hi
theorem Bytes.drew {w : World} {g : Nat} {l : List UInt8} (h : Bytes w g l) : Bytes w.drew g l := h
theorem Bytes.below {w w' : World} {B g : Nat} {l : List UInt8} (h : Bytes w g l) (hb : Below B w w') (hlt : g < B) : Bytes w' g l := by
  obtain ⟨cs, T, lo, hi, hh, hf, hc⟩ := h
  exact ⟨cs, T, lo, hi, (hb.block g hlt).trans hh, hf, hc⟩
theorem Bytes.step {w w' : World} {g : Nat} {l : List UInt8} (h : Bytes w g l) (hb : Below w.heap.size w w') : Bytes w' g l := h.below hb h.lt
/-- What '[]byte(s)' lays. -/
theorem Bytes.new (s : ByteArray) (cap : Nat) (w : World) (e : TypeId) : Bytes (w.alloc (.cells (bytesRow s cap) e ((bytesRow s cap).size, (bytesRow s cap).size + 1))) w.heap.size s.data.toList := by
  have hs : s.data.toList.length ≤ (bytesRow s cap).size := by rw [bytesRow, Array.size_append, Array.size_map, Array.length_toList]; omega
  refine ⟨bytesRow s cap, e, (bytesRow s cap).size, (bytesRow s cap).size + 1, by show (w.heap.push _)[w.heap.size]? = _; simp, fun j hj => by omega, fun j hj => ?_⟩
  have hj2 : j < s.data.size := by rwa [Array.length_toList] at hj
  rw [bytesRow, Array.getElem?_append_left (by rw [Array.size_map]; exact hj2), Array.getElem?_map, Array.getElem?_eq_getElem hj2]
  rfl
/-- '[]byte(s)', the new world under a name. -/
theorem conv_new (s : ByteArray) (w : World) : ∃ w' cap, (convert 9 58 (.string s)).run Try.prog w = .ok (.slice (some ⟨w.heap.size, 0, none⟩) s.size cap) w' ∧
    Bytes w' w.heap.size s.data.toList ∧ Below w.heap.size w w' :=
  ⟨_, _, run_bytes_of_string w 9 58 5 s Try.underlying9 Try.underlying58 Try.underlying5, Bytes.new s _ w.drew 5, ((Below.refl _ _).drew).alloc (Nat.le_refl _) _⟩
theorem Bytes.conv {w : World} {g cap n : Nat} {l : List UInt8} (h : Bytes w g l) (hn : l.length = n) :
    (convert 58 9 (.slice (some ⟨g, 0, none⟩) n cap)).run Try.prog w = .ok (.string (str l)) w :=
  conv_bytes g 0 cap l n w hn fun j hj => by rw [Nat.zero_add]; exact h.cell j hj

theorem info_byte : (Try.prog.info? 5).map (fun i => (i.zero, i.size, i.bytes)) = some (some (.int .u8 0), 1, 1) := by kernel_rfl
theorem info_int : (Try.prog.info? 3).map (fun i => (i.zero, i.size, i.bytes)) = some (some (.int .i64 0), 1, 8) := by kernel_rfl

end Go.Proofs.Ytpeofjlecgenbaa

/- The register of CRC-32, as plain mathematics: steps, bytes, what turned bytes do to it. -/
namespace Go.Proofs.Ytpeofjlecgenbaa.CrcMath

abbrev R := BitVec 32
def P : R := 0xEDB88320#32
def stp (r : R) : R := if r.getLsbD 0 then (r >>> 1) ^^^ P else r >>> 1
def its : Nat → R → R
  | 0, r => r
  | k + 1, r => stp (its k r)
def eight (r : R) : R := its 8 r
/-- A byte as a register. -/
def ex (b : UInt8) : R := BitVec.ofNat 32 b.toNat
def fd (r : R) (b : UInt8) : R := eight (r ^^^ ex b)
def reg (r : R) (l : List UInt8) : R := l.foldl fd r
def ones : R := BitVec.allOnes 32
def crc (l : List UInt8) : R := ~~~ reg ones l

theorem reg_nil (r : R) : reg r [] = r := rfl
theorem reg_cons (r : R) (b : UInt8) (l : List UInt8) : reg r (b :: l) = reg (fd r b) l := rfl
theorem reg_append (r : R) (l m : List UInt8) : reg r (l ++ m) = reg (reg r l) m := by simp [reg]
theorem reg_snoc (r : R) (l : List UInt8) (b : UInt8) : reg r (l ++ [b]) = fd (reg r l) b := by simp [reg]

theorem stp_xor (a b : R) : stp (a ^^^ b) = stp a ^^^ stp b := by
  unfold stp
  rw [BitVec.getLsbD_xor]
  cases ha : a.getLsbD 0 <;> cases hb : b.getLsbD 0 <;> simp [BitVec.ushiftRight_xor_distrib]
  · ac_rfl
  · ac_rfl
  · rw [show a >>> 1 ^^^ P ^^^ (b >>> 1 ^^^ P) = (a >>> 1 ^^^ b >>> 1) ^^^ (P ^^^ P) by ac_rfl, BitVec.xor_self, BitVec.xor_zero]
theorem its_xor (k : Nat) (a b : R) : its k (a ^^^ b) = its k a ^^^ its k b := by
  induction k with
  | zero => rfl
  | succ k ih => rw [its, ih, stp_xor, its, its]
theorem eight_xor (a b : R) : eight (a ^^^ b) = eight a ^^^ eight b := its_xor 8 a b
theorem stp_zero : stp 0 = 0 := by decide
theorem its_zero (k : Nat) : its k 0 = 0 := by
  induction k with
  | zero => rfl
  | succ k ih => rw [its, ih, stp_zero]
theorem eight_zero : eight 0 = 0 := its_zero 8

theorem stp_even (x : R) (k : Nat) : stp (x <<< (k + 1)) = (x <<< (k + 1)) >>> 1 := by
  unfold stp
  rw [if_neg (by simp)]

theorem shl_shr (y : R) (k : Nat) (h : y.toNat * 2 ^ (k + 1) < 2 ^ 32) : (y <<< (k + 1)) >>> 1 = y <<< k := by
  apply BitVec.eq_of_toNat_eq
  rw [BitVec.toNat_ushiftRight, BitVec.toNat_shiftLeft, BitVec.toNat_shiftLeft, Nat.shiftLeft_eq, Nat.shiftLeft_eq, Nat.shiftRight_eq_div_pow]
  rw [Nat.mod_eq_of_lt h]
  have e : y.toNat * 2 ^ (k + 1) = (y.toNat * 2 ^ k) * 2 := by rw [Nat.pow_succ]; ac_rfl
  rw [e] at h ⊢
  rw [Nat.mod_eq_of_lt (by omega)]
  omega
theorem its_shl (y : R) (n k : Nat) (hk : k ≤ n) (h : y.toNat * 2 ^ n < 2 ^ 32) : its k (y <<< n) = y <<< (n - k) := by
  induction k with
  | zero => rfl
  | succ k ih =>
    rw [its, ih (by omega)]
    obtain ⟨m, hm⟩ : ∃ m, n - k = m + 1 := ⟨n - k - 1, by omega⟩
    have hp : 2 ^ (m + 1) ≤ 2 ^ n := Nat.pow_le_pow_right (by omega) (by omega)
    rw [hm, stp_even, shl_shr y m (Nat.lt_of_le_of_lt (Nat.mul_le_mul_left _ hp) h)]
    congr 1
    omega
/-- Of a register whose lowest eight bits are 0 eight steps make what lies above them. -/
theorem eight_high (y : R) (h : y.toNat * 256 < 2 ^ 32) : eight (y <<< 8) = y := by
  have := its_shl y 8 8 (Nat.le_refl _) h
  simpa [eight] using this

theorem split (r : R) : r = ((r >>> 8) <<< 8) ^^^ (BitVec.ofNat 32 (r.toNat % 256)) := by
  apply BitVec.eq_of_toNat_eq
  rw [BitVec.toNat_xor, BitVec.toNat_shiftLeft, BitVec.toNat_ushiftRight, BitVec.toNat_ofNat, Nat.shiftLeft_eq, Nat.shiftRight_eq_div_pow]
  have hr := r.isLt
  rw [Nat.mod_eq_of_lt (a := r.toNat % 256) (by omega), Nat.mod_eq_of_lt (by omega)]
  have h := Nat.two_pow_add_eq_or_of_lt (i := 8) (b := r.toNat % 256) (by omega) (r.toNat / 2 ^ 8)
  have h2 : 2 ^ 8 * (r.toNat / 2 ^ 8) ^^^ r.toNat % 256 = 2 ^ 8 * (r.toNat / 2 ^ 8) ||| r.toNat % 256 := by
    apply Nat.eq_of_testBit_eq
    intro i
    rw [Nat.testBit_xor, Nat.testBit_or, Nat.testBit_two_pow_mul]
    by_cases hi : i < 8
    · simp [show ¬ 8 ≤ i by omega]
    · have : (r.toNat % 256).testBit i = false := Nat.testBit_lt_two_pow (Nat.lt_of_lt_of_le (show r.toNat % 256 < 2 ^ 8 by omega) (Nat.pow_le_pow_right (by omega) (by omega)))
      simp [this]
  rw [Nat.mul_comm, h2, ← h]
  omega

/-- A byte, by the table. -/
theorem fd_table (r : R) (b : UInt8) : fd r b = (r >>> 8) ^^^ eight (BitVec.ofNat 32 ((r.toNat % 256) ^^^ b.toNat)) := by
  unfold fd
  have hx : BitVec.ofNat 32 ((r.toNat % 256) ^^^ b.toNat) = BitVec.ofNat 32 (r.toNat % 256) ^^^ ex b := by
    apply BitVec.eq_of_toNat_eq
    have hb : b.toNat < 256 := b.toNat_lt
    have h1 : r.toNat % 256 ^^^ b.toNat < 2 ^ 8 := Nat.xor_lt_two_pow (by omega) (by omega)
    rw [BitVec.toNat_xor, ex, BitVec.toNat_ofNat, BitVec.toNat_ofNat, BitVec.toNat_ofNat]
    rw [Nat.mod_eq_of_lt (a := r.toNat % 256 ^^^ b.toNat) (by omega), Nat.mod_eq_of_lt (a := b.toNat) (by omega), Nat.mod_eq_of_lt (a := r.toNat % 256) (by omega)]
  have hh : ((r >>> 8).toNat) * 256 < 2 ^ 32 := by
    rw [BitVec.toNat_ushiftRight, Nat.shiftRight_eq_div_pow]
    have hr := r.isLt
    omega
  conv => lhs; rw [split r]
  rw [BitVec.xor_assoc, ← hx, eight_xor, eight_high _ hh]

theorem fd_xor (r s : R) (a b : UInt8) : fd (r ^^^ s) (a ^^^ b) = fd r a ^^^ fd s b := by
  unfold fd
  have : ex (a ^^^ b) = ex a ^^^ ex b := by
    apply BitVec.eq_of_toNat_eq
    have ha : a.toNat < 256 := a.toNat_lt
    have hb : b.toNat < 256 := b.toNat_lt
    have h1 : a.toNat ^^^ b.toNat < 2 ^ 8 := Nat.xor_lt_two_pow (by omega) (by omega)
    rw [ex, ex, ex, BitVec.toNat_xor, BitVec.toNat_ofNat, BitVec.toNat_ofNat, BitVec.toNat_ofNat, UInt8.toNat_xor]
    rw [Nat.mod_eq_of_lt (by omega), Nat.mod_eq_of_lt (by omega), Nat.mod_eq_of_lt (by omega)]
  rw [this, ← eight_xor]
  congr 1
  ac_rfl

def xors (l m : List UInt8) : List UInt8 := List.zipWith (· ^^^ ·) l m
theorem reg_xor (l m : List UInt8) (h : l.length = m.length) (r s : R) : reg (r ^^^ s) (xors l m) = reg r l ^^^ reg s m := by
  induction l generalizing m r s with
  | nil => cases m with | nil => rfl | cons => simp at h
  | cons a l ih =>
    cases m with
    | nil => simp at h
    | cons b m =>
      simp only [xors, List.zipWith_cons_cons, reg_cons]
      rw [fd_xor]
      exact ih m (by simpa using h) _ _

theorem stp_inj {x : R} (h : stp x = 0) : x = 0 := by
  unfold stp at h
  cases hx : x.getLsbD 0 with
  | true =>
    rw [hx] at h
    simp only [if_true] at h
    have h31 : ((x >>> 1) ^^^ P).getLsbD 31 = true := by
      rw [BitVec.getLsbD_xor, BitVec.getLsbD_ushiftRight]
      have : x.getLsbD (1 + 31) = false := BitVec.getLsbD_of_ge _ _ (by omega)
      rw [this]
      decide
    rw [h] at h31
    simp at h31
  | false =>
    rw [hx] at h
    simp only [Bool.false_eq_true, if_false] at h
    apply BitVec.eq_of_getLsbD_eq
    intro i hi
    cases i with
    | zero => simpa using hx
    | succ i =>
      have := congrArg (fun y => BitVec.getLsbD y i) h
      simp only [BitVec.getLsbD_ushiftRight] at this
      rw [Nat.add_comm]
      simpa using this
theorem its_inj (k : Nat) {x : R} (h : its k x = 0) : x = 0 := by
  induction k with
  | zero => exact h
  | succ k ih => exact ih (stp_inj h)
theorem eight_inj {x : R} (h : eight x = 0) : x = 0 := its_inj 8 h

theorem fd_zero_inj {r : R} (h : fd r 0 = 0) : r = 0 := by
  unfold fd at h
  have := eight_inj h
  simpa [ex] using this
theorem reg_zeros (n : Nat) {r : R} (h : reg r (List.replicate n 0) = 0) : r = 0 := by
  induction n generalizing r with
  | zero => exact h
  | succ n ih =>
    rw [List.replicate_succ, reg_cons] at h
    exact fd_zero_inj (ih h)
theorem reg_zero_zeros (n : Nat) : reg 0 (List.replicate n 0) = 0 := by
  induction n with
  | zero => rfl
  | succ n ih =>
    rw [List.replicate_succ, reg_cons]
    have : fd 0 0 = 0 := by
      unfold fd
      rw [show (0 : R) ^^^ ex 0 = 0 from by decide, eight_zero]
    rw [this, ih]

theorem ex_lt (b : UInt8) : (ex b).toNat < 256 := by
  have := b.toNat_lt
  unfold ex
  rw [BitVec.toNat_ofNat, Nat.mod_eq_of_lt (by omega)]
  exact this
theorem ex_zero {b : UInt8} (h : ex b = 0) : b = 0 := by
  have h1 := congrArg BitVec.toNat h
  have := b.toNat_lt
  unfold ex at h1
  rw [BitVec.toNat_ofNat, Nat.mod_eq_of_lt (by omega)] at h1
  apply UInt8.toNat_inj.1
  simpa using h1

/-- Four bytes, from nothing, make nothing only of nothing. -/
theorem four (a b c d : UInt8) (h : reg 0 [a, b, c, d] = 0) : a = 0 ∧ b = 0 ∧ c = 0 ∧ d = 0 := by
  have e0 : (0 : R) ^^^ ex a = ex a := by simp
  simp only [reg_cons, reg_nil, fd] at h
  rw [e0] at h
  have h3 := eight_inj h
  obtain ⟨u, hu⟩ : ∃ u, u = eight (eight (eight (ex a) ^^^ ex b) ^^^ ex c) := ⟨_, rfl⟩
  rw [← hu] at h3
  have e3 : u = ex d := by
    have := congrArg (· ^^^ ex d) h3
    simpa [BitVec.xor_assoc] using this
  -- eight (v) = ex d, so v = ex d <<< 8
  have back : ∀ (v w : R), w.toNat * 256 < 2 ^ 32 → eight v = w → v = w <<< 8 := by
    intro v w hw e
    have hz : eight (v ^^^ (w <<< 8)) = 0 := by rw [eight_xor, eight_high w hw, e, BitVec.xor_self]; rfl
    have := eight_inj hz
    have := congrArg (· ^^^ (w <<< 8)) this
    simpa [BitVec.xor_assoc] using this
  have hd := ex_lt d
  have hc := ex_lt c
  have hb := ex_lt b
  have ha := ex_lt a
  have e2 := back _ _ (by omega) (hu.symm.trans e3)
  have sh8 : ∀ (x : R), x.toNat * 256 < 2 ^ 32 → (x <<< 8).toNat = x.toNat * 256 := by
    intro x hx
    rw [BitVec.toNat_shiftLeft, Nat.shiftLeft_eq, Nat.mod_eq_of_lt (by simpa using hx)]
  have low : ∀ (x : R) (e : UInt8), x.toNat * 256 < 2 ^ 32 → ((x <<< 8) ^^^ ex e).toNat = x.toNat * 256 + e.toNat := by
    intro x e hx
    have he := e.toNat_lt
    rw [BitVec.toNat_xor, sh8 x hx]
    have h1 : (ex e).toNat = e.toNat := by unfold ex; rw [BitVec.toNat_ofNat, Nat.mod_eq_of_lt (by omega)]
    rw [h1]
    have h := Nat.two_pow_add_eq_or_of_lt (i := 8) (b := e.toNat) (by omega) x.toNat
    have h2 : 2 ^ 8 * x.toNat ^^^ e.toNat = 2 ^ 8 * x.toNat ||| e.toNat := by
      apply Nat.eq_of_testBit_eq
      intro i
      rw [Nat.testBit_xor, Nat.testBit_or, Nat.testBit_two_pow_mul]
      by_cases hi : i < 8
      · simp [show ¬ 8 ≤ i by omega]
      · have : e.toNat.testBit i = false := Nat.testBit_lt_two_pow (Nat.lt_of_lt_of_le (show e.toNat < 2 ^ 8 by omega) (Nat.pow_le_pow_right (by omega) (by omega)))
        simp [this]
    rw [Nat.mul_comm, h2, ← h]
  have xr : ∀ (v w : R) (e : UInt8), v ^^^ ex e = w → v = w ^^^ ex e := by
    intro v w e h
    rw [← h, BitVec.xor_assoc, BitVec.xor_self, BitVec.xor_zero]
  have f2 := xr _ _ _ e2
  have b2 : ((ex d <<< 8) ^^^ ex c).toNat < 65536 := by
    have := c.toNat_lt
    rw [low _ _ (by omega)]; omega
  have e1 := back _ _ (by omega) f2
  have f1 := xr _ _ _ e1
  have b1 : ((((ex d <<< 8) ^^^ ex c) <<< 8) ^^^ ex b).toNat < 16777216 := by
    have := b.toNat_lt
    rw [low _ _ (by omega)]; omega
  have e0 := back _ _ (by omega) f1
  have n0 := congrArg BitVec.toNat e0
  rw [sh8 _ (by omega), low _ _ (by omega), low _ _ (by omega)] at n0
  have hd1 : (ex d).toNat = d.toNat := by have := d.toNat_lt; unfold ex; rw [BitVec.toNat_ofNat, Nat.mod_eq_of_lt (by omega)]
  have ha1 : (ex a).toNat = a.toNat := by have := a.toNat_lt; unfold ex; rw [BitVec.toNat_ofNat, Nat.mod_eq_of_lt (by omega)]
  rw [hd1, ha1] at n0
  have z : ∀ x : UInt8, x.toNat = 0 → x = 0 := fun x h => UInt8.toNat_inj.1 (by simpa using h)
  have := a.toNat_lt
  exact ⟨z a (by omega), z b (by omega), z c (by omega), z d (by omega)⟩

end Go.Proofs.Ytpeofjlecgenbaa.CrcMath

/- Contracts of crc's small functions: eight, feed, bare. -/
namespace Go.Proofs.Ytpeofjlecgenbaa
open Go.RowKit CrcMath

theorem crc_bit (x : R) : (bits .and .u32 (x.toNat : Int) 1 == 1) = x.getLsbD 0 := by
  have hx := x.isLt
  have e : bits .and .u32 (x.toNat : Int) 1 = ((x.toNat &&& 1 : Nat) : Int) := u32_and_nat x.toNat 1 (by omega) (by omega)
  rw [e, Nat.and_one_is_mod, BitVec.getLsbD, Nat.testBit_zero, Bool.eq_iff_iff]
  simp
  omega
theorem crc_turn (x : R) (h : x.getLsbD 0 = true) : bits .xor .u32 ((x.toNat : Int) / 2) 3988292384 = ((stp x).toNat : Int) := by
  have hx := x.isLt
  have e1 : (x.toNat : Int) / 2 = ((x.toNat / 2 : Nat) : Int) := by omega
  have e : bits .xor .u32 ((x.toNat / 2 : Nat) : Int) ((3988292384 : Nat) : Int) = ((x.toNat / 2 ^^^ 3988292384 : Nat) : Int) := u32_xor_nat _ _ (by omega) (by omega)
  rw [e1]
  refine e.trans ?_
  rw [stp, if_pos h, BitVec.toNat_xor, BitVec.toNat_ushiftRight, Nat.shiftRight_eq_div_pow]
  rfl
theorem crc_shift (x : R) (h : x.getLsbD 0 = false) : (x.toNat : Int) / 2 = ((stp x).toNat : Int) := by
  rw [stp, if_neg (by rw [h]; decide), BitVec.toNat_ushiftRight, Nat.shiftRight_eq_div_pow]
  omega

theorem eight_any (r : R) (w : World) :
    Calls Try.prog 46 #[.int .u32 (r.toNat : Int)] w fun e w' => e = .returned (.int .u32 ((eight r).toNat : Int)) ∧ w = w' := by
  go_enter Try.func46, Try.ntmps46
  go_wp2
  go_loop [0, 3] (fun t i => ∃ k : Nat, k ≤ 8 ∧ i = .int .i64 k ∧ t = .int .u32 ((its k r).toNat : Int)) (fun _ i => 8 - (intOf i).toNat)
  case atStart => exact ⟨0, by omega, rfl, rfl⟩
  case round =>
    obtain ⟨k, hk, rfl, rfl⟩ := hrel
    generalize hx : its k r = x
    have HX := Lib.hid hx
    clear hx
    by_cases hlt : k < 8
    · have HT : Hid (its (k + 1) r = stp x) := Lib.hid (by rw [← HX.out]; rfl)
      have HB := Lib.hid (crc_bit x)
      go_wp2
      · have h : (bits BinOp.and IntKind.u32 (x.toNat : Int) 1 == 1) = true := by assumption
        go_round
        case rel => exact ⟨k + 1, by omega, by go_num, by rw [HT.out, crc_turn x (by rw [← HB.out]; exact h)]⟩
        case measure => simp [intOf]; omega
      · have h : (bits BinOp.and IntKind.u32 (x.toNat : Int) 1 == 1) = false := by assumption
        go_round
        case rel => exact ⟨k + 1, by omega, by go_num, by rw [HT.out, crc_shift x (by rw [← HB.out]; exact h)]⟩
        case measure => simp [intOf]; omega
    · have ek : k = 8 := by omega
      subst ek
      go_wp2
      go_ret
      exact ⟨ret_int (by rw [← HX.out]; rfl), rfl⟩

/-- The table of a summer lies in block b from the cell at o on. -/
def Tab (w : World) (b o : Nat) : Prop := ∀ j : Nat, j < 256 → w.cell? ⟨b, o + j, none⟩ = some (.int .u32 ((eight (BitVec.ofNat 32 j)).toNat : Int))

theorem Tab.below {w w' : World} {B b o : Nat} (h : Tab w b o) (hb : Below B w w') (hlt : b < B) : Tab w' b o :=
  fun j hj => (hb.cell (p := ⟨b, o + j, none⟩) hlt).trans (h j hj)

theorem bare_any (b o : Nat) (w : World) (h : Tab w b o) :
    Calls Try.prog 47 #[.pointer (some ⟨b, o, none⟩)] w fun e w' => e = .returned (.bool false) ∧ w = w' := by
  have h1 : w.cell? ⟨b, o + 1, none⟩ = some (.int .u32 1996959894) := h 1 (by omega)
  clear h
  go_enter Try.func47, Try.ntmps47
  go_wp2
  go_ret
  exact ⟨rfl, rfl⟩

theorem feed_index (x : R) (c : UInt8) : bits .xor .u8 (IntKind.u8.wrap (x.toNat : Int)) (c.toNat : Int) = (((x.toNat % 256) ^^^ c.toNat : Nat) : Int) := by
  have hc : c.toNat < 256 := c.toNat_lt
  have e : IntKind.u8.wrap (x.toNat : Int) = ((x.toNat % 256 : Nat) : Int) := by rw [IntKind.wrap_u8']; omega
  rw [e, u8_xor_nat _ _ (by omega) (by omega)]
theorem feed_step (x : R) (c : UInt8) (j : Nat) (hj : (x.toNat % 256) ^^^ c.toNat = j) : bits .xor .u32 ((x.toNat : Int) / 256) ((eight (BitVec.ofNat 32 j)).toNat : Int) = ((fd x c).toNat : Int) := by
  have hx := x.isLt
  have e : (x.toNat : Int) / 256 = ((x.toNat / 256 : Nat) : Int) := by omega
  rw [e, u32_xor_nat _ _ (by omega) (BitVec.isLt _), fd_table, hj, BitVec.toNat_xor, BitVec.toNat_ushiftRight, Nat.shiftRight_eq_div_pow]

theorem feed_any (b o : Nat) (r : R) (s : ByteArray) (w : World) (h : Tab w b o) (hlt0 : b < w.heap.size) (hs : s.size ≤ maxLen) :
    Calls Try.prog 48 #[.pointer (some ⟨b, o, none⟩), .int .u32 (r.toNat : Int), .string s] w fun e w' => e = .returned (.int .u32 ((reg r s.data.toList).toNat : Int)) ∧ Below w.heap.size w w' := by
  unfold maxLen at hs
  go_enter Try.func48, Try.ntmps48
  go_wp2
  go_loopw [1, 10] (fun t i wr => ∃ k : Nat, k ≤ s.size ∧ i = .int .i64 k ∧ t = .int .u32 ((reg r (s.data.toList.take k)).toNat : Int) ∧ Below w.heap.size w wr) (fun _ i _ => s.size - (intOf i).toNat)
  case atStart => exact ⟨0, by omega, rfl, rfl, Below.refl _ _⟩
  case round =>
    obtain ⟨k, hk, rfl, rfl, hbw⟩ := hrel
    by_cases hlt : k < s.size
    · generalize hx : reg r (s.data.toList.take k) = x
      have HX := Lib.hid hx
      clear hx
      have HT : Hid (reg r (s.data.toList.take (k + 1)) = fd x s[k]) := Lib.hid (by rw [bytes_take s k hlt, reg_snoc, HX.out])
      obtain ⟨j, hj⟩ : ∃ j, (x.toNat % 256) ^^^ s[k].toNat = j := ⟨_, rfl⟩
      have hc : s[k].toNat < 256 := s[k].toNat_lt
      have hj2 : j < 256 := by rw [← hj]; exact Nat.xor_lt_two_pow (n := 8) (by omega) (by omega)
      have hcell : wr.cell? ⟨b, o + j, none⟩ = some (.int .u32 ((eight (BitVec.ofNat 32 j)).toNat : Int)) := (hbw.cell (p := ⟨b, o + j, none⟩) hlt0).trans (h j hj2)
      have hidx := feed_index x s[k]
      rw [hj] at hidx
      have HS : Hid (_ = _) := Lib.hid (feed_step x s[k] j hj)
      clear hj hc
      have hj3 : (j : Int) < 256 := by omega
      have hj4 : 0 ≤ (j : Int) := by omega
      go_wp2
      go_quiet (fail)
      have hb2 : Below w.heap.size w (wr.drewN nq) := hbw.drewN _
      go_wp2
      go_roundw
      case rel => exact ⟨k + 1, by omega, by go_num, by rw [HT.out, ← HS.out], hb2⟩
      case measure => simp [intOf]; omega
    · go_wp2
      go_ret
      exact ⟨ret_int (by rw [List.take_of_length_le (by rw [size_list]; omega)]), hbw⟩

end Go.Proofs.Ytpeofjlecgenbaa

/- Contracts of crc's fill and New. -/
namespace Go.Proofs.Ytpeofjlecgenbaa
open Go.RowKit CrcMath

theorem zero_crc (u : World) : (zeroValue 64).run Try.prog u = .ok (.agg (Array.replicate 256 (.int .u32 0))) u := by kernel_rfl

/-- The first k words of the table in block b are filled. -/
def Part (w : World) (b k : Nat) : Prop :=
  ∃ cs : Array Value, w.heap[b]? = some (.cells cs 64 (0, 0)) ∧ cs.size = 256 ∧ ∀ j : Nat, j < k → cs[j]? = some (.int .u32 ((eight (BitVec.ofNat 32 j)).toNat : Int))

theorem Part.cell {w : World} {b k j : Nat} (h : Part w b k) (hj : j < 256) : ∃ u, w.cell? ⟨b, j, none⟩ = some u := by
  obtain ⟨cs, hh, hs, _⟩ := h
  refine ⟨cs[j]'(by omega), ?_⟩
  simp only [World.cell?, hh]
  simp [hs, hj]
theorem Part.frozen {w : World} {b k j : Nat} (h : Part w b k) : w.frozen? ⟨b, j, none⟩ = false := by
  obtain ⟨cs, hh, hs, _⟩ := h
  simp [World.frozen?, hh]
theorem Part.next {w : World} {b k : Nat} (h : Part w b k) (hk : k < 256) : Part (w.setCell ⟨b, k, none⟩ (.int .u32 ((eight (BitVec.ofNat 32 k)).toNat : Int))) b (k + 1) := by
  obtain ⟨cs, hh, hs, hc⟩ := h
  refine ⟨cs.setIfInBounds k (.int .u32 ((eight (BitVec.ofNat 32 k)).toNat : Int)), ?_, by simpa using hs, fun j hj => ?_⟩
  · simp only [World.setCell, Array.getElem?_modify, if_true, hh, Option.map_some]
    rfl
  · rw [Array.getElem?_setIfInBounds]
    by_cases e : k = j
    · subst e; rw [if_pos rfl, if_pos (by omega)]
    · rw [if_neg e]; exact hc j (by omega)
theorem Part.tab {w : World} {b : Nat} (h : Part w b 256) : Tab w b 0 := by
  obtain ⟨cs, hh, hs, hc⟩ := h
  intro j hj
  simp only [World.cell?, hh, Nat.zero_add]
  simpa using hc j hj
theorem Part.lt {w : World} {b k : Nat} (h : Part w b k) : b < w.heap.size := by
  obtain ⟨cs, hh, hs, hc⟩ := h
  exact (Array.getElem?_eq_some_iff.1 hh).1
theorem Part.drew {w : World} {b k : Nat} (h : Part w b k) : Part w.drew b k := h

set_option maxRecDepth 100000 in
theorem crc_fill_any (b : Nat) (w : World) (hp : Part w b 0) :
    Calls Try.prog 24 #[.pointer (some ⟨b, 0, none⟩)] w fun e w' => e = .returned (.tuple #[]) ∧ Part w' b 256 ∧ Below b w w' := by
  go_enter Try.func24, Try.ntmps24
  go_wp2
  go_loopw [3] (fun i wr => ∃ k : Nat, k ≤ 256 ∧ i = .int .i64 k ∧ Part wr b k ∧ Below b w wr) (fun i _ => 256 - (intOf i).toNat)
  case atStart => exact ⟨0, by omega, rfl, hp, Below.refl _ _⟩
  case round =>
    obtain ⟨k, hk, rfl, hpart, hbw⟩ := hrel
    by_cases hlt : k < 256
    · obtain ⟨u, hu⟩ := hpart.cell hlt
      have hf := hpart.frozen (j := k)
      have hpart2 := hpart.next hlt
      have hb2 : Below b w (wr.setCell ⟨b, k, none⟩ (.int .u32 ((eight (BitVec.ofNat 32 k)).toNat : Int))) := hbw.setCell (p := ⟨b, k, none⟩) (Nat.le_refl _) _
      obtain ⟨x, hx⟩ : ∃ x, x = BitVec.ofNat 32 k := ⟨_, rfl⟩
      rw [← hx] at hpart2 hb2
      have hw : IntKind.u32.wrap (k : Int) = (x.toNat : Int) := by
        rw [IntKind.wrap_u32', hx, BitVec.toNat_ofNat]
        omega
      have HX := Lib.hid hx
      clear hx
      have hk1 : (k : Int) < 256 := by omega
      have hk2 : 0 ≤ (k : Int) := by omega
      have HP := Lib.hid hpart2
      have HB := Lib.hid hb2
      clear hpart hbw hpart2 hb2
      go_wp2
      go_still_tail 7, (by kernel_rfl)
      still_call ((eight_any x _).mono fun e w' h => ⟨h.1, h.2.symm⟩)
      repeat still_step
      refine wpStill_nil ?_
      change wpList _ _ _ _ _ wr.drew
      go_wp2
      go_roundw
      case rel => exact ⟨k + 1, by omega, by go_num, HP.out.drew, HB.out.drew⟩
      case measure => simp [intOf]; omega
    · have ek : k = 256 := by omega
      subst ek
      go_wp2
      go_end0
      exact ⟨rfl, hpart, hbw⟩

/-- What New answers: a summer whose table is filled. -/
def crc_Made (w : World) (e : Ending) (w' : World) : Prop :=
  ∃ b, e = .returned (.pointer (some ⟨b, 0, none⟩)) ∧ b < w'.heap.size ∧ Tab w' b 0 ∧ Below w.heap.size w w'

theorem crc_new_any (w : World) : Calls Try.prog 8 #[] w (crc_Made w) := by
  obtain ⟨zs, hzs⟩ : ∃ zs, zs = Array.replicate 256 (Value.int .u32 0) := ⟨_, rfl⟩
  have hz := zero_crc
  rw [← hzs] at hz
  have hne : ¬ zs = #[] := by rw [hzs]; decide
  have HP : Hid (Part (w.alloc (.cells zs 64)) w.heap.size 0) := Lib.hid ⟨zs, by show (w.heap.push _)[w.heap.size]? = _; simp, by rw [hzs]; simp, fun j hj => by omega⟩
  have HZ := Lib.hid hzs
  clear hzs
  go_enter Try.func8, Try.ntmps8
  go_wp2_with (go_at_call 24; refine (crc_fill_any _ _ HP.out).mono ?_; rintro e w1 ⟨rfl, hp1, hb1⟩)
  go_ret
  exact ⟨_, rfl, hp1.lt, hp1.tab, ((Below.refl _ _).alloc (Nat.le_refl _) _).trans hb1⟩

end Go.Proofs.Ytpeofjlecgenbaa

/- Plain facts on numbers as bytes: big-endian digits, their value, their order. -/
namespace Go.Proofs.Ytpeofjlecgenbaa.NumMath

/-- The bytes of n, the highest first, in s bytes. -/
def be : Nat → Nat → List UInt8
  | 0, _ => []
  | s + 1, n => be s (n / 256) ++ [UInt8.ofNat (n % 256)]

/-- The number whose bytes these are. -/
def val (l : List UInt8) : Nat := l.foldl (fun a b => 256 * a + b.toNat) 0

theorem be_length (s n : Nat) : (be s n).length = s := by
  induction s generalizing n with
  | zero => rfl
  | succ s ih => simp [be, ih]

theorem val_nil : val [] = 0 := rfl
theorem val_snoc (l : List UInt8) (b : UInt8) : val (l ++ [b]) = 256 * val l + b.toNat := by simp [val]

theorem toNat_mod (n : Nat) : (UInt8.ofNat (n % 256)).toNat = n % 256 := by
  rw [UInt8.toNat_ofNat']; omega

theorem val_be (s n : Nat) (h : n < 256 ^ s) : val (be s n) = n := by
  induction s generalizing n with
  | zero => have : n = 0 := by simpa using h
            subst this; rfl
  | succ s ih =>
    rw [be, val_snoc, ih (n / 256) (by rw [Nat.pow_succ] at h; omega), toNat_mod]
    omega

theorem snoc_ind {α : Type} {P : List α → Prop} (h0 : P []) (h1 : ∀ l a, P l → P (l ++ [a])) (l : List α) : P l := by
  have h : ∀ r : List α, P r.reverse := fun r => by
    induction r with
    | nil => exact h0
    | cons a r ih => rw [List.reverse_cons]; exact h1 _ _ ih
  simpa using h l.reverse

theorem val_lt (l : List UInt8) : val l < 256 ^ l.length := by
  induction l using snoc_ind with
  | h0 => simp [val]
  | h1 l b ih =>
    rw [val_snoc]
    have := b.toNat_lt
    simp only [List.length_append, List.length_singleton, Nat.pow_succ]
    omega

theorem be_val (l : List UInt8) : be l.length (val l) = l := by
  induction l using snoc_ind with
  | h0 => rfl
  | h1 l b ih =>
    have hb := b.toNat_lt
    have e1 : (256 * val l + b.toNat) / 256 = val l := by omega
    have e2 : (256 * val l + b.toNat) % 256 = b.toNat := by omega
    rw [val_snoc, List.length_append, List.length_singleton, be, e1, e2, ih]
    simp

theorem be_inj (s n m : Nat) (hn : n < 256 ^ s) (hm : m < 256 ^ s) (h : be s n = be s m) : n = m := by
  rw [← val_be s n hn, ← val_be s m hm, h]

/-- The lowest byte first: what is laid ahead of it has the higher ones. -/
theorem be_cons (s n : Nat) : be (s + 1) n = UInt8.ofNat (n / 256 ^ s % 256) :: be s n := by
  induction s generalizing n with
  | zero => simp [be]
  | succ s ih =>
    rw [be, ih (n / 256), be, List.cons_append]
    congr 2
    rw [Nat.div_div_eq_div_mul, Nat.pow_succ, Nat.mul_comm]

theorem be_mod (s n : Nat) : be s n = be s (n % 256 ^ s) := by
  induction s generalizing n with
  | zero => rfl
  | succ s ih =>
    have hp : (256 : Nat) ^ (s + 1) = 256 * 256 ^ s := by rw [Nat.pow_succ, Nat.mul_comm]
    have e1 : n % 256 ^ (s + 1) / 256 = n / 256 % 256 ^ s := by rw [hp, Nat.mod_mul_right_div_self]
    have e2 : n % 256 ^ (s + 1) % 256 = n % 256 := by rw [hp]; exact Nat.mod_mul_right_mod n 256 (256 ^ s)
    rw [be, be, ih (n / 256), e1, e2]

end Go.Proofs.Ytpeofjlecgenbaa.NumMath

/- The contract of num.Put. -/
namespace Go.Proofs.Ytpeofjlecgenbaa
open Go.RowKit NumMath
set_option maxRecDepth 100000

/-- May a number have that many bytes? -/
def okB (s : Int) : Bool := decide (1 ≤ s ∧ s ≤ 7)

theorem okB_yes {s : Int} (h1 : 1 ≤ s) (h2 : s ≤ 7) : okB s = true := by unfold okB; simp; omega
theorem okB_no {s : Int} (h : ¬ (1 ≤ s ∧ s ≤ 7)) : okB s = false := by unfold okB; simpa using h

theorem num_right_any (s : Int) (w : World) :
    Calls Try.prog 60 #[.int .i64 s] w fun e w' => e = .returned (.bool (okB s)) ∧ w = w' := by
  by_cases h1 : 1 ≤ s
  · by_cases h2 : s ≤ 7
    · go_enter Try.func60, Try.ntmps60
      go_wp2
      go_ret
      exact ⟨ret_bool (okB_yes h1 h2).symm, rfl⟩
    · go_enter Try.func60, Try.ntmps60
      go_wp2
      go_ret
      exact ⟨ret_bool (okB_no (by omega)).symm, rfl⟩
  · go_enter Try.func60, Try.ntmps60
    go_wp2
    go_ret
    exact ⟨ret_bool (okB_no (by omega)).symm, rfl⟩

/-- Can n stand in s bytes? -/
def fitB (s n : Int) : Bool := decide (0 ≤ n ∧ n < 256 ^ s.toNat)

theorem pow_two (s : Int) (h : 0 ≤ s) : (2 : Int) ^ (8 * s).toNat = 256 ^ s.toNat := by
  obtain ⟨k, rfl⟩ := Int.eq_ofNat_of_zero_le h
  have e1 : (8 * (k : Int)).toNat = 8 * k := by omega
  rw [e1, Int.toNat_natCast, Int.pow_mul]
  rfl

theorem fit_shr (s n : Int) (h : 0 ≤ s) : (n / 2 ^ (8 * s).toNat == 0) = fitB s n := by
  rw [pow_two s h]
  have hp : (0 : Int) < 256 ^ s.toNat := Int.pow_pos (by omega)
  unfold fitB
  rw [Bool.eq_iff_iff]
  simp only [beq_iff_eq, decide_eq_true_eq]
  constructor
  · intro e
    have h1 := Int.emod_nonneg n (Int.ne_of_gt hp)
    have h2 := Int.emod_lt_of_pos n hp
    have h3 := Int.mul_ediv_add_emod n (256 ^ s.toNat)
    rw [e] at h3
    omega
  · rintro ⟨h1, h2⟩
    exact Int.ediv_eq_zero_of_lt h1 h2

theorem num_fits_any (s n : Int) (w : World) (h1 : 1 ≤ s) (h7 : s ≤ 7) :
    Calls Try.prog 61 #[.int .i64 s, .int .i64 n] w fun e w' => e = .returned (.bool (fitB s n)) ∧ w = w' := by
  go_enter Try.func61, Try.ntmps61
  go_wp2
  go_ret
  exact ⟨ret_bool (fit_shr s n (by omega)), rfl⟩

/-- What num.add lays behind: the bytes of n, of which the s - k highest are laid. -/
theorem be_step (s k n : Nat) (hk : k < s) : (be s n).take (k + 1) = (be s n).take k ++ [UInt8.ofNat (n / 256 ^ (s - 1 - k) % 256)] := by
  induction s generalizing n k with
  | zero => omega
  | succ s ih =>
    rw [be_cons]
    cases k with
    | zero => simp
    | succ k =>
      rw [List.take_succ_cons, List.take_succ_cons, ih k n (by omega), List.cons_append]
      have e : s + 1 - 1 - (k + 1) = s - 1 - k := by omega
      rw [e]

theorem num_add_any (v : Value) (m : Nat) (xs : List Value) (s n base : Nat) (w : World) (hs1 : 1 ≤ s) (hs : s ≤ 7) (hn : n < 256 ^ s) (hm : m ≤ 1000000) (hown : w.ownsRow base 5 1 v m xs) (hb : base ≤ w.heap.size) :
    Calls Try.prog 62 #[v, .int .i64 s, .int .i64 n] w fun e w' =>
      ∃ v', e = .returned v' ∧ w'.ownsRow base 5 1 v' (m + s) (xs ++ bytes (be s n)) ∧ Below base w w' := by
  obtain ⟨i0, hi, hz0, hz1, hz2⟩ := info_parts info_byte
  go_enter Try.func62, Try.ntmps62
  go_wp2
  go_loopw [0, 7] (fun v i wr => ∃ k : Nat, k ≤ s ∧ i = .int .i64 ((s : Int) - 1 - k) ∧ wr.ownsRow base 5 1 v (m + k) (xs ++ bytes ((be s n).take k)) ∧ Below base w wr)
    (fun _ i _ => (intOf i + 1).toNat)
  case atStart => exact ⟨0, Nat.zero_le _, by simp, by simpa [bytes] using hown, Below.refl _ _⟩
  case round =>
    obtain ⟨k, hk, rfl, hownr, hbw⟩ := hrel
    by_cases hlt : k < s
    · go_wp2_with (at_builtin; refine wpList_append_own _ rfl (.tmp 14) (.tmp 20) 58 rfl base 5 i0 (.int .u8 0) 1 1 Try.underlying58 hi hz0 hz1 hz2 rfl (by decide) _ _ _ rfl (hownr.alloc _) ⟨wr.heap.size, 0, none⟩ 1 1 [.int .u8 ((UInt8.ofNat (n / 256 ^ (s - 1 - k) % 256)).toNat : Int)] rfl rfl ?c1 ?c2 ?c3 ?c4 ?c5 ?_)
      case c1 =>
        intro j u hj
        match j, hj with
        | 0, hj =>
          simp at hj
          subst hj
          simp [Addr.add]
          rw [Int.pow_mul]
          rfl
      case c2 => intro u hu; simp at hu; subst hu; rfl
      case c3 => unfold maxLen; omega
      case c4 => omega
      case c5 => have := hbw.size; simp; omega
      intro v' w1 hown1 hg1 _
      have hb1 : Below base w w1 := (hbw.alloc (by have := hbw.size; omega) _).grown hg1 (by have := hbw.size; simp; omega) (fun j hj => (hownr.lt j hj).1)
      have ho2 : w1.ownsRow base 5 1 v' (m + (k + 1)) (xs ++ bytes ((be s n).take (k + 1))) := by
        have e : (((UInt8.ofNat (n / 256 ^ (s - 1 - k) % 256)).toNat : Nat) : Int) = (n : Int) / 256 ^ (s - 1 - k) % 256 := by rw [toNat_mod]; simp
        rw [be_step s k n hlt, bytes_append, ← Nat.add_assoc]
        simp only [bytes, List.map_cons, List.map_nil, e]
        exact hown1
      clear hown1 hg1 hownr hbw hown
      go_wp2
      go_roundw
      case rel => exact ⟨k + 1, by omega, by go_num, ho2, hb1⟩
      case measure => simp [intOf]; omega
    · go_wp2
      go_ret
      have e : k = s := by omega
      subst e
      rw [List.take_of_length_le (by rw [be_length]; omega)] at hownr
      exact ⟨_, rfl, hownr, hbw⟩

/-- The bytes of all numbers. -/
def putBytes (s : Int) (l : List Int) : List UInt8 := l.flatMap fun n => be s.toNat n.toNat
def fitAll (s : Int) (l : List Int) : Bool := l.all (fitB s)
theorem putBytes_snoc (s : Int) (l : List Int) (n : Int) : putBytes s (l ++ [n]) = putBytes s l ++ be s.toNat n.toNat := by simp [putBytes]
theorem fitAll_snoc (s : Int) (l : List Int) (n : Int) : fitAll s (l ++ [n]) = (fitAll s l && fitB s n) := by simp [fitAll]
theorem putBytes_length (s : Int) (l : List Int) : (putBytes s l).length = l.length * s.toNat := by
  induction l with
  | nil => simp [putBytes]
  | cons n l ih =>
    have : putBytes s (n :: l) = be s.toNat n.toNat ++ putBytes s l := by simp [putBytes]
    rw [this, List.length_append, ih, be_length, List.length_cons, Nat.add_mul, Nat.one_mul, Nat.add_comm]
theorem fitAll_take {s : Int} {l : List Int} (k : Nat) (h : fitAll s l = true) : fitAll s (l.take k) = true := by
  unfold fitAll at *
  rw [List.all_eq_true] at *
  intro x hx
  exact h x (List.mem_of_mem_take hx)

/-- num.Put's answer: the bytes, and the error's number. -/
def putR (s : Int) (l : List Int) : List UInt8 × Int :=
  if okB s then if fitAll s l then (putBytes s l, 0) else ([], 2) else ([], 1)
theorem putR_arg {s : Int} {l : List Int} (h : okB s = false) : putR s l = ([], 1) := by simp [putR, h]
theorem putR_range {s : Int} {l : List Int} (h : okB s = true) (h2 : fitAll s l = false) : putR s l = ([], 2) := by simp [putR, h, h2]
theorem putR_ok {s : Int} {l : List Int} (h : okB s = true) (h2 : fitAll s l = true) : putR s l = (putBytes s l, 0) := by simp [putR, h, h2]

def Answers (s : Int) (l : List Int) (w : World) (e : Ending) (w' : World) : Prop :=
  e = .returned (.tuple #[.string (str (putR s l).1), .int .i64 (putR s l).2]) ∧ Below w.heap.size w w'

theorem add_int (v : Value) (m : Nat) (xs : List Value) (s : Nat) (x : Int) (base : Nat) (w : World) (hs1 : 1 ≤ s) (hs : s ≤ 7) (h0 : 0 ≤ x) (hx : x < 256 ^ s) (hm : m ≤ 1000000) (hown : w.ownsRow base 5 1 v m xs) (hb : base ≤ w.heap.size) :
    Calls Try.prog 62 #[v, .int .i64 s, .int .i64 x] w fun e w' =>
      ∃ v', e = .returned v' ∧ w'.ownsRow base 5 1 v' (m + s) (xs ++ bytes (be s x.toNat)) ∧ Below base w w' := by
  obtain ⟨n, rfl⟩ := Int.eq_ofNat_of_zero_le h0
  have hn : n < 256 ^ s := by
    have e : ((256 ^ s : Nat) : Int) = 256 ^ s := by simp
    omega
  exact num_add_any v m xs s n base w hs1 hs hn hm hown hb

theorem put_any (s : Int) (a : Option Addr) (cap : Nat) (l : List Int) (w : World) (hl : l.length ≤ 100000) (hr : Lies w w.heap.size a (ints l)) :
    Calls Try.prog 45 #[.int .i64 s, .slice a l.length cap] w (Answers s l w) := by
  by_cases hok : okB s = true
  · have hb2 : 1 ≤ s ∧ s ≤ 7 := by simpa [okB] using hok
    obtain ⟨n, rfl⟩ := Int.eq_ofNat_of_zero_le (show 0 ≤ s by omega)
    have hn1 : 1 ≤ n := by omega
    have hn7 : n ≤ 7 := by omega
    have hmul : n * l.length ≤ 7 * l.length := Nat.mul_le_mul_right _ hn7
    obtain ⟨p, hp⟩ : ∃ p, p = n * l.length := ⟨_, rfl⟩
    have hwr : wrap64 ((n : Int) * (l.length : Int)) = (p : Int) := by
      have e : (n : Int) * (l.length : Int) = (p : Int) := by rw [hp]; simp
      rw [e]
      exact IntWalk.wrap64_in _ ⟨by omega, by omega⟩
    have hpb : p ≤ 700000 := by omega
    have HP := Lib.hid hp
    clear hp hmul
    obtain ⟨i0, hi, hz0, hz1, hz2⟩ := info_parts info_byte
    go_enter Try.func45, Try.ntmps45
    go_wp2_with (first | (go_at_call 60; refine (num_right_any _ _).mono ?_; rintro e w' ⟨rfl, rfl⟩) | (at_make; refine wpList_make_own _ rfl (.const (.int .i64 0)) (.tmp 15) 58 rfl w.heap.size 5 i0 (.int .u8 0) 1 Try.underlying58 hi hz0 hz1 _ _ _ p rfl rfl hwr ?b2 ?b3 (Nat.le_refl _) ?_))
    case b2 => rw [hz2]; omega
    case b3 => unfold maxLen; omega
    intro w0 hown0 hg0
    go_wp2
    have hb0 : Below w.heap.size w w0 := (Below.refl _ _).grown hg0 (Nat.le_refl _) (fun k h => by cases h)
    go_loopw [6, 19] (fun v i wr => ∃ k : Nat, k ≤ l.length ∧ i = .int .i64 k ∧ fitAll n (l.take k) = true ∧ wr.ownsRow w.heap.size 5 1 v (k * n) (bytes (putBytes n (l.take k))) ∧ Below w.heap.size w wr)
      (fun _ i _ => l.length - (intOf i).toNat)
    case atStart => exact ⟨0, Nat.zero_le _, rfl, rfl, by simpa [bytes, putBytes, Value.slice] using hown0, hb0⟩
    case round =>
      obtain ⟨k, hk, rfl, hall, hownr, hbw⟩ := hrel
      by_cases hlt : k < l.length
      · obtain ⟨b, off, rfl, hbb, hc⟩ := hr (by rw [ints_length]; omega)
        have hcell : wr.cell? ⟨b, off + k, none⟩ = some (.int .i64 l[k]) := (hbw.cell (p := ⟨b, off + k, none⟩) hbb).trans (hc k _ (ints_get l k hlt))
        clear hc hr hown0 hg0 hb0
        have HA := Lib.hid hall
        clear hall
        have HT := Lib.hid (take_snoc l k hlt)
        by_cases hfit : fitB n l[k] = true
        · have hf2 : 0 ≤ l[k] ∧ l[k] < 256 ^ n := by simpa [fitB] using hfit
          have hkn : k * n ≤ 1000000 := by have := Nat.mul_le_mul (show k ≤ 100000 by omega) hn7; omega
          go_wp2_with (first | (go_at_call 61; refine (num_fits_any _ _ _ (by omega) (by omega)).mono ?_; rintro e w' ⟨rfl, rfl⟩) | (go_at_call 62; refine (add_int _ _ _ _ _ _ _ hn1 hn7 hf2.1 hf2.2 hkn hownr hbw.size).mono ?_; rintro e w1 ⟨v', rfl, hown1, hb1⟩))
          go_roundw
          case rel => exact ⟨k + 1, by omega, by go_num, by rw [HT.out, fitAll_snoc, HA.out, hfit]; rfl, by rw [HT.out, putBytes_snoc, bytes_append, Nat.succ_mul]; simpa using hown1, hbw.trans hb1⟩
          case measure => simp [intOf]; omega
        · have hno : fitB n l[k] = false := by simpa using hfit
          clear hfit
          go_wp2_with (go_at_call 61; refine (num_fits_any _ _ _ (by omega) (by omega)).mono ?_; rintro e w' ⟨rfl, rfl⟩)
          go_ret2
          have hnot : fitAll n l = false := by
            cases hh : fitAll n l with
            | false => rfl
            | true =>
              have := fitAll_take (k + 1) hh
              rw [HT.out, fitAll_snoc, hno, Bool.and_false] at this
              cases this
          exact ⟨by rw [putR_range hok hnot]; rfl, hbw⟩
      · have HE : Hid (l.take k = l) := Lib.hid (List.take_of_length_le (by omega))
        have hconv := own_string hownr
        have HA := Lib.hid hall
        clear hall
        go_wp2
        go_ret2
        have h1 := HA.out
        rw [HE.out] at h1
        exact ⟨by rw [putR_ok hok h1, HE.out]; rfl, hbw⟩
  · have hno : okB s = false := by simpa using hok
    clear hok
    go_enter Try.func45, Try.ntmps45
    go_wp2_with (go_at_call 60; refine (num_right_any _ _).mono ?_; rintro e w' ⟨rfl, rfl⟩)
    go_ret2
    exact ⟨by rw [putR_arg hno]; rfl, Below.refl _ _⟩

/-- The contract where the length stands by another name, and the answer is known. -/
theorem put_at (s : Int) (a : Option Addr) (n cap : Nat) (l : List Int) (L : List UInt8) (c : Int) (w : World) (hn : l.length = n) (hR : putR s l = (L, c)) (hl : n ≤ 100000) (hr : Lies w w.heap.size a (ints l)) :
    Calls Try.prog 45 #[.int .i64 s, .slice a n cap] w fun e w' => e = .returned (.tuple #[.string (str L), .int .i64 c]) ∧ Below w.heap.size w w' := by
  subst hn
  refine (put_any s a cap l w hl hr).mono fun e w' h => ?_
  unfold Answers at h
  rw [hR] at h
  exact h

end Go.Proofs.Ytpeofjlecgenbaa

/- Contracts of crc's Sum, tail, Seal. -/
namespace Go.Proofs.Ytpeofjlecgenbaa
open Go.RowKit CrcMath

/-- The sum of bytes, as a number. -/
def sumI (l : List UInt8) : Int := ((crc l).toNat : Int)
theorem sumI_bd (l : List UInt8) : 0 ≤ sumI l ∧ sumI l < 4294967296 := by
  unfold sumI
  have := (crc l).isLt
  omega

theorem sum_end (l : List UInt8) : wrap64 (bits .xor .u32 IntKind.u32.max ((reg ones l).toNat : Int)) = sumI l := by
  have hb := sumI_bd l
  have e : bits .xor .u32 IntKind.u32.max ((reg ones l).toNat : Int) = sumI l := by
    have h1 : IntKind.u32.max = ((4294967295 : Nat) : Int) := rfl
    rw [h1, u32_xor_nat _ _ (by omega) (BitVec.isLt _), sumI, crc, ← BitVec.allOnes_xor, BitVec.toNat_xor, BitVec.toNat_allOnes]
  rw [e, IntWalk.wrap64_in _ ⟨by omega, by omega⟩]

theorem crc_sum_any (b : Nat) (a : Option Addr) (cap : Nat) (l : List ByteArray) (w : World) (ht : Tab w b 0) (hb : b < w.heap.size) (hl : l.length ≤ 140737488355328) (hs : ∀ s ∈ l, s.size ≤ maxLen) (hr : Lies w w.heap.size a (strs l)) :
    Calls Try.prog 26 #[.pointer (some ⟨b, 0, none⟩), .slice a l.length cap] w fun e w' => e = .returned (.int .i64 (sumI (cat l))) ∧ Below w.heap.size w w' := by
  go_enter Try.func26, Try.ntmps26
  go_wp2_with (go_at_call 47; refine (bare_any _ _ _ ht).mono ?_; rintro e w' ⟨rfl, rfl⟩)
  go_loopw [5, 19] (fun t i wr => ∃ k : Nat, k ≤ l.length ∧ i = .int .i64 k ∧ t = .int .u32 ((reg ones (cat (l.take k))).toNat : Int) ∧ Below w.heap.size w wr) (fun _ i _ => l.length - (intOf i).toNat)
  case atStart => exact ⟨0, by omega, rfl, rfl, Below.refl _ _⟩
  case round =>
    obtain ⟨k, hk, rfl, rfl, hbw⟩ := hrel
    by_cases hlt : k < l.length
    · obtain ⟨bl, off, rfl, hbb, hc⟩ := hr (by rw [strs_length]; omega)
      have hcell : wr.cell? ⟨bl, off + k, none⟩ = some (.string l[k]) := (hbw.cell (p := ⟨bl, off + k, none⟩) hbb).trans (hc k _ (strs_get l k hlt))
      have hsz := hs l[k] (List.getElem_mem _)
      have HT : Hid (_ = _) := Lib.hid (take_snoc l k hlt)
      have htw : Hid (Tab wr b 0) := Lib.hid (ht.below hbw hb)
      have hbz : b < wr.heap.size := Nat.lt_of_lt_of_le hb hbw.size
      generalize hx : reg ones (cat (l.take k)) = x
      have HX := Lib.hid hx
      clear hx hc hs hr ht
      go_wp2_with (go_at_call 48; refine (feed_any _ _ _ _ _ htw.out hbz hsz).mono ?_; rintro e w1 ⟨rfl, hb1⟩)
      go_roundw
      case rel => exact ⟨k + 1, by omega, by go_num, by rw [HT.out, cat_snoc, reg_append, HX.out], hbw.trans (hb1.mono hbw.size)⟩
      case measure => simp [intOf]; omega
    · have HE : Hid (l.take k = l) := Lib.hid (List.take_of_length_le (by omega))
      go_wp2
      go_ret
      exact ⟨ret_int (by rw [HE.out]; exact sum_end _), hbw⟩

theorem sum_at (b : Nat) (a : Option Addr) (n cap : Nat) (l : List ByteArray) (w : World) (hn : l.length = n) (ht : Tab w b 0) (hb : b < w.heap.size) (hl : n ≤ 140737488355328) (hs : ∀ s ∈ l, s.size ≤ maxLen) (hr : Lies w w.heap.size a (strs l)) :
    Calls Try.prog 26 #[.pointer (some ⟨b, 0, none⟩), .slice a n cap] w fun e w' => e = .returned (.int .i64 (sumI (cat l))) ∧ Below w.heap.size w w' := by
  subst hn
  exact crc_sum_any b a cap l w ht hb hl hs hr

/-- A slice of one text that the call has just laid. -/
theorem lies_str (x : ByteArray) (w : World) (t : TypeId) : Lies (w.alloc (.cells #[.string x] t)) (w.alloc (.cells #[.string x] t)).heap.size (some ⟨w.heap.size, 0, none⟩) (strs [x]) := Lies.one (by simp) (by simp)

/-- A sum as four bytes. -/
def tailB (n : Int) : List UInt8 := NumMath.be 4 n.toNat

theorem cat_join (l : List ByteArray) : Lib.join (l.map (·.data.toList)) (ByteArray.empty).data.toList = cat l := by
  have e : (ByteArray.empty).data.toList = [] := rfl
  rw [Lib.join, e]
  induction l with
  | nil => rfl
  | cons s l ih =>
    cases l with
    | nil => simp [cat, List.intercalate]
    | cons t l =>
      have h : cat (s :: t :: l) = s.data.toList ++ cat (t :: l) := rfl
      rw [h, ← ih]
      simp [List.intercalate]

/-- What was sealed. -/
def sealB (l : List UInt8) : List UInt8 := l ++ tailB (sumI l)
theorem tailB_length (n : Int) : (tailB n).length = 4 := NumMath.be_length _ _
theorem sealB_length (l : List UInt8) : (sealB l).length = l.length + 4 := by rw [sealB, List.length_append, tailB_length]

/-- What Open answers. -/
def openR (l : List UInt8) : List UInt8 × Int :=
  if l.length < 4 then ([], 13) else if l.drop (l.length - 4) = tailB (sumI (l.take (l.length - 4))) then (l.take (l.length - 4), 0) else ([], 7)
theorem openR_short {l : List UInt8} (h : l.length < 4) : openR l = ([], 13) := by rw [openR, if_pos h]
theorem openR_sum {l : List UInt8} (h : ¬ l.length < 4) (h2 : ¬ l.drop (l.length - 4) = tailB (sumI (l.take (l.length - 4)))) : openR l = ([], 7) := by rw [openR, if_neg h, if_neg h2]
theorem openR_ok {l : List UInt8} (h : ¬ l.length < 4) (h2 : l.drop (l.length - 4) = tailB (sumI (l.take (l.length - 4)))) : openR l = (l.take (l.length - 4), 0) := by rw [openR, if_neg h, if_pos h2]

/-! The contracts at a list of texts that the caller has just laid. -/
theorem sum_new (b n cap : Nat) (l : List ByteArray) (t : TypeId) (w : World) (hn : l.length = n) (ht : Tab w b 0) (hb : b < w.heap.size) (hl : n ≤ 140737488355328) (hs : ∀ s ∈ l, s.size ≤ maxLen) :
    Calls Try.prog 26 #[.pointer (some ⟨b, 0, none⟩), .slice (some ⟨w.heap.size, 0, none⟩) n cap] (w.alloc (.cells (strs l).toArray t)) fun e w' => e = .returned (.int .i64 (sumI (cat l))) ∧ Below w.heap.size w w' := by
  refine (sum_at b _ n cap l _ hn (ht.below (alloc_below _ _) hb) (by simp; omega) hl hs (Lies.new _ _ _)).mono fun e w' h => ⟨h.1, (alloc_below _ _).trans (h.2.mono (by simp))⟩
/-! A summer that isn't there. -/
theorem sum_none (a : Option Addr) (n cap : Nat) (w : World) :
    Calls Try.prog 26 #[.pointer none, .slice a n cap] w fun e w' => e = .returned (.int .i64 0) ∧ w = w' := by
  go_enter Try.func26, Try.ntmps26
  go_wp2
  go_ret
  exact ⟨rfl, rfl⟩
end Go.Proofs.Ytpeofjlecgenbaa

/- Contracts of the document's answers: Sum, Seal, Open, Joined; Long, awake. -/
namespace Go.Proofs.Ytpeofjlecgenbaa
open Go.RowKit CrcMath

/-- The register behind k bits of a byte, as the document has it. -/
def refR (k : Nat) (x : R) (c : UInt8) : R := its k (x ^^^ ex c) ^^^ (ex c >>> k)
theorem refR_zero (x : R) (c : UInt8) : refR 0 x c = x := by
  show (x ^^^ ex c) ^^^ (ex c >>> 0) = x
  rw [BitVec.ushiftRight_zero, BitVec.xor_assoc, BitVec.xor_self, BitVec.xor_zero]
theorem ex_shift (c : UInt8) (k : Nat) : (ex c >>> k).toNat = c.toNat / 2 ^ k := by
  have := c.toNat_lt
  rw [BitVec.toNat_ushiftRight, Nat.shiftRight_eq_div_pow, ex, BitVec.toNat_ofNat, Nat.mod_eq_of_lt (by omega)]
theorem refR_eight (x : R) (c : UInt8) : refR 8 x c = fd x c := by
  have h : ex c >>> 8 = 0 := by
    apply BitVec.eq_of_toNat_eq
    rw [ex_shift]
    have := c.toNat_lt
    show c.toNat / 256 = 0
    omega
  rw [refR, h]
  show its 8 (x ^^^ ex c) ^^^ 0#32 = _
  rw [BitVec.xor_zero]; rfl
theorem lsb_mod (x : R) : x.getLsbD 0 = decide (x.toNat % 2 = 1) := by
  rw [BitVec.getLsbD, Nat.testBit_zero]
theorem refR_succ (k : Nat) (x : R) (c : UInt8) :
    refR (k + 1) x c = if ((refR k x c).toNat % 2 = c.toNat / 2 ^ k % 2) then refR k x c >>> 1 else (refR k x c >>> 1) ^^^ P := by
  obtain ⟨z, hz⟩ : ∃ z, z = its k (x ^^^ ex c) := ⟨_, rfl⟩
  obtain ⟨d, hd⟩ : ∃ d, d = ex c >>> k := ⟨_, rfl⟩
  have e1 : refR k x c = z ^^^ d := by rw [hz, hd, refR]
  have e2 : refR (k + 1) x c = stp z ^^^ (d >>> 1) := by
    rw [hz, hd, refR, its, ← BitVec.shiftRight_add]
  have e3 : c.toNat / 2 ^ k = d.toNat := by rw [hd, ex_shift]
  have hl : (z ^^^ d).getLsbD 0 = (z.getLsbD 0 ^^ d.getLsbD 0) := BitVec.getLsbD_xor ..
  rw [lsb_mod, lsb_mod d] at hl
  rw [e1, e2, e3, stp]
  have hx : ((z ^^^ d) >>> 1) = (z >>> 1) ^^^ (d >>> 1) := BitVec.ushiftRight_xor_distrib ..
  rw [hx]
  have hb : ∀ a : Nat, a % 2 = 0 ∨ a % 2 = 1 := fun a => by omega
  cases hq : z.getLsbD 0 with
  | true =>
    rw [hq] at hl
    rw [if_pos rfl, if_neg]
    · ac_rfl
    · intro h
      rw [h] at hl
      rcases hb d.toNat with h1 | h1 <;> simp [h1] at hl
  | false =>
    rw [hq] at hl
    rw [if_neg (by decide), if_pos]
    rw [Bool.false_xor, decide_eq_decide] at hl
    generalize (z ^^^ d).toNat = q at hl ⊢
    have := hb d.toNat
    have := hb q
    omega

theorem ref_xor (y : R) : bits .xor .i64 ((y.toNat : Int) / 2) 3988292384 = (((y >>> 1) ^^^ P).toNat : Int) := by
  have hx := y.isLt
  have e1 : (y.toNat : Int) / 2 = ((y.toNat / 2 : Nat) : Int) := by omega
  rw [e1, show (3988292384 : Int) = ((3988292384 : Nat) : Int) from rfl, xor_i64 _ _ (by omega) (by omega), BitVec.toNat_xor, BitVec.toNat_ushiftRight, Nat.shiftRight_eq_div_pow]
  rfl
theorem ref_end (l : List UInt8) : 4294967295 - ((reg ones l).toNat : Int) = sumI l := by
  have := (reg ones l).isLt
  rw [sumI, crc, BitVec.toNat_not]
  omega

set_option maxRecDepth 100000 in
theorem refSum_any (s : ByteArray) (w : World) (hs : s.size ≤ 140737488355328) :
    Calls Try.prog 30 #[.string s] w fun e w' => e = .returned (.int .i64 (sumI s.data.toList)) ∧ w = w' := by
  go_enter Try.func30, Try.ntmps30
  go_wp2
  go_loop [3, 4] (fun t i => ∃ k : Nat, k ≤ s.size ∧ i = .int .i64 k ∧ t = .int .i64 ((reg ones (s.data.toList.take k)).toNat : Int)) (fun _ i => s.size - (intOf i).toNat)
  case atStart => exact ⟨0, by omega, rfl, rfl⟩
  case round =>
    obtain ⟨k, hk, rfl, rfl⟩ := hrel
    generalize hx : reg ones (s.data.toList.take k) = x
    have HX := Lib.hid hx
    clear hx
    have hx32 : x.toNat < 4294967296 := x.isLt
    by_cases hlt : k < s.size
    · have HT : Hid (reg ones (s.data.toList.take (k + 1)) = fd x s[k]) := Lib.hid (by rw [bytes_take s k hlt, reg_snoc, HX.out])
      have hc256 : (s[k].toNat : Int) < 256 := by have := s[k].toNat_lt; omega
      go_wp2
      go_loop [3, 5, 6] (fun t d i => ∃ b : Nat, b ≤ 8 ∧ i = .int .i64 b ∧ d = .int .i64 ((s[k].toNat / 2 ^ b : Nat) : Int) ∧ t = .int .i64 ((refR b x s[k]).toNat : Int)) (fun _ _ i => 8 - (intOf i).toNat)
      case atStart => exact ⟨0, by omega, rfl, by simp, by rw [refR_zero]⟩
      case round =>
        obtain ⟨b, hb, rfl, rfl, rfl⟩ := hrel
        by_cases hb8 : b < 8
        · have HS : Hid (_ = _) := Lib.hid (refR_succ b x s[k])
          have HD : Hid (s[k].toNat / 2 ^ (b + 1) = s[k].toNat / 2 ^ b / 2) := Lib.hid (by rw [Nat.pow_succ, Nat.div_div_eq_div_mul])
          generalize hy : refR b x s[k] = y
          rw [hy] at HS
          generalize hd : s[k].toNat / 2 ^ b = d
          rw [hd] at HS HD
          have hd256 : d < 256 := by rw [← hd]; exact Nat.lt_of_le_of_lt (Nat.div_le_self _ _) (by omega)
          have hy32 : y.toNat < 4294967296 := y.isLt
          have HXO : Hid (_ = _) := Lib.hid (ref_xor y)
          clear hy hd
          by_cases hq : y.toNat % 2 = d % 2
          · have hne : ((y.toNat : Int) % 2 != (d : Int) % 2) = false := by rw [bne_eq_false_iff_eq]; omega
            have HQ := Lib.hid hq
            clear hq
            go_wp2
            go_round
            case rel => exact ⟨b + 1, by omega, by go_num, by rw [HD.out]; go_num, by rw [HS.out, if_pos HQ.out, BitVec.toNat_ushiftRight, Nat.shiftRight_eq_div_pow]; go_num⟩
            case measure => simp [intOf]; omega
          · have hne : ((y.toNat : Int) % 2 != (d : Int) % 2) = true := by rw [bne_iff_ne]; omega
            have HQ := Lib.hid hq
            clear hq
            go_wp2
            go_round
            case rel => exact ⟨b + 1, by omega, by go_num, by rw [HD.out]; go_num, by rw [HS.out, if_neg HQ.out, HXO.out]⟩
            case measure => simp [intOf]; omega
        · have eb : b = 8 := by omega
          subst eb
          go_wp2
          go_round
          case rel => exact ⟨k + 1, by omega, by go_num, by rw [HT.out, refR_eight]⟩
          case measure => simp [intOf]; omega
    · have HE : Hid (s.data.toList.take k = s.data.toList) := Lib.hid (List.take_of_length_le (by rw [size_list]; omega))
      go_wp2
      go_ret
      exact ⟨ret_int (by rw [← HX.out, HE.out]; exact ref_end _), rfl⟩

end Go.Proofs.Ytpeofjlecgenbaa

/- Contracts of the document's answers: Seal, Open, Joined; Long, awake. -/
namespace Go.Proofs.Ytpeofjlecgenbaa
open Go.RowKit CrcMath

/-- Are texts more than what is played? -/
def crc_longB (l : List ByteArray) : Bool := decide (3000 < (cat l).length) || decide (60 < l.length)

theorem crc_cat_take_le (l : List ByteArray) (k : Nat) : (cat (l.take k)).length ≤ (cat l).length := by
  conv => rhs; rw [← List.take_append_drop k l, cat, List.flatMap_append]
  rw [List.length_append]
  exact Nat.le_add_right _ _

end Go.Proofs.Ytpeofjlecgenbaa

/- Arguments of any plain type, opened: a description of the type, the plain data that it holds, and how they lie in the world. -/
namespace Go.Proofs.Ytpeofjlecgenbaa.Open
open Go.RowKit

inductive Ty where
  | int (k : IntKind) | bool | str | unit
  | pair (a b : Ty)
  | arr (n : Nat) (e : Ty)
  | sl (bytes : Nat) (e : Ty)

def Ty.size : Ty → Nat
  | .int _ | .bool | .str | .sl _ _ => 1
  | .unit => 0
  | .pair a b => a.size + b.size
  | .arr n e => n * e.size

abbrev Ty.den : Ty → Type
  | .int _ => Int
  | .bool => Bool
  | .str => ByteArray
  | .unit => Unit
  | .pair a b => a.den × b.den
  | .arr _ e => List e.den
  | .sl _ e => List e.den

/-- The cells cs hold the data x. -/
def Reads (w : World) : (t : Ty) → List Value → t.den → Prop
  | .int k, cs, (x : Int) => cs = [.int k x] ∧ (Lit.int k x).wf = true
  | .bool, cs, (x : Bool) => cs = [.bool x]
  | .str, cs, (x : ByteArray) => cs = [.string x] ∧ x.size ≤ 140737488351232
  | .unit, cs, _ => cs = []
  | .pair a b, cs, x => Reads w a (cs.take a.size) x.1 ∧ Reads w b (cs.drop a.size) x.2
  | .arr n e, cs, (l : List e.den) => l.length = n ∧ cs.length = n * e.size ∧ ∀ i (h : i < l.length), Reads w e ((cs.drop (i * e.size)).take e.size) l[i]
  | .sl by_ e, cs, (l : List e.den) => ∃ a cap, cs = [.slice a l.length cap] ∧ l.length ≤ cap ∧ cap * by_ ≤ 140737488351232 ∧ cap ≤ 9223372036854775807 ∧
      (0 < l.length → ∃ b off, a = some ⟨b, off, none⟩ ∧ b < w.heap.size ∧ ∀ i (h : i < l.length), ∃ cs' : List Value, cs'.length = e.size ∧
        (∀ j, j < e.size → w.cell? ⟨b, off + (i * e.size + j), none⟩ = cs'[j]?) ∧ Reads w e cs' l[i])

theorem Reads.length {w : World} : ∀ {t : Ty} {cs : List Value} {x : t.den}, Reads w t cs x → cs.length = t.size
  | .int _, _, _, h => by rw [h.1]; rfl
  | .bool, cs, _, h => by have h : cs = _ := h; rw [h]; rfl
  | .str, _, _, h => by rw [h.1]; rfl
  | .unit, cs, _, h => by have h : cs = _ := h; rw [h]; rfl
  | .pair a b, cs, x, h => by
    have h1 := h.1.length
    have h2 := h.2.length
    rw [List.length_take] at h1
    rw [List.length_drop] at h2
    show cs.length = a.size + b.size
    omega
  | .arr n e, _, _, h => h.2.1
  | .sl _ _, _, _, h => by obtain ⟨a, cap, rfl, _⟩ := h; rfl

theorem Reads.below {w w' : World} (hb : Below w.heap.size w w') : ∀ {t : Ty} {cs : List Value} {x : t.den}, Reads w t cs x → Reads w' t cs x
  | .int _, _, _, h => h
  | .bool, _, _, h => h
  | .str, _, _, h => h
  | .unit, _, _, h => h
  | .pair _ _, _, _, h => ⟨h.1.below hb, h.2.below hb⟩
  | .arr _ _, _, _, h => ⟨h.1, h.2.1, fun i hi => (h.2.2 i hi).below hb⟩
  | .sl _ e, _, _, ⟨a, cap, h1, h2, h3, h4, h5⟩ => ⟨a, cap, h1, h2, h3, h4, fun hp => by
      obtain ⟨b, off, e1, e2, e3⟩ := h5 hp
      refine ⟨b, off, e1, Nat.lt_of_lt_of_le e2 hb.size, fun i hi => ?_⟩
      obtain ⟨cs', l1, l2, l3⟩ := e3 i hi
      exact ⟨cs', l1, fun j hj => (hb.cell (p := ⟨b, off + (i * e.size + j), none⟩) e2).trans (l2 j hj), l3.below hb⟩⟩

def kindEq (a b : IntKind) : Bool := match a, b with
  | .i8, .i8 | .i16, .i16 | .i32, .i32 | .i64, .i64 | .u8, .u8 | .u16, .u16 | .u32, .u32 | .u64, .u64 => true
  | _, _ => false
theorem kindEq_eq {a b : IntKind} (h : kindEq a b = true) : a = b := by
  cases a <;> cases b <;> first | rfl | (simp [kindEq] at h)

/-- Is type t (or: are the fields fs, from the cell at off on) as the description says? -/
def chk (P : Program) : Ty → Option TypeId → List Field → Nat → Bool
  | .int k, some t, _, _ => match P.underlying t with | some (.int k') => kindEq k' k | _ => false
  | .bool, some t, _, _ => match P.underlying t with | some .bool => true | _ => false
  | .str, some t, _, _ => match P.underlying t with | some .string => true | _ => false
  | .unit, none, fs, _ => fs.isEmpty
  | .pair a b, none, fs, off => match fs with
    | f :: r => Nat.beq f.offset off && Nat.beq (P.cellsOf f.type) a.size && chk P a (some f.type) [] 0 && chk P b none r (off + a.size)
    | [] => false
  | .pair a b, some t, _, _ => match P.underlying t with
    | some (.struct fs) => Nat.beq (P.cellsOf t) (a.size + b.size) && (match fs.toList with
      | f :: r => Nat.beq f.offset 0 && Nat.beq (P.cellsOf f.type) a.size && chk P a (some f.type) [] 0 && chk P b none r a.size
      | [] => false)
    | _ => false
  | .arr n e, some t, _, _ => match P.underlying t with | some (.array n' e') => Nat.beq n' n && Nat.beq (P.cellsOf t) (n * e.size) && Nat.beq (P.cellsOf e') e.size && chk P e (some e') [] 0 | _ => false
  | .sl by_ e, some t, _, _ => match P.underlying t with | some (.slice e') => Nat.beq (P.cellsOf e') e.size && Nat.blt 0 e.size && Nat.beq (P.bytesOf e') by_ && chk P e (some e') [] 0 | _ => false
  | _, _, _, _ => false

theorem reach_eq : reachBytes = 140737488351232 := rfl

section
variable {H : Type} {enc : TypeId × Value → H} {P : Program} {w : World} {spare : Nat → Bool} {held : Bool}

theorem weightsAll_mem {e : TypeId} : ∀ {ds : List (DataW H)} {d : DataW H} {n : Nat}, d ∈ ds → n ∈ d.weights P e → n ∈ DataW.weightsAll P e ds
  | d0 :: ds, d, n, hd, hn => by
    rw [DataW.weightsAll, List.mem_append]
    cases hd with
    | head => exact Or.inl hn
    | tail _ hd => exact Or.inr (weightsAll_mem hd hn)

theorem choose_list {α β : Type} (p : Nat → α → Prop) (l : Nat) (h : ∀ i, i < l → ∃ x, p i x) (_ : β) : ∃ xs : List α, xs.length = l ∧ ∀ i (hi : i < xs.length), p i xs[i] := by
  induction l with
  | zero => exact ⟨[], rfl, fun i hi => by simp at hi⟩
  | succ l ih =>
    obtain ⟨xs, h1, h2⟩ := ih fun i hi => h i (by omega)
    obtain ⟨x, hx⟩ := h l (by omega)
    refine ⟨xs ++ [x], by simp [h1], fun i hi => ?_⟩
    rw [List.getElem_append]
    split
    · exact h2 i (by assumption)
    · have : i = l := by simp [h1] at hi; omega
      subst this
      simpa using hx

theorem opens (hspare : ∀ b, spare b = true) : ∀ (ty : Ty),
    (∀ (t : TypeId) (fuel : Nat) (cs : List Value) (x : DataW H × List MemPlace), chk P ty (some t) [] 0 = true → DataW.trod enc P w 0 spare held fuel t cs = some x → (∀ n ∈ x.1.weights P t, n ≤ reachBytes) → ∃ d, Reads w ty cs d) ∧
    (∀ (fs : List Field) (off n : Nat) (cs : List Value) (xs : List (DataW H × List MemPlace)), chk P ty none fs off = true → cs.length = off + ty.size → xs.length = fs.length →
      (∀ (i : Nat) (f : Field), fs[i]? = some f → DataW.trod enc P w 0 spare held n f.type ((cs.drop f.offset).take (P.cellsOf f.type)) = xs[i]?) →
      (∀ n ∈ DataW.weightsEach P (fs.map (·.type)) (xs.map (·.1)), n ≤ reachBytes) → ∃ d, Reads w ty (cs.drop off) d)
  | .int k => by
    refine ⟨fun t fuel cs x hc h hw => ?_, fun fs off n cs xs hc => by simp [chk] at hc⟩
    simp only [chk] at hc
    split at hc
    · rename_i k' hu
      have := kindEq_eq hc
      subst this
      obtain ⟨m, rfl, rfl, hwf⟩ := DataW.trod_int hu h
      exact ⟨m, rfl, hwf⟩
    · cases hc
  | .bool => by
    refine ⟨fun t fuel cs x hc h hw => ?_, fun fs off n cs xs hc => by simp [chk] at hc⟩
    simp only [chk] at hc
    split at hc
    · rename_i hu
      obtain ⟨b, rfl, rfl⟩ := DataW.trod_bool hu h
      exact ⟨b, rfl⟩
    · cases hc
  | .str => by
    refine ⟨fun t fuel cs x hc h hw => ?_, fun fs off n cs xs hc => by simp [chk] at hc⟩
    simp only [chk] at hc
    split at hc
    · rename_i hu
      obtain ⟨s, rfl, rfl, _⟩ := DataW.trod_string hu h
      have := hw s.data.toList.length (by simp [DataW.weights])
      rw [reach_eq, Array.length_toList] at this
      exact ⟨s, rfl, this⟩
    · cases hc
  | .unit => by
    refine ⟨fun t fuel cs x hc => by simp [chk] at hc, fun fs off n cs xs hc hl _ _ _ => ?_⟩
    exact ⟨(), by
      show cs.drop off = []
      rw [List.drop_eq_nil_iff]
      have : cs.length = off + 0 := hl
      omega⟩
  | .pair a b => by
    have key : ∀ (fs : List Field) (off n : Nat) (cs : List Value) (xs : List (DataW H × List MemPlace)),
        (match fs with | f :: r => Nat.beq f.offset off && Nat.beq (P.cellsOf f.type) a.size && chk P a (some f.type) [] 0 && chk P b none r (off + a.size) | [] => false) = true →
        cs.length = off + (a.size + b.size) → xs.length = fs.length →
        (∀ (i : Nat) (f : Field), fs[i]? = some f → DataW.trod enc P w 0 spare held n f.type ((cs.drop f.offset).take (P.cellsOf f.type)) = xs[i]?) →
        (∀ n ∈ DataW.weightsEach P (fs.map (·.type)) (xs.map (·.1)), n ≤ reachBytes) → ∃ d, Reads w (.pair a b) (cs.drop off) d := by
      intro fs off n cs xs hc hl hx hr hw
      match fs, xs, hc, hx, hr, hw with
      | f :: r, x :: xs, hc, hx, hr, hw =>
        simp only [Bool.and_eq_true, Nat.beq_eq] at hc
        obtain ⟨⟨⟨h1, h2⟩, h3⟩, h4⟩ := hc
        simp only [List.map_cons, DataW.weightsEach, List.mem_append] at hw
        have r0 := hr 0 f rfl
        rw [h1, h2] at r0
        obtain ⟨d1, hd1⟩ := (opens hspare a).1 f.type n _ x h3 (by simpa using r0) fun m hm => hw m (Or.inl hm)
        obtain ⟨d2, hd2⟩ := (opens hspare b).2 r (off + a.size) n cs xs h4 (by omega) (by simpa using hx) (fun i g hg => by simpa using hr (i + 1) g (by simpa using hg)) fun m hm => hw m (Or.inr hm)
        refine ⟨(d1, d2), hd1, ?_⟩
        show Reads w b ((cs.drop off).drop a.size) d2
        rw [List.drop_drop]
        exact hd2
      | [], _, hc, _, _, _ => cases hc
    refine ⟨fun t fuel cs x hc h hw => ?_, fun fs off n cs xs hc hl hx hr hw => ?_⟩
    · simp only [chk] at hc
      split at hc
      · rename_i fs hu
        simp only [Bool.and_eq_true, Nat.beq_eq] at hc
        obtain ⟨xs, n, rfl, rfl, hl, hx, hr⟩ := DataW.trod_struct hu h
        have := key fs.toList 0 n cs xs (by simpa only [Nat.zero_add] using hc.2) (by rw [hl, hc.1]; omega) (by simpa using hx) (fun i f hf => hr i f (by simpa using hf)) (fun m hm => hw m (by simpa [DataW.weights, hu] using hm))
        simpa using this
      · cases hc
    · exact key fs off n cs xs (by simpa only [chk] using hc) hl hx hr hw
  | .arr m e => by
    refine ⟨fun t fuel cs x hc h hw => ?_, fun fs off n cs xs hc => by simp [chk] at hc⟩
    simp only [chk] at hc
    split at hc
    · rename_i n' e' hu
      simp only [Bool.and_eq_true, Nat.beq_eq] at hc
      obtain ⟨⟨⟨rfl, h1⟩, h2⟩, h3⟩ := hc
      obtain ⟨xs, n, rfl, rfl, hl, hx, hr⟩ := DataW.trod_array hu h
      rw [h2] at hr
      obtain ⟨ds, hd1, hd2⟩ := choose_list (α := e.den) (fun i d => Reads w e ((cs.drop (i * e.size)).take e.size) d) n' (fun i hi => by
        have hi2 : i < xs.length := by omega
        have := hr i hi
        rw [List.getElem?_eq_getElem hi2] at this
        refine (opens hspare e).1 e' n _ xs[i] h3 this fun k hk => hw k ?_
        simp only [DataW.weights, hu]
        exact weightsAll_mem (List.mem_map.2 ⟨xs[i], List.getElem_mem _, rfl⟩) hk) ()
      exact ⟨ds, hd1, by rw [hl, h1], hd2⟩
    · cases hc
  | .sl by_ e => by
    refine ⟨fun t fuel cs x hc h hw => ?_, fun fs off n cs xs hc => by simp [chk] at hc⟩
    simp only [chk] at hc
    split at hc
    · rename_i e' hu
      simp only [Bool.and_eq_true, Nat.beq_eq] at hc
      obtain ⟨⟨⟨h1, h2⟩, h3⟩, h4⟩ := hc
      have hpos : 0 < e.size := by simp [Nat.blt] at h2; omega
      rcases DataW.trod_slice hu h with ⟨rfl, rfl⟩ | ⟨a, len, cap, elems, rest, n, _, rfl, rfl, hb, hl, hm, hlen, hel, hsp, hns⟩
      · exact ⟨[], none, 0, rfl, by simp, by simp, by omega, fun h0 => by simp at h0⟩
      · rw [h1] at hel
        have hrl := (hsp (hspare _)).1
        have hcap : cap * by_ ≤ 140737488351232 := by
          have := hw ((elems.length + rest.length) * P.bytesOf e') (by simp [DataW.weights, hu])
          rw [hlen, hrl, h3, reach_eq, Nat.add_sub_cancel' hl] at this
          exact this
        have hm2 : cap ≤ 9223372036854775807 := hm
        have hcell : ∀ i, i < len → ∃ cs', cs'.length = e.size ∧ (∀ j, j < e.size → w.cell? ((a.add (i * e.size)).add j) = cs'[j]?) ∧ ∃ d, Reads w e cs' d := by
          intro i hi
          have hi2 : i < elems.length := by omega
          have := hel i hi
          rw [List.getElem?_eq_getElem hi2] at this
          obtain ⟨cs', q1, q2⟩ := Option.bind_eq_some_iff.1 this
          obtain ⟨_, q3, q4⟩ := World.cells?_some q1
          refine ⟨cs', q3, q4, (opens hspare e).1 e' n cs' elems[i] h4 q2 fun k hk => hw k ?_⟩
          simp only [DataW.weights, hu, List.mem_cons, List.mem_append]
          exact Or.inr (Or.inl (weightsAll_mem (List.mem_map.2 ⟨elems[i], List.getElem_mem _, rfl⟩) hk))
        obtain ⟨ds, hd1, hd2⟩ := choose_list (α := e.den) (fun i d => ∃ cs', cs'.length = e.size ∧ (∀ j, j < e.size → w.cell? ((a.add (i * e.size)).add j) = cs'[j]?) ∧ Reads w e cs' d) len (fun i hi => by
          obtain ⟨cs', q1, q2, d, q3⟩ := hcell i hi
          exact ⟨d, cs', q1, q2, q3⟩) ()
        refine ⟨ds, some a, cap, by rw [hd1], by omega, hcap, hm2, fun h0 => ?_⟩
        obtain ⟨b, off, spot⟩ := a
        have h00 : ∃ v, w.cell? ⟨b, off, spot⟩ = some v := by
          obtain ⟨cs', q1, q2, _⟩ := hd2 0 h0
          have := q2 0 hpos
          rw [List.getElem?_eq_getElem (by omega)] at this
          simp only [Nat.zero_mul, Addr.add, if_true] at this
          exact ⟨_, this⟩
        obtain ⟨v, hv⟩ := h00
        have hspot : spot = none := by simpa using World.cell?_spot hv
        subst hspot
        refine ⟨b, off, rfl, World.block_lt_of_cell? w _ hv, fun i hi => ?_⟩
        obtain ⟨cs', q1, q2, q3⟩ := hd2 i hi
        refine ⟨cs', q1, fun j hj => ?_, q3⟩
        have := q2 j hj
        rw [Addr.add_lit, Addr.add_lit] at this
        rw [← this, Nat.add_assoc]
    · cases hc
end
end Go.Proofs.Ytpeofjlecgenbaa.Open

/- The statements CrcSums and CrcOpens: their walks. -/
namespace Go.Proofs.Ytpeofjlecgenbaa
open Go.RowKit CrcMath

/-- Texts that came in, as the walks take them. -/
theorem crc_reads_strs {w : World} {a : Option Addr} {cap : Nat} {l : List ByteArray} (h : Open.Reads w (.sl 16 .str) [.slice a l.length cap] l) :
    Lies w w.heap.size a (strs l) ∧ (∀ s ∈ l, s.size ≤ 140737488351232) ∧ l.length ≤ cap ∧ cap ≤ 140737488351232 := by
  obtain ⟨a', cap', e, h1, h2, h3, h4⟩ := h
  simp at e
  obtain ⟨rfl, rfl⟩ := e
  refine ⟨fun h0 => ?_, fun s hs => ?_, h1, by omega⟩
  · rw [strs_length] at h0
    obtain ⟨b, off, e1, e2, e3⟩ := h4 h0
    refine ⟨b, off, e1, e2, fun j u hu => ?_⟩
    have hj : j < l.length := by
      have := (List.getElem?_eq_some_iff.1 hu).1
      rwa [strs_length] at this
    obtain ⟨cs', q1, q2, q3⟩ := e3 j hj
    have := q2 0 (by decide)
    rw [q3.1] at this
    rw [strs_get l j hj] at hu
    simpa [Open.Ty.size, ← hu] using this
  · obtain ⟨i, hi, rfl⟩ := List.mem_iff_getElem.1 hs
    obtain ⟨b, off, e1, e2, e3⟩ := h4 (by omega)
    obtain ⟨cs', q1, q2, q3⟩ := e3 i hi
    exact q3.2

/-- What was sealed is opened. -/
theorem openR_seal (l : List UInt8) : openR (sealB l) = (l, 0) := by
  have e : (sealB l).length - 4 = l.length := by rw [sealB_length]; omega
  have h1 : (sealB l).take ((sealB l).length - 4) = l := by rw [e, sealB, List.take_left]
  have h2 : (sealB l).drop ((sealB l).length - 4) = tailB (sumI l) := by rw [e, sealB, List.drop_left]
  rw [openR_ok (by rw [sealB_length]; omega) (by rw [h1, h2]), h1]

end Go.Proofs.Ytpeofjlecgenbaa

/- What turned bytes do to a sealed text. -/
namespace Go.Proofs.Ytpeofjlecgenbaa
open Go.RowKit CrcMath

def zer (n : Nat) : List UInt8 := List.replicate n 0
def pick4 (b0 b1 b2 b3 : UInt8) : Nat → UInt8
  | 0 => b0 | 1 => b1 | 2 => b2 | _ => b3
/-- The bytes L, of which the first k of four from a on are turned. -/
def mix (L : List UInt8) (a : Nat) (p : Nat → UInt8) : Nat → List UInt8
  | 0 => L
  | k + 1 => (mix L a p k).set (a + k) ((mix L a p k).getD (a + k) 0 ^^^ p k)
theorem mix_length (L : List UInt8) (a : Nat) (p : Nat → UInt8) (k : Nat) : (mix L a p k).length = L.length := by
  induction k with
  | zero => rfl
  | succ k ih => rw [mix, List.length_set, ih]
theorem mix_get (L : List UInt8) (a : Nat) (p : Nat → UInt8) (k i : Nat) :
    (mix L a p k).getD i 0 = if a ≤ i ∧ i < a + k ∧ i < L.length then L.getD i 0 ^^^ p (i - a) else L.getD i 0 := by
  induction k with
  | zero => rw [if_neg (by omega)]; rfl
  | succ k ih =>
    rw [mix, List.getD_eq_getElem?_getD, List.getElem?_set, mix_length]
    by_cases e : a + k = i
    · subst e
      rw [if_pos rfl]
      by_cases hl : a + k < L.length
      · have h2 : (mix L a p k).getD (a + k) 0 = L.getD (a + k) 0 := by
          have h3 : ∀ j, (mix L a p j).getD (a + k) 0 = (mix L a p j).getD (a + k) 0 := fun _ => rfl
          rw [ih, if_neg (by omega)]
        rw [if_pos hl, if_pos (by omega), Option.getD_some, h2]
        congr 2
        omega
      · rw [if_neg hl, if_neg (by omega)]
        simp [List.getD_eq_getElem?_getD, hl]
    · rw [if_neg e, ← List.getD_eq_getElem?_getD, ih]
      by_cases h : a ≤ i ∧ i < a + k ∧ i < L.length
      · rw [if_pos h, if_pos (by omega)]
      · rw [if_neg h, if_neg (by omega)]

theorem xors_length (l m : List UInt8) (h : l.length = m.length) : (xors l m).length = l.length := by simp [xors, h]
theorem xors_getD (l m : List UInt8) (h : l.length = m.length) (i : Nat) : (xors l m).getD i 0 = l.getD i 0 ^^^ m.getD i 0 := by
  simp only [List.getD_eq_getElem?_getD, xors, List.getElem?_zipWith]
  by_cases hi : i < l.length
  · rw [List.getElem?_eq_getElem hi, List.getElem?_eq_getElem (by omega)]
    rfl
  · rw [List.getElem?_eq_none (by omega), List.getElem?_eq_none (by omega)]
    decide
theorem ext_getD {l m : List UInt8} (h : l.length = m.length) (hg : ∀ i, l.getD i 0 = m.getD i 0) : l = m := by
  refine List.ext_getElem h fun i h1 h2 => ?_
  have := hg i
  rwa [List.getD_eq_getElem?_getD, List.getD_eq_getElem?_getD, List.getElem?_eq_getElem h1, List.getElem?_eq_getElem h2, Option.getD_some, Option.getD_some] at this

/-- What is turned in all. -/
def err (a r : Nat) (b0 b1 b2 b3 : UInt8) : List UInt8 := zer a ++ [b0, b1, b2, b3] ++ zer r
theorem err_length (a r : Nat) (b0 b1 b2 b3 : UInt8) : (err a r b0 b1 b2 b3).length = a + 4 + r := by simp [err, zer]; omega
theorem err_get (a r : Nat) (b0 b1 b2 b3 : UInt8) (i : Nat) : (err a r b0 b1 b2 b3).getD i 0 = if a ≤ i ∧ i < a + 4 then pick4 b0 b1 b2 b3 (i - a) else 0 := by
  rw [err, zer, zer, List.append_assoc, List.getD_eq_getElem?_getD]
  by_cases h1 : i < a
  · rw [List.getElem?_append_left (by simpa using h1), List.getElem?_replicate, if_pos h1, if_neg (by omega)]; rfl
  · rw [List.getElem?_append_right (by simp; omega), List.length_replicate]
    by_cases h2 : i - a < 4
    · rw [List.getElem?_append_left (by simpa using h2), if_pos (by omega)]
      obtain ⟨j, hj⟩ : ∃ j, i - a = j := ⟨_, rfl⟩
      rw [hj] at h2 ⊢
      match j, h2 with
      | 0, _ | 1, _ | 2, _ | 3, _ => rfl
    · rw [List.getElem?_append_right (by simp; omega), if_neg (by omega), List.getElem?_replicate]
      split <;> rfl

theorem mix_err (L : List UInt8) (a r : Nat) (b0 b1 b2 b3 : UInt8) (h : L.length = a + 4 + r) : mix L a (pick4 b0 b1 b2 b3) 4 = xors L (err a r b0 b1 b2 b3) := by
  have hl : L.length = (err a r b0 b1 b2 b3).length := by rw [err_length, h]
  refine ext_getD (by rw [mix_length, xors_length _ _ hl]) fun i => ?_
  rw [xors_getD _ _ hl, mix_get, err_get]
  by_cases h1 : a ≤ i ∧ i < a + 4
  · rw [if_pos (by omega), if_pos h1]
  · rw [if_neg (by omega), if_neg h1, UInt8.xor_zero]

theorem reg_err (a r : Nat) (b0 b1 b2 b3 : UInt8) (h : reg 0 (err a r b0 b1 b2 b3) = 0) : b0 = 0 ∧ b1 = 0 ∧ b2 = 0 ∧ b3 = 0 := by
  rw [err, reg_append, reg_append, zer, reg_zero_zeros] at h
  exact four _ _ _ _ (reg_zeros r h)

theorem sumI_turned (l : List UInt8) (e : List UInt8) (hl : l.length = e.length) (h : sumI (xors l e) = sumI l) : reg 0 e = 0 := by
  have h1 := reg_xor l e hl ones 0
  have h0 : ones ^^^ (0 : R) = ones := by decide
  rw [h0] at h1
  have h2 : crc (xors l e) = crc l := by
    apply BitVec.eq_of_toNat_eq
    unfold sumI at h
    omega
  have h3 : reg ones (xors l e) = reg ones l := by
    have := congrArg (fun x : R => ~~~ x) h2
    simpa [crc] using this
  rw [h3] at h1
  have := congrArg (fun x : R => reg ones l ^^^ x) h1
  simp only [← BitVec.xor_assoc, BitVec.xor_self, BitVec.zero_xor] at this
  exact this.symm

theorem tailB_inj {n m : Int} (hn : 0 ≤ n ∧ n < 4294967296) (hm : 0 ≤ m ∧ m < 4294967296) (h : tailB n = tailB m) : n = m := by
  have := NumMath.be_inj 4 n.toNat m.toNat (by omega) (by omega) h
  omega

theorem xors_append (a b c d : List UInt8) (h : a.length = c.length) : xors (a ++ b) (c ++ d) = xors a c ++ xors b d := by
  simp [xors, List.zipWith_append h]
theorem xors_zer (l : List UInt8) (n : Nat) (h : l.length = n) : xors l (zer n) = l := by
  refine ext_getD (by simp [xors, zer, h]) fun i => ?_
  rw [xors_getD _ _ (by simp [zer, h]), zer, List.getD_eq_getElem?_getD, List.getD_eq_getElem?_getD, List.getElem?_replicate]
  split <;> simp

theorem tells (l : List UInt8) (a : Nat) (b0 b1 b2 b3 : UInt8) (hne : ¬ (b0 = 0 ∧ b1 = 0 ∧ b2 = 0 ∧ b3 = 0)) (ha : a = l.length ∨ a + 4 ≤ l.length) :
    openR (mix (sealB l) a (pick4 b0 b1 b2 b3) 4) = ([], 7) := by
  have hlen : (sealB l).length = a + 4 + (l.length - a) := by rw [sealB_length]; omega
  have e1 : (mix (sealB l) a (pick4 b0 b1 b2 b3) 4).length = l.length + 4 := by rw [mix_length, sealB_length]
  have e2 : (mix (sealB l) a (pick4 b0 b1 b2 b3) 4).length - 4 = l.length := by omega
  refine openR_sum (by omega) ?_
  rw [e2, mix_err _ _ _ _ _ _ _ hlen]
  rcases ha with rfl | ha
  · have h0 : err l.length (l.length - l.length) b0 b1 b2 b3 = zer l.length ++ [b0, b1, b2, b3] := by simp [err, zer]
    have h1 : xors (sealB l) (err l.length (l.length - l.length) b0 b1 b2 b3) = l ++ xors (tailB (sumI l)) [b0, b1, b2, b3] := by
      rw [h0, sealB, xors_append _ _ _ _ (by simp [zer]), xors_zer l _ rfl]
    rw [h1, List.drop_left, List.take_left]
    intro h
    apply hne
    have hx : ∀ i, (tailB (sumI l)).getD i 0 ^^^ [b0, b1, b2, b3].getD i 0 = (tailB (sumI l)).getD i 0 := fun i => by
      rw [← xors_getD _ _ (by rw [tailB_length]; rfl), h]
    have hz : ∀ i, [b0, b1, b2, b3].getD i 0 = 0 := fun i => by
      have := congrArg (fun x => (tailB (sumI l)).getD i 0 ^^^ x) (hx i)
      simpa [← UInt8.xor_assoc] using this
    exact ⟨hz 0, hz 1, hz 2, hz 3⟩
  · obtain ⟨r, hr⟩ : ∃ r, l.length = a + 4 + r := ⟨l.length - a - 4, by omega⟩
    have h0 : err a (l.length - a) b0 b1 b2 b3 = err a r b0 b1 b2 b3 ++ zer 4 := by
      rw [err, err, List.append_assoc (zer a ++ [b0, b1, b2, b3])]
      congr 1
      rw [zer, zer, zer, List.replicate_append_replicate]
      congr 1
      omega
    have hl : l.length = (err a r b0 b1 b2 b3).length := by rw [err_length, hr]
    have h1 : xors (sealB l) (err a (l.length - a) b0 b1 b2 b3) = xors l (err a r b0 b1 b2 b3) ++ tailB (sumI l) := by
      rw [h0, sealB, xors_append _ _ _ _ hl, xors_zer _ 4 (tailB_length _)]
    have h2 : (xors l (err a r b0 b1 b2 b3)).length = l.length := xors_length _ _ hl
    rw [h1, ← h2, List.drop_left, List.take_left]
    intro h
    have h3 := tailB_inj (sumI_bd _) (sumI_bd _) h
    exact hne (reg_err a r _ _ _ _ (sumI_turned l _ hl h3.symm))

/-- The sums of three texts, and of what they turn into one another. -/
theorem turns (a b c : List UInt8) (hb : b.length = a.length) (hc : c.length = a.length) :
    crc a ^^^ crc b ^^^ crc c ^^^ crc (xors a (xors b c)) = 0 := by
  have h1 := reg_xor b c (by omega) ones ones
  have h2 := reg_xor a (xors b c) (by rw [xors_length _ _ (by omega)]; omega) ones (ones ^^^ ones)
  have e : ones ^^^ (ones ^^^ ones) = ones := by decide
  rw [e, h1] at h2
  unfold crc
  rw [h2]
  generalize reg ones a = x
  generalize reg ones b = y
  generalize reg ones c = z
  have hn : ∀ u : R, ~~~ u = u ^^^ ones := fun u => by
    rw [ones, BitVec.xor_allOnes]
  rw [hn, hn, hn, hn]
  have : x ^^^ ones ^^^ (y ^^^ ones) ^^^ (z ^^^ ones) ^^^ (x ^^^ (y ^^^ z) ^^^ ones) = (x ^^^ x) ^^^ (y ^^^ y) ^^^ (z ^^^ z) ^^^ (ones ^^^ ones) ^^^ (ones ^^^ ones) := by ac_rfl
  rw [this]
  simp only [BitVec.xor_self]
  rfl

end Go.Proofs.Ytpeofjlecgenbaa

/- A block known whole: reading it and writing it by value, whatever its cells; a relation of worlds in which one old block alone has turned. -/
namespace Go.RowKit
theorem Below.putRow {B g : Nat} {w0 w : World} (hb : Below B w0 w) (hB : B ≤ g) (cs : Array Value) : Below B w0 (w.setRow g cs) :=
  hb.trans ⟨rfl, rfl, rfl, by simp, fun k hk => setRow_other w g k cs (by omega)⟩
end Go.RowKit
namespace Go.Proofs.Ytpeofjlecgenbaa
open Go.RowKit

/-! A block that holds just these values, and may be written. -/
def Row (w : World) (g : Nat) (t : TypeId) (l : List Value) : Prop := w.heap[g]? = some (.cells l.toArray t (0, 0))
theorem Row.lt {w : World} {g : Nat} {t : TypeId} {l : List Value} (h : Row w g t l) : g < w.heap.size := (Array.getElem?_eq_some_iff.1 h).1
theorem Row.cell {w : World} {g : Nat} {t : TypeId} {l : List Value} (h : Row w g t l) (j : Nat) : w.cell? ⟨g, j, none⟩ = l[j]? := by
  rw [cell_of_row w g j l.toArray t (0, 0) h]
  simp
theorem Row.frozen {w : World} {g : Nat} {t : TypeId} {l : List Value} (h : Row w g t l) (j : Nat) : w.frozen? ⟨g, j, none⟩ = false := frozen_of_row w g j _ t h
theorem Row.new (w : World) (t : TypeId) (l : List Value) : Row (w.alloc (.cells l.toArray t)) w.heap.size t l := heap_alloc_new w _
theorem Row.alloc {w : World} {g : Nat} {t : TypeId} {l : List Value} (h : Row w g t l) (o : Obj) : Row (w.alloc o) g t l := (Below.heap_alloc w o g h.lt).trans h
theorem Row.drew {w : World} {g : Nat} {t : TypeId} {l : List Value} (h : Row w g t l) : Row w.drew g t l := h
theorem Row.drewN {w : World} {g : Nat} {t : TypeId} {l : List Value} (h : Row w g t l) (n : Nat) : Row (w.drewN n) g t l := h
theorem Row.set {w : World} {g : Nat} {t : TypeId} {l : List Value} (h : Row w g t l) (j : Nat) (v : Value) : Row (w.setCell ⟨g, j, none⟩ v) g t (l.set j v) := by
  unfold Row
  rw [heap_setCell_same w g j _ t v h]
  simp
theorem Row.far {w : World} {g : Nat} {t : TypeId} {l : List Value} (h : Row w g t l) (p : Addr) (v : Value) (hp : g ≠ p.block) : Row (w.setCell p v) g t l := (heap_setCell_other w p g v hp).trans h
theorem Row.below {w w' : World} {B g : Nat} {t : TypeId} {l : List Value} (h : Row w g t l) (hb : Below B w w') (hg : g < B) : Row w' g t l := (hb.block g hg).trans h
theorem Row.step {w w' : World} {g : Nat} {t : TypeId} {l : List Value} (h : Row w g t l) (hb : Below w.heap.size w w') : Row w' g t l := h.below hb h.lt


section
variable {P : Program}
/-- The whole block, by value. -/
theorem Row.load {w : World} {g : Nat} {t : TypeId} {l : List Value} (h : Row w g t l) (ty : TypeId) (d : TypeDesc) (hu : P.underlying ty = some d) (hd : d.isRow = true) (hi : (P.info? ty).map (·.size) = some l.length) :
    (Instr.loadAt ty (.pointer (some ⟨g, 0, none⟩))).run P w = .ok (.agg l.toArray) w := by
  have := run_loadVar_row (P := P) w g t ty l.toArray (0, 0) d h hu (by cases d <;> simp_all) (by simpa using hi)
  simp only [Instr.loadAt, Instr.sureAddr, Sem.run_bind, Sem.run_pure, Result.andThen_ok, this]
/-- A value over the whole block. -/
theorem Row.store {w : World} {g : Nat} {t : TypeId} {l : List Value} (h : Row w g t l) (ty : TypeId) (m : List Value) (hi : (P.info? ty).map (·.size) = some m.length) (hl : l.length = m.length) (h1 : m.all (·.oneCell') = true) :
    (Instr.storeAt ty (.pointer (some ⟨g, 0, none⟩)) (.agg m.toArray)).run P w = .ok () (w.setRow g m.toArray) := by
  have := run_storeVar_row (P := P) w g t ty l.toArray m.toArray h (by simpa using hi) (by simpa using hl) (by simpa using h1)
  simp only [Instr.storeAt, Instr.sureAddr, Sem.run_bind, Sem.run_pure, Result.andThen_ok, this]
/-- The two at the walk's list of operations: 'go_wp2_with (first | refine HR.out.wpLoad TY _ A.underlyingTY rfl HI.out _ rfl rfl rfl ?_ | ..)'. -/
theorem Row.wpLoad {ops : Array Oper} {rest : List Oper} {o : Oper} {a : Act} {w : World} {Q : Exit → Act → World → Prop} {g : Nat} {t : TypeId} {l : List Value} (h : Row w g t l) (ty : TypeId) (d : TypeDesc) (hu : P.underlying ty = some d) (hd : d.isRow = true)
    (hi : (P.info? ty).map (·.size) = some l.length) (x : Operand) (hgd : o.guard = none) (ho : o.op = .load ty x) (hx : a.eval x = .pointer (some ⟨g, 0, none⟩)) (k : wpList P ops Q rest (a.put o.dst (.agg l.toArray)) w) : wpList P ops Q (o :: rest) a w :=
  wpList_load_row hgd ty x ho g hx t l.toArray (0, 0) d h hu (by cases d <;> simp_all) (by simpa using hi) k
theorem Row.wpStore {ops : Array Oper} {rest : List Oper} {o : Oper} {a : Act} {w : World} {Q : Exit → Act → World → Prop} {g : Nat} {t : TypeId} {l : List Value} (h : Row w g t l) (ty : TypeId) (m : List Value)
    (hi : (P.info? ty).map (·.size) = some m.length) (hl : l.length = m.length) (h1 : m.all (·.oneCell') = true) (x y : Operand) (hgd : o.guard = none) (ho : o.op = .store ty x y) (hx : a.eval x = .pointer (some ⟨g, 0, none⟩)) (hy : a.eval y = .agg m.toArray)
    (k : wpList P ops Q rest (a.put o.dst undef) (w.setRow g m.toArray)) : wpList P ops Q (o :: rest) a w :=
  wpList_store_row hgd ty x y ho g m.toArray hx hy t l.toArray h (by simpa using hi) (by simpa using hl) (by simpa using h1) k
/-- A result that lies in a block. -/
theorem Row.result {w : World} {g : Nat} {t : TypeId} {l : List Value} (h : Row w g t l) {fn : Func} {p : Tmp} {ty : TypeId} (hf : fn.results = #[.cell p ty]) (tmps : Array Value) (d : TypeDesc)
    (hp : tmps.getD p undef = .pointer (some ⟨g, 0, none⟩)) (hu : P.underlying ty = some d) (hd : d.isRow = true) (hi : (P.info? ty).map (·.size) = some l.length) :
    (results fn tmps).run P w = .ok (.agg l.toArray) w :=
  results_cell_row hf tmps w g t l.toArray (0, 0) d hp h hu (by cases d <;> simp_all) (by simpa using hi)
end
theorem Row.put {w : World} {g : Nat} {t : TypeId} {l : List Value} (h : Row w g t l) (m : List Value) : Row (w.setRow g m.toArray) g t m := setRow_heap w g _ _ t _ h
theorem Row.putFar {w : World} {g : Nat} {t : TypeId} {l : List Value} (h : Row w g t l) (k : Nat) (cs : Array Value) (hne : g ≠ k) : Row (w.setRow k cs) g t l := (setRow_other w k g cs hne).trans h
/-- Of what was there block g alone may have turned. -/
def Only (g : Nat) (w w' : World) : Prop := w'.os = w.os ∧ w'.tape = w.tape ∧ w'.output = w.output ∧ w.heap.size ≤ w'.heap.size ∧ ∀ k, k < w.heap.size → k ≠ g → w'.heap[k]? = w.heap[k]?
theorem Only.refl (g : Nat) (w : World) : Only g w w := ⟨rfl, rfl, rfl, Nat.le_refl _, fun _ _ _ => rfl⟩
theorem Only.size {g : Nat} {w w' : World} (h : Only g w w') : w.heap.size ≤ w'.heap.size := h.2.2.2.1
theorem Only.trans {g : Nat} {a b c : World} (h : Only g a b) (k : Only g b c) : Only g a c :=
  ⟨k.1.trans h.1, k.2.1.trans h.2.1, k.2.2.1.trans h.2.2.1, Nat.le_trans h.size k.size, fun i hi hne => (k.2.2.2.2 i (Nat.lt_of_lt_of_le hi h.size) hne).trans (h.2.2.2.2 i hi hne)⟩
theorem Only.of_below {g : Nat} {w w' : World} (h : Below w.heap.size w w') : Only g w w' := ⟨h.os, h.tape, h.output, h.size, fun k hk _ => h.block k hk⟩
theorem Only.step {g : Nat} {a b c : World} (h : Only g a b) (k : Below b.heap.size b c) : Only g a c := h.trans (Only.of_below k)
theorem Only.drew {g : Nat} {a b : World} (h : Only g a b) : Only g a b.drew := h
theorem Only.drewN {g : Nat} {a b : World} (h : Only g a b) (n : Nat) : Only g a (b.drewN n) := h.trans ⟨rfl, rfl, rfl, Nat.le_refl _, fun _ _ _ => rfl⟩
theorem Only.alloc {g : Nat} {a b : World} (h : Only g a b) (o : Obj) : Only g a (b.alloc o) := h.step ((Below.refl _ _).alloc (Nat.le_refl _) _)
theorem Only.setCell {g : Nat} {a b : World} (h : Only g a b) (p : Addr) (v : Value) (hp : p.block = g ∨ a.heap.size ≤ p.block) : Only g a (b.setCell p v) :=
  ⟨h.1, h.2.1, h.2.2.1, Nat.le_trans h.size (by simp [World.setCell]), fun k hk hne => (Below.heap_setCell _ _ _ _ (by rcases hp with hp | hp <;> omega)).trans (h.2.2.2.2 k hk hne)⟩
theorem Only.putRow {g : Nat} {a b : World} (h : Only g a b) (k : Nat) (cs : Array Value) (hk : k = g ∨ a.heap.size ≤ k) : Only g a (b.setRow k cs) :=
  ⟨h.1, h.2.1, h.2.2.1, Nat.le_trans h.size (by simp), fun i hi hne => (setRow_other _ _ _ _ (by rcases hk with hk | hk <;> omega)).trans (h.2.2.2.2 i hi hne)⟩
/-- Of a block that is new there nothing old has turned. -/
theorem Only.below {g B : Nat} {w w' : World} (h : Only g w w') (hg : B ≤ g) (hB : B ≤ w.heap.size) : Below B w w' := ⟨h.1, h.2.1, h.2.2.1, h.size, fun k hk => h.2.2.2.2 k (by omega) (by omega)⟩
theorem Row.only {w w' : World} {g k : Nat} {t : TypeId} {l : List Value} (h : Row w g t l) (ho : Only k w w') (hne : g ≠ k) : Row w' g t l := (ho.2.2.2.2 g h.lt hne).trans h
theorem Lies.only {w w' : World} {B g : Nat} {a : Option Addr} {xs : List Value} (h : Lies w B a xs) (ho : Only g w w') (hB : B ≤ w.heap.size) (hg : B ≤ g) : Lies w' B a xs :=
  h.below (ho.below hg hB)


/-! A part of a block, by value. -/
theorem Row.mid {w : World} {g : Nat} {t : TypeId} {x y z : List Value} (h : Row w g t (x ++ y ++ z)) (o : Nat) (ho : x.length = o) : w.rangeAt g o y := by
  intro j v hv
  have hj : j < y.length := (List.getElem?_eq_some_iff.1 hv).1
  rw [h.cell, ← ho, List.append_assoc, List.getElem?_append_right (by omega), Nat.add_sub_cancel_left, List.getElem?_append_left hj, hv]
theorem Row.there {w : World} {g : Nat} {t : TypeId} {x y z : List Value} (h : Row w g t (x ++ y ++ z)) (o n : Nat) (ho : x.length = o) (hn : y.length = n) : w.there g o n := by
  intro j hj
  refine ⟨?_, h.frozen _⟩
  rw [h.cell, List.getElem?_eq_getElem (by simp; omega)]
  rfl
theorem Row.setCells {g : Nat} {t : TypeId} {z : List Value} : ∀ (vs : List Value) {w : World} {x y : List Value}, Row w g t (x ++ y ++ z) → y.length = vs.length → ∀ o, x.length = o → Row (w.setCells g o vs) g t (x ++ vs ++ z)
  | [], w, x, y, h, hy, o, _ => by
    have : y = [] := List.eq_nil_of_length_eq_zero hy
    subst this
    exact h
  | v :: r, w, x, y, h, hy, o, ho => by
    match y, hy with
    | u :: ys, hy =>
      have h1 := h.set o v
      have e : (x ++ u :: ys ++ z).set o v = (x ++ [v]) ++ ys ++ z := by
        rw [List.append_assoc, List.set_append_right _ _ (by omega), ← ho, Nat.sub_self]
        simp
      rw [e] at h1
      have h2 := Row.setCells r h1 (by simpa using hy) (o + 1) (by simp [ho])
      have e2 : x ++ [v] ++ r ++ z = x ++ v :: r ++ z := by simp
      rw [e2] at h2
      exact h2
theorem Only.setCells {g : Nat} : ∀ (vs : List Value) (o : Nat) {a b : World}, Only g a b → Only g a (b.setCells g o vs)
  | [], _, _, _, h => h
  | v :: r, o, _, _, h => Only.setCells r (o + 1) (h.setCell ⟨g, o, none⟩ v (Or.inl rfl))
theorem Row.farCells {g k : Nat} {t : TypeId} {l : List Value} : ∀ (vs : List Value) (o : Nat) {w : World}, Row w g t l → g ≠ k → Row (w.setCells k o vs) g t l
  | [], _, _, h, _ => h
  | v :: r, o, _, h, hne => Row.farCells r (o + 1) (h.far ⟨k, o, none⟩ v hne) hne
section
variable {P : Program}
theorem Row.wpLoadMid {ops : Array Oper} {rest : List Oper} {o : Oper} {a : Act} {w : World} {Q : Exit → Act → World → Prop} {g i : Nat} {t : TypeId} {x y z : List Value} (h : Row w g t (x ++ y ++ z)) (hx0 : x.length = i) (ty : TypeId) (d : TypeDesc) (hu : P.underlying ty = some d) (hd : d.isRow = true)
    (hi : (P.info? ty).map (·.size) = some y.length) (p : Operand) (hgd : o.guard = none) (ho : o.op = .load ty p) (hx : a.eval p = .pointer (some ⟨g, i, none⟩)) (k : wpList P ops Q rest (a.put o.dst (.agg y.toArray)) w) : wpList P ops Q (o :: rest) a w :=
  wpList_load_mid hgd ty p ho g i hx y d (h.mid i hx0) hu hd hi k
theorem Row.wpStoreMid {ops : Array Oper} {rest : List Oper} {o : Oper} {a : Act} {w : World} {Q : Exit → Act → World → Prop} {g i : Nat} {t : TypeId} {x y z : List Value} (h : Row w g t (x ++ y ++ z)) (hx0 : x.length = i) (ty : TypeId) (m : List Value) (hm : y.length = m.length)
    (hi : (P.info? ty).map (·.size) = some m.length) (h1 : m.all (·.oneCell') = true) (p q : Operand) (hgd : o.guard = none) (ho : o.op = .store ty p q) (hx : a.eval p = .pointer (some ⟨g, i, none⟩)) (hy : a.eval q = .agg m.toArray)
    (k : wpList P ops Q rest (a.put o.dst undef) (w.setCells g i m)) : wpList P ops Q (o :: rest) a w :=
  wpList_store_mid hgd ty p q ho g i m.toArray hx hy (by simpa using h.there i m.length hx0 hm) (by simpa using hi) (by simpa using h1) (by simpa using k)
end

section
variable {P : Program}
/-- A variable's zero value, its cells under a letter. -/
theorem wpAllocZero {ops : Array Oper} {rest : List Oper} {o : Oper} {a : Act} {w : World} {Q : Exit → Act → World → Prop} (Z : List Value) (ty : TypeId) (hz : ∀ u, (zeroValue ty).run P u = .ok (.agg Z.toArray) u) (hgd : o.guard = none) (ho : o.op = .alloc ty)
    (k : wpList P ops Q rest (a.put o.dst (.pointer (some ⟨w.heap.size, 0, none⟩))) (w.alloc (.cells Z.toArray ty))) : wpList P ops Q (o :: rest) a w :=
  wpList_plain hgd fun _ hK => by
    have h := hz w
    unfold Oper.wp execOp
    simp only [ho, Instr.alloc, Sem.run_bind, h, Result.andThen_ok, newVar, Value.cells]
    simp [go_sem]
    exact hK _ _ k
/-! The same with the world behind under a letter: what is known of it stands in the three facts that come with it. What the operation is stands in ONE closed premise ('rfl'). -/
def boxOf (o : Oper) (a : Act) : Option (TypeId × Value) := match o.guard, o.op with | none, .box ty x => some (ty, a.eval x) | _, _ => none
def allocOf (o : Oper) : Option TypeId := match o.guard, o.op with | none, .alloc ty => some ty | _, _ => none
def loadOf (o : Oper) (a : Act) : Option (TypeId × Value) := match o.guard, o.op with | none, .load ty x => some (ty, a.eval x) | _, _ => none
def storeOf (o : Oper) (a : Act) : Option (TypeId × Value × Value) := match o.guard, o.op with | none, .store ty x y => some (ty, a.eval x, a.eval y) | _, _ => none
theorem boxOf_spec {o : Oper} {a : Act} {ty : TypeId} {v : Value} (h : boxOf o a = some (ty, v)) : o.guard = none ∧ ∃ x, o.op = .box ty x ∧ a.eval x = v := by
  unfold boxOf at h
  split at h
  · rename_i x hg ho
    simp only [Option.some.injEq, Prod.mk.injEq] at h
    exact ⟨hg, _, by rw [ho, h.1], h.2⟩
  · cases h
theorem allocOf_spec {o : Oper} {ty : TypeId} (h : allocOf o = some ty) : o.guard = none ∧ o.op = .alloc ty := by
  unfold allocOf at h
  split at h
  · rename_i hg ho
    simp only [Option.some.injEq] at h
    exact ⟨hg, by rw [ho, h]⟩
  · cases h
theorem loadOf_spec {o : Oper} {a : Act} {ty : TypeId} {v : Value} (h : loadOf o a = some (ty, v)) : o.guard = none ∧ ∃ x, o.op = .load ty x ∧ a.eval x = v := by
  unfold loadOf at h
  split at h
  · rename_i x hg ho
    simp only [Option.some.injEq, Prod.mk.injEq] at h
    exact ⟨hg, _, by rw [ho, h.1], h.2⟩
  · cases h
theorem storeOf_spec {o : Oper} {a : Act} {ty : TypeId} {u v : Value} (h : storeOf o a = some (ty, u, v)) : o.guard = none ∧ ∃ x y, o.op = .store ty x y ∧ a.eval x = u ∧ a.eval y = v := by
  unfold storeOf at h
  split at h
  · rename_i x y hg ho
    simp only [Option.some.injEq, Prod.mk.injEq] at h
    exact ⟨hg, _, _, by rw [ho, h.1], h.2.1, h.2.2⟩
  · cases h

/-- What a type's value takes, out of one closed fact on its row of the table. -/
structure Fits (P : Program) (ty : TypeId) (n : Nat) : Prop where
  row : ∃ d, P.underlying ty = some d ∧ d.isRow = true
  size : (P.info? ty).map (·.size) = some n

theorem wpAllocK {ops : Array Oper} {rest : List Oper} {o : Oper} {a : Act} {w : World} {Q : Exit → Act → World → Prop} (Z : List Value) (ty : TypeId) (hz : ∀ u, (zeroValue ty).run P u = .ok (.agg Z.toArray) u) (ho : allocOf o = some ty)
    (k : ∀ w', Row w' w.heap.size ty Z → Below w.heap.size w w' → w'.heap.size = w.heap.size + 1 → wpList P ops Q rest (a.put o.dst (.pointer (some ⟨w.heap.size, 0, none⟩))) w') : wpList P ops Q (o :: rest) a w := by
  obtain ⟨hg, ho⟩ := allocOf_spec ho
  exact wpAllocZero Z ty hz hg ho (k _ (Row.new w ty Z) ((Below.refl _ _).alloc (Nat.le_refl _) _) (by simp))
theorem wpBoxK {ops : Array Oper} {rest : List Oper} {o : Oper} {a : Act} {w : World} {Q : Exit → Act → World → Prop} (l : List Value) (ty : TypeId) (hb : boxOf o a = some (ty, .agg l.toArray))
    (k : ∀ w', Row w' w.heap.size ty l → Below w.heap.size w w' → w'.heap.size = w.heap.size + 1 → wpList P ops Q rest (a.put o.dst (.pointer (some ⟨w.heap.size, 0, none⟩))) w') : wpList P ops Q (o :: rest) a w := by
  obtain ⟨hgd, x, ho, hx⟩ := boxOf_spec hb
  exact wpList_plain hgd fun _ hK => by
    unfold Oper.wp execOp
    simp only [ho, hx, Instr.box, newVar, Value.cells]
    simp [go_sem]
    exact hK _ _ (k _ (Row.new w ty l) ((Below.refl _ _).alloc (Nat.le_refl _) _) (by simp))
theorem Row.wpLoadK {ops : Array Oper} {rest : List Oper} {o : Oper} {a : Act} {w : World} {Q : Exit → Act → World → Prop} {g : Nat} {t : TypeId} {l : List Value} (h : Row w g t l) (ty : TypeId) {n : Nat} (hf : Fits P ty n) (hl : l.length = n)
    (ho : loadOf o a = some (ty, .pointer (some ⟨g, 0, none⟩))) (k : wpList P ops Q rest (a.put o.dst (.agg l.toArray)) w) : wpList P ops Q (o :: rest) a w := by
  obtain ⟨hg, x, ho, hx⟩ := loadOf_spec ho
  obtain ⟨d, hu, hd⟩ := hf.row
  exact h.wpLoad ty d hu hd (by rw [hl]; exact hf.size) x hg ho hx k
theorem Row.wpStoreK {ops : Array Oper} {rest : List Oper} {o : Oper} {a : Act} {w : World} {Q : Exit → Act → World → Prop} {g : Nat} {t : TypeId} {l : List Value} (h : Row w g t l) (ty : TypeId) (m : List Value) {n : Nat}
    (hf : Fits P ty n) (hl : l.length = n) (hm : m.length = n) (h1 : m.all (·.oneCell') = true) (ho : storeOf o a = some (ty, .pointer (some ⟨g, 0, none⟩), .agg m.toArray))
    (k : ∀ w', Row w' g t m → Only g w w' → w'.heap.size = w.heap.size → wpList P ops Q rest (a.put o.dst undef) w') : wpList P ops Q (o :: rest) a w := by
  obtain ⟨hg, x, y, ho, hx, hy⟩ := storeOf_spec ho
  exact h.wpStore ty m (by rw [hm]; exact hf.size) (by rw [hl, hm]) h1 x y hg ho hx hy (k _ (h.put m) ((Only.refl g w).putRow g _ (Or.inl rfl)) (by simp))
theorem World.size_setCells (g : Nat) : ∀ (vs : List Value) (o : Nat) (w : World), (w.setCells g o vs).heap.size = w.heap.size
  | [], _, _ => rfl
  | v :: r, o, w => by rw [World.setCells, World.size_setCells g r]; simp [World.setCell]
theorem Row.wpLoadMidK {ops : Array Oper} {rest : List Oper} {o : Oper} {a : Act} {w : World} {Q : Exit → Act → World → Prop} {g : Nat} {t : TypeId} {x y z : List Value} (h : Row w g t (x ++ y ++ z)) (i : Nat) (hx0 : x.length = i) (ty : TypeId) {n : Nat} (hf : Fits P ty n) (hy : y.length = n)
    (ho : loadOf o a = some (ty, .pointer (some ⟨g, i, none⟩))) (k : wpList P ops Q rest (a.put o.dst (.agg y.toArray)) w) : wpList P ops Q (o :: rest) a w := by
  obtain ⟨hg, p, ho, hp⟩ := loadOf_spec ho
  obtain ⟨d, hu, hd⟩ := hf.row
  exact h.wpLoadMid hx0 ty d hu hd (by rw [hy]; exact hf.size) p hg ho hp k
theorem Row.wpStoreMidK {ops : Array Oper} {rest : List Oper} {o : Oper} {a : Act} {w : World} {Q : Exit → Act → World → Prop} {g : Nat} {t : TypeId} {x y z : List Value} (h : Row w g t (x ++ y ++ z)) (i : Nat) (hx0 : x.length = i) (ty : TypeId) (m : List Value) {n : Nat} (hf : Fits P ty n) (hy : y.length = n) (hm : m.length = n)
    (h1 : m.all (·.oneCell') = true) (ho : storeOf o a = some (ty, .pointer (some ⟨g, i, none⟩), .agg m.toArray))
    (k : ∀ w', Row w' g t (x ++ m ++ z) → Only g w w' → w'.heap.size = w.heap.size → wpList P ops Q rest (a.put o.dst undef) w') : wpList P ops Q (o :: rest) a w := by
  obtain ⟨hg, p, q, ho, hp, hq⟩ := storeOf_spec ho
  exact h.wpStoreMid hx0 ty m (by rw [hy, hm]) (by rw [hm]; exact hf.size) h1 p q hg ho hp hq (k _ (Row.setCells m h (by rw [hy, hm]) i hx0) (Only.setCells m i (Only.refl g w)) (World.size_setCells _ _ _ _))
/-- A value of one cell into a block. -/
theorem Row.wpStore1K {ops : Array Oper} {rest : List Oper} {o : Oper} {a : Act} {w : World} {Q : Exit → Act → World → Prop} {g : Nat} {t : TypeId} {l : List Value} (h : Row w g t l) (i : Nat) (ty : TypeId) (v : Value) (hf : (P.info? ty).map (·.size) = some 1) (hi : i < l.length) (hv : v.cells = #[v])
    (h1 : v.oneCell' = true) (ho : storeOf o a = some (ty, .pointer (some ⟨g, i, none⟩), v))
    (k : ∀ w', Row w' g t (l.set i v) → Only g w w' → w'.heap.size = w.heap.size → wpList P ops Q rest (a.put o.dst undef) w') : wpList P ops Q (o :: rest) a w := by
  obtain ⟨hg, x, y, ho, hx, hy⟩ := storeOf_spec ho
  have hc : w.cell? ⟨g, i, none⟩ = some l[i] := by rw [h.cell, List.getElem?_eq_getElem hi]
  have hr := run_storeCells_cells (P := P) g i [v] 0 w (fun j hj => by
    have : j = 0 := by simpa using hj
    subst this
    simpa using by rw [hc]; rfl) (fun j _ => by simpa using h.frozen _) (fun u hu => by
    have : u = v := by simpa using hu
    rw [this]; exact h1)
  refine wpList_plain hg fun K hK => ?_
  cases hq : P.info? ty with
  | none => simp [hq] at hf
  | some ie =>
    have hs : ie.size = 1 := by simpa [hq] using hf
    unfold Oper.wp execOp
    simp only [ho, hx, hy, Instr.storeAt, Instr.sureAddr, Sem.run_bind, Sem.run_pure, Result.andThen_ok, storeVar, hv, sizeOf, typeInfo]
    simp only [Nat.add_zero, World.setCells] at hr
    simp [hq, hs, hr]
    exact hK _ _ (k _ (h.set i v) ((Only.refl g w).setCell ⟨g, i, none⟩ v (Or.inl rfl)) (by simp [World.setCell]))

/-- A load by value among the operations of a still region. -/
theorem Row.stillLoadMid {ops : Array Oper} {rest : List Oper} {o : Oper} {a : Act} {w : World} {Q : Act → Prop} {g : Nat} {t : TypeId} {x y z : List Value} (h : Row w g t (x ++ y ++ z)) (i : Nat) (hx0 : x.length = i) (ty : TypeId) {n : Nat} (hf : Fits P ty n) (hy : y.length = n)
    (ho : loadOf o a = some (ty, .pointer (some ⟨g, i, none⟩))) (k : wpStill P ops w Q rest (a.put o.dst (.agg y.toArray))) : wpStill P ops w Q (o :: rest) a := by
  obtain ⟨hg, p, ho, hp⟩ := loadOf_spec ho
  obtain ⟨d, hu, hd⟩ := hf.row
  have hw : Region.wanted o (yielded ops a.tmps) = true := by unfold Region.wanted; rw [hg]
  show (if Region.wanted o (yielded ops a.tmps) then o.still P a w (wpStill P ops w Q rest) else wpStill P ops w Q rest (a.put o.dst undef))
  rw [if_pos hw]
  unfold Oper.still execOp
  simp only [ho, hp, run_loadAt_mid w g i ty y d (h.mid i hx0) hu hd (by rw [hy]; exact hf.size), Sem.run_bind, Sem.run_pure, Result.andThen_ok, Oper.stillUpon]
  exact ⟨trivial, k⟩
theorem Row.stillLoad {ops : Array Oper} {rest : List Oper} {o : Oper} {a : Act} {w : World} {Q : Act → Prop} {g : Nat} {t : TypeId} {l : List Value} (h : Row w g t l) (ty : TypeId) {n : Nat} (hf : Fits P ty n) (hl : l.length = n)
    (ho : loadOf o a = some (ty, .pointer (some ⟨g, 0, none⟩))) (k : wpStill P ops w Q rest (a.put o.dst (.agg l.toArray))) : wpStill P ops w Q (o :: rest) a :=
  Row.stillLoadMid (x := []) (y := l) (z := []) (by simpa using h) 0 rfl ty hf hl ho k
/-- A struct's or an array's zero value, built. -/
def buildZ (o : Oper) : Option TypeId := match o.guard, o.op with | none, .build t parts => (if parts.size = 0 then some t else none) | _, _ => none
theorem wpBuildZeroK {ops : Array Oper} {rest : List Oper} {o : Oper} {a : Act} {w : World} {Q : Exit → Act → World → Prop} (l : List Value) (ty : TypeId) (hb : P.built ty [] = some l.toArray) (ho : buildZ o = some ty)
    (k : wpList P ops Q rest (a.put o.dst (.agg l.toArray)) w) : wpList P ops Q (o :: rest) a w := by
  unfold buildZ at ho
  split at ho
  · rename_i t ps hg hop
    split at ho
    · rename_i h0
      obtain rfl := Option.some.inj ho
      have e : ps = #[] := Array.eq_empty_of_size_eq_zero h0
      subst e
      have e2 : ((#[] : Array (Nat × Operand)).map fun (i, x) => (i, a.eval x)).toList = [] := by simp
      refine wpList_build hg t #[] hop (by rw [e2, hb]; rfl) ?_
      rw [e2, hb]
      exact k
    · cases ho
  · cases ho
/-- A load by value that is guarded, its guard decided. -/
def loadG (ops : Array Oper) (o : Oper) (a : Act) : Option (TypeId × Value) := if Region.wanted o (yielded ops a.tmps) then (match o.op with | .load ty x => some (ty, a.eval x) | _ => none) else none
theorem Row.wpLoadG {ops : Array Oper} {rest : List Oper} {o : Oper} {a : Act} {w : World} {Q : Exit → Act → World → Prop} {g : Nat} {t : TypeId} {l : List Value} (h : Row w g t l) (ty : TypeId) {n : Nat} (hf : Fits P ty n) (hl : l.length = n)
    (ho : loadG ops o a = some (ty, .pointer (some ⟨g, 0, none⟩))) (k : wpList P ops Q rest (a.put o.dst (.agg l.toArray)) w) : wpList P ops Q (o :: rest) a w := by
  unfold loadG at ho
  split at ho
  · rename_i hw
    split at ho
    · rename_i ty' x hop
      simp only [Option.some.injEq, Prod.mk.injEq] at ho
      obtain ⟨rfl, hx⟩ := ho
      obtain ⟨d, hu, hd⟩ := hf.row
      refine wpList_step fun K hK => ?_
      rw [if_pos hw]
      exact wp_load_row ty' x hop g hx t l.toArray (0, 0) d h hu (by cases d <;> simp_all) (by simpa [hl] using hf.size) (hK _ _ k)
    · cases ho
  · cases ho
end

end Go.Proofs.Ytpeofjlecgenbaa

/- The contract of num.Take. -/
namespace Go.Proofs.Ytpeofjlecgenbaa
open Go.RowKit NumMath
set_option maxRecDepth 100000

/-- How many bytes the sizes are in all; 0 where one may not be. -/
def nsum (l : List Int) : Int := l.foldl (· + ·) 0

def nallOk (l : List Int) : Bool := l.all okB

theorem nsum_snoc (l : List Int) (s : Int) : nsum (l ++ [s]) = nsum l + s := by simp [nsum]

theorem nsum_bd (l : List Int) (h : nallOk l = true) : 0 ≤ nsum l ∧ nsum l ≤ 7 * l.length := by
  induction l using snoc_ind with
  | h0 => simp [nsum]
  | h1 l s ih =>
    simp only [nallOk, List.all_append, List.all_cons, List.all_nil, Bool.and_true, Bool.and_eq_true] at h
    have := ih h.1
    have h2 : 1 ≤ s ∧ s ≤ 7 := by simpa [okB] using h.2
    rw [nsum_snoc, List.length_append, List.length_singleton]
    omega

theorem nallOk_snoc (l : List Int) (s : Int) : nallOk (l ++ [s]) = (nallOk l && okB s) := by simp [nallOk]

theorem nallOk_take {l : List Int} (k : Nat) (h : nallOk l = true) : nallOk (l.take k) = true := by
  unfold nallOk at *
  rw [List.all_eq_true] at *
  intro x hx
  exact h x (List.mem_of_mem_take hx)

def ntot (l : List Int) : Int := if nallOk l then nsum l else 0

theorem tot_yes {l : List Int} (h : nallOk l = true) : ntot l = nsum l := by simp [ntot, h]

theorem tot_no {l : List Int} (h : nallOk l = false) : ntot l = 0 := by simp [ntot, h]

theorem num_ret_total {l : List Int} {a : Int} {b : Bool} (h1 : a = ntot l) (h2 : b = nallOk l) : Ending.returned (.tuple #[.int .i64 a, .bool b]) = .returned (.tuple #[.int .i64 (ntot l), .bool (nallOk l)]) := by rw [h1, h2]

theorem num_total_any (a : Option Addr) (cap : Nat) (l : List Int) (w : World) (hl : l.length ≤ 1152921504606846976) (hr : Lies w w.heap.size a (ints l)) :
    Calls Try.prog 49 #[.slice a l.length cap] w fun e w' =>
      e = .returned (.tuple #[.int .i64 (ntot l), .bool (nallOk l)]) ∧ w = w' := by
  go_enter Try.func49, Try.ntmps49
  go_wp2
  go_loop [4, 9] (fun t i => ∃ k : Nat, k ≤ l.length ∧ i = .int .i64 k ∧ nallOk (l.take k) = true ∧ t = .int .i64 (nsum (l.take k))) (fun _ i => l.length - (intOf i).toNat)
  case atStart => exact ⟨0, Nat.zero_le _, rfl, rfl, rfl⟩
  case round =>
    obtain ⟨k, hk, rfl, hall, rfl⟩ := hrel
    have hbd := nsum_bd (l.take k) hall
    have hlen : (l.take k).length ≤ k := List.length_take_le _ _
    by_cases hlt : k < l.length
    · obtain ⟨b, off, rfl, hbb, hc⟩ := hr (by rw [ints_length]; omega)
      have hcell : w.cell? ⟨b, off + k, none⟩ = some (.int .i64 l[k]) := hc k _ (ints_get l k hlt)
      clear hc hr
      have HA := Lib.hid hall
      clear hall
      have HT := Lib.hid (take_snoc l k hlt)
      have HN : Hid (okB l[k] = false → nallOk l = false) := Lib.hid fun hn => by
        cases hh : nallOk l with
        | false => rfl
        | true =>
          have := nallOk_take (k + 1) hh
          rw [HT.out, nallOk_snoc, hn, Bool.and_false] at this
          cases this
      by_cases hok : okB l[k] = true
      · have hb2 : 1 ≤ l[k] ∧ l[k] ≤ 7 := by simpa [okB] using hok
        go_wp2_with (go_at_call 60; refine (num_right_any _ _).mono ?_; rintro e w' ⟨rfl, rfl⟩)
        go_round
        case rel => exact ⟨k + 1, by omega, by go_num, by rw [HT.out, nallOk_snoc, HA.out, hok]; rfl, by rw [HT.out, nsum_snoc]⟩
        case measure => simp [intOf]; omega
      · have hno : okB l[k] = false := by simpa using hok
        clear hok
        go_wp2_with (go_at_call 60; refine (num_right_any _ _).mono ?_; rintro e w' ⟨rfl, rfl⟩)
        go_ret2
        have h2 := HN.out hno
        exact ⟨num_ret_total (tot_no h2).symm h2.symm, rfl⟩
    · have HE : Hid (l.take k = l) := Lib.hid (List.take_of_length_le (by omega))
      have HA := Lib.hid hall
      clear hall
      go_wp2
      go_ret2
      have h1 := HA.out
      rw [HE.out] at h1
      exact ⟨num_ret_total (by rw [HE.out, tot_yes h1]) h1.symm, rfl⟩

theorem num_val_step (l : List UInt8) (b : UInt8) (h : l.length ≤ 6) :
    bits .or .i64 (wrap64 ((val l : Int) * 256)) (wrap64 (b.toNat : Int)) = (val (l ++ [b]) : Int) := by
  have hv := val_lt l
  have hb : b.toNat < 256 := b.toNat_lt
  have hp : 256 ^ l.length ≤ 256 ^ 6 := Nat.pow_le_pow_right (by omega) h
  have hn : (256 : Nat) ^ 6 = 281474976710656 := rfl
  rw [IntWalk.wrap64_in _ ⟨by omega, by omega⟩, IntWalk.wrap64_in _ ⟨by omega, by omega⟩]
  have e : (val l : Int) * 256 = ((2 ^ 8 * val l : Nat) : Int) := by omega
  rw [e, or_i64 _ _ (by omega) (by omega), ← Nat.two_pow_add_eq_or_of_lt (by omega), val_snoc]

theorem num_number_any (s : ByteArray) (w : World) (hs : s.size ≤ 7) :
    Calls Try.prog 50 #[.string s] w fun e w' => e = .returned (.int .i64 (val s.data.toList)) ∧ w = w' := by
  go_enter Try.func50, Try.ntmps50
  go_wp2
  go_loop [3, 7] (fun t i => ∃ k : Nat, k ≤ s.size ∧ i = .int .i64 k ∧ t = .int .i64 (val (s.data.toList.take k))) (fun _ i => s.size - (intOf i).toNat)
  case atStart => exact ⟨0, Nat.zero_le _, rfl, rfl⟩
  case round =>
    obtain ⟨k, hk, rfl, rfl⟩ := hrel
    by_cases hlt : k < s.size
    · have HS : Hid (_ = _) := Lib.hid (num_val_step (s.data.toList.take k) s[k] (by rw [List.length_take]; omega))
      have HT := Lib.hid (bytes_take s k hlt)
      go_wp2
      go_round
      case rel => exact ⟨k + 1, by omega, by go_num, by rw [HS.out, HT.out]⟩
      case measure => simp [intOf]; omega
    · have HE : Hid (s.data.toList.take k = s.data.toList) := Lib.hid (List.take_of_length_le (by simp; omega))
      go_wp2
      go_ret
      exact ⟨ret_int (by rw [HE.out]), rfl⟩

/-- The numbers of these sizes that stand there. -/
def nnums : List UInt8 → List Int → List Int
  | _, [] => []
  | L, s :: r => (val (L.take s.toNat) : Int) :: nnums (L.drop s.toNat) r

theorem nnums_length (L : List UInt8) (l : List Int) : (nnums L l).length = l.length := by
  induction l generalizing L with
  | nil => rfl
  | cons s r ih => simp [nnums, ih]

/-- How many bytes the sizes are. -/
def nwidth (l : List Int) : Nat := l.foldr (fun s n => s.toNat + n) 0

theorem nwidth_snoc (l : List Int) (s : Int) : nwidth (l ++ [s]) = nwidth l + s.toNat := by
  induction l with
  | nil => simp [nwidth]
  | cons x l ih =>
    have e : nwidth (x :: (l ++ [s])) = x.toNat + nwidth (l ++ [s]) := rfl
    have e2 : nwidth (x :: l) = x.toNat + nwidth l := rfl
    rw [List.cons_append, e, ih, e2]
    omega

theorem nnums_snoc (L : List UInt8) (l : List Int) (s : Int) : nnums L (l ++ [s]) = nnums L l ++ [(val ((L.drop (nwidth l)).take s.toNat) : Int)] := by
  induction l generalizing L with
  | nil => simp [nnums, nwidth]
  | cons x l ih =>
    have e2 : nwidth (x :: l) = x.toNat + nwidth l := rfl
    rw [List.cons_append, nnums, ih, nnums, List.cons_append, e2, List.drop_drop]

theorem nsum_width (l : List Int) (h : nallOk l = true) : nsum l = nwidth l := by
  induction l using snoc_ind with
  | h0 => rfl
  | h1 l s ih =>
    simp only [nallOk, List.all_append, List.all_cons, List.all_nil, Bool.and_true, Bool.and_eq_true] at h
    have h2 : 1 ≤ s ∧ s ≤ 7 := by simpa [okB] using h.2
    rw [nsum_snoc, nwidth_snoc, ih h.1]
    omega

theorem nwidth_take_le (l : List Int) (k : Nat) : nwidth (l.take k) ≤ nwidth l := by
  induction l generalizing k with
  | nil => simp
  | cons x l ih =>
    cases k with
    | zero => simp [nwidth]
    | succ k =>
      have e2 : nwidth (x :: l) = x.toNat + nwidth l := rfl
      have e3 : nwidth (x :: l.take k) = x.toNat + nwidth (l.take k) := rfl
      have := ih k
      rw [List.take_succ_cons, e2, e3]
      omega

/-- num.Take's answer: the numbers, and the error's number. -/
def takeR (L : List UInt8) (l : List Int) : List Int × Int :=
  if nallOk l then if L.length < nwidth l then ([], 13) else (nnums L l, 0) else ([], 1)

theorem takeR_arg {L : List UInt8} {l : List Int} (h : nallOk l = false) : takeR L l = ([], 1) := by simp [takeR, h]

theorem takeR_short {L : List UInt8} {l : List Int} (h : nallOk l = true) (h2 : L.length < nwidth l) : takeR L l = ([], 13) := by simp [takeR, h, h2]

theorem takeR_ok {L : List UInt8} {l : List Int} (h : nallOk l = true) (h2 : nwidth l ≤ L.length) : takeR L l = (nnums L l, 0) := by simp [takeR, h, Nat.not_lt.2 h2]

def NTakes (L : List UInt8) (l : List Int) (w : World) (e : Ending) (w' : World) : Prop :=
  ∃ v, e = .returned (.tuple #[v, .int .i64 (takeR L l).2]) ∧ w'.ownsRow w.heap.size 3 1 v (takeR L l).1.length (ints (takeR L l).1) ∧ Below w.heap.size w w'

theorem num_drop_extract (t : ByteArray) (n : Nat) : (t.extract n t.size).data.toList = t.data.toList.drop n := by
  rw [Lib.extract_data]
  exact List.take_of_length_le (by rw [List.length_drop]; simp)

theorem num_take_extract (t : ByteArray) (n : Nat) : (t.extract 0 n).data.toList = t.data.toList.take n := by
  rw [Lib.extract_data]; simp

theorem num_take_any (s : ByteArray) (a : Option Addr) (cap : Nat) (l : List Int) (w : World) (hl : l.length ≤ 100000) (_hs : s.size ≤ 140737488355328) (hr : Lies w w.heap.size a (ints l)) :
    Calls Try.prog 28 #[.string s, .slice a l.length cap] w (NTakes s.data.toList l w) := by
  by_cases hok : nallOk l = true
  · have hT := nsum_bd l hok
    have hW := nsum_width l hok
    obtain ⟨p, hp⟩ : ∃ p, p = nwidth l := ⟨_, rfl⟩
    have ht : ntot l = (p : Int) := by rw [tot_yes hok, hW, hp]
    have hpb : p ≤ 700000 := by rw [hp]; omega
    have HW := Lib.hid hW
    have HP := Lib.hid hp
    clear hW hp hT
    obtain ⟨i0, hi, hz0, hz1, hz2⟩ := info_parts info_int
    by_cases hshort : s.size < p
    · go_enter Try.func28, Try.ntmps28
      go_wp2_with (go_at_call 49; refine (num_total_any _ _ _ _ (by omega) hr).mono ?_; rintro e w' ⟨rfl, rfl⟩)
      go_ret2
      have h2 := takeR_short (L := s.data.toList) hok (by rw [← HP.out]; simpa using hshort)
      exact ⟨_, by rw [h2]; rfl, by rw [h2]; exact World.ownsRow_nil _ _ _ _, Below.refl _ _⟩
    · go_enter Try.func28, Try.ntmps28
      go_wp2_with (first | (go_at_call 49; refine (num_total_any _ _ _ _ (by omega) hr).mono ?_; rintro e w' ⟨rfl, rfl⟩) | (at_make; refine wpList_make_own _ rfl (.const (.int .i64 0)) (.tmp 23) 69 rfl w.heap.size 3 i0 (.int .i64 0) 1 Try.underlying69 hi hz0 hz1 _ _ _ l.length rfl rfl rfl ?b2 ?b3 (Nat.le_refl _) ?_))
      case b2 => rw [hz2]; omega
      case b3 => unfold maxLen; omega
      intro w0 hown0 hg0
      go_wp2
      have hb0 : Below w.heap.size w w0 := (Below.refl _ _).grown hg0 (Nat.le_refl _) (fun k h => by cases h)
      clear hg0
      go_loopw [0, 8, 27] (fun t v i wr => ∃ (k : Nat) (T : ByteArray), k ≤ l.length ∧ i = .int .i64 k ∧ t = .string T ∧ T.data.toList = s.data.toList.drop (nwidth (l.take k)) ∧ v = .slice (some ⟨w.heap.size, 0, none⟩) k l.length ∧
          wr.ownsRow w.heap.size 3 1 (.slice (some ⟨w.heap.size, 0, none⟩) k l.length) k (ints (nnums s.data.toList (l.take k))) ∧ Below w.heap.size w wr)
        (fun _ _ i _ => l.length - (intOf i).toNat)
      case atStart => exact ⟨0, s, Nat.zero_le _, rfl, rfl, by simp [nwidth], rfl, by simpa [ints, nnums] using hown0, hb0⟩
      case round =>
        obtain ⟨k, T, hk, rfl, rfl, hT, rfl, hownr, hbw⟩ := hrel
        by_cases hlt : k < l.length
        · obtain ⟨b, off, rfl, hbb, hc⟩ := hr (by rw [ints_length]; omega)
          have hcell0 : wr.cell? ⟨b, off + k, none⟩ = some (.int .i64 l[k]) := (hbw.cell (p := ⟨b, off + k, none⟩) hbb).trans (hc k _ (ints_get l k hlt))
          have HT := Lib.hid (take_snoc l k hlt)
          have hok1 : 1 ≤ l[k] ∧ l[k] ≤ 7 := by
            have := nallOk_take (k + 1) hok
            rw [HT.out, nallOk_snoc, Bool.and_eq_true] at this
            simpa [okB] using this.2
          obtain ⟨m, hm⟩ : ∃ m : Nat, l[k] = (m : Int) := ⟨l[k].toNat, by omega⟩
          have hm1 : 1 ≤ m := by omega
          have hm7 : m ≤ 7 := by omega
          rw [hm] at hcell0
          have hwk : nwidth (l.take (k + 1)) = nwidth (l.take k) + m := by rw [HT.out, nwidth_snoc, hm]; rfl
          have hsz : T.size = s.size - nwidth (l.take k) := by
            have := congrArg List.length hT
            simpa using this
          have hroom : m ≤ T.size := by
            have h1 := nwidth_take_le l (k + 1)
            have h2 := HP.out
            omega
          have HM := Lib.hid hm
          have HZ := Lib.hid hsz
          have HWK := Lib.hid hwk
          have HTT := Lib.hid hT
          have hss : (T.extract 0 m).size ≤ 7 := by
            have := congrArg List.length (num_take_extract T m)
            rw [List.length_take] at this
            have e : (T.extract 0 m).data.toList.length = (T.extract 0 m).size := by simp
            omega
          clear hc hr hown0 hb0 hok1 hm hwk hsz hT ht
          have HOK := Lib.hid hok
          clear hok
          go_wp2_with (first | (go_at_call 50; refine (num_number_any _ _ hss).mono ?_; rintro e w' ⟨rfl, rfl⟩) | (at_builtin; refine wpList_append_fits _ rfl (.tmp 31) (.tmp 36) 69 rfl w.heap.size 3 i0 1 Try.underlying69 hi hz1 w.heap.size k l.length _ rfl (hownr.alloc _) ⟨wr.heap.size, 0, none⟩ 1 1 [.int .i64 ((val (T.extract 0 m).data.toList : Nat) : Int)] rfl rfl ?c1 ?c2 (by omega) ?_))
          case c1 =>
            intro j u hj
            match j, hj with
            | 0, hj =>
              simp at hj
              subst hj
              simp [Addr.add]
          case c2 => intro u hu; simp at hu; subst hu; rfl
          intro w1 hown1 hg1
          have hb1 : Below w.heap.size w w1 := (hbw.alloc hbw.size _).grown hg1 (by have := hbw.size; simp; omega) (fun j hj => by cases hj; exact Nat.le_refl _)
          clear hg1
          go_wp2
          go_roundw
          case rel =>
            refine ⟨k + 1, T.extract m T.size, by omega, by go_num, rfl, ?_, rfl, ?_, hb1⟩
            · rw [num_drop_extract, HTT.out, List.drop_drop, HWK.out]
            · rw [HT.out, nnums_snoc, ints_append, HM.out, ← HTT.out, Int.toNat_natCast]
              exact hown1
          case measure => simp [intOf]; omega
        · have HE : Hid (l.take k = l) := Lib.hid (List.take_of_length_le (by omega))
          have HTT := Lib.hid hT
          have HOK := Lib.hid hok
          clear hT hok
          go_wp2
          go_ret2
          have h2 := takeR_ok (L := s.data.toList) HOK.out (by rw [← HP.out]; simp; omega)
          have ek : k = l.length := by omega
          subst ek
          rw [HE.out] at hownr
          exact ⟨_, by rw [h2]; rfl, by rw [h2]; rw [nnums_length]; exact hownr, hbw⟩
  · have hno : nallOk l = false := by simpa using hok
    clear hok
    go_enter Try.func28, Try.ntmps28
    go_wp2_with (go_at_call 49; refine (num_total_any _ _ _ _ (by omega) hr).mono ?_; rintro e w' ⟨rfl, rfl⟩)
    go_ret2
    have h2 := takeR_arg (L := s.data.toList) hno
    exact ⟨_, by rw [h2]; rfl, by rw [h2]; exact World.ownsRow_nil _ _ _ _, Below.refl _ _⟩

/-- A slice that the call made: the numbers r, handed num_back with the error's number c. -/
def NMade (r : List Int) (c : Int) (w : World) (e : Ending) (w' : World) : Prop :=
  ∃ a cap, e = .returned (.tuple #[.slice a r.length cap, .int .i64 c]) ∧ Lies w' w'.heap.size a (ints r) ∧ Below w.heap.size w w'

theorem num_take_at (s : ByteArray) (L : List UInt8) (a : Option Addr) (n cap : Nat) (l r : List Int) (c : Int) (w : World) (hs : s.data.toList = L) (hz : s.size ≤ 140737488355328) (hn : l.length = n) (hR : takeR L l = (r, c)) (hl : n ≤ 100000) (hr : Lies w w.heap.size a (ints l)) :
    Calls Try.prog 28 #[.string s, .slice a n cap] w (NMade r c w) := by
  subst hn
  subst hs
  refine (num_take_any s a cap l w hl hz hr).mono fun e w' h => ?_
  obtain ⟨v, he, hown, hb⟩ := h
  rw [hR] at he hown
  obtain ⟨ra, rc, hv, hlies⟩ := own_form hown
  exact ⟨ra, rc, by rw [he, hv], hlies, hb⟩

/-- Likewise, of some numbers: the answer is new memory. -/
def NMadeN (r : List Int) (c : Int) (w : World) (e : Ending) (w' : World) : Prop :=
  ∃ g cap ys, e = .returned (.tuple #[.slice (some ⟨g, 0, none⟩) r.length cap, .int .i64 c]) ∧ w.heap.size ≤ g ∧ r.length ≤ cap ∧ Row w' g 3 (ints r ++ ys) ∧ Below w.heap.size w w'
theorem NTakes.new {L : List UInt8} {l r : List Int} {c : Int} {w w' : World} {e : Ending} (h : NTakes L l w e w') (hR : takeR L l = (r, c)) (h0 : 0 < r.length) : NMadeN r c w e w' := by
  obtain ⟨v, he, hown, hb⟩ := h
  rw [hR] at he hown
  rcases hown.2 with ⟨h1, h2⟩ | ⟨g, cap, cur, h1, h2, h3, h4, h5, h6, h7⟩
  · have h3 : r.length = 0 := h2
    omega
  · refine ⟨g, cap, cur.toList.drop r.length, by rw [he, h1], h2, h4, ?_, hb⟩
    rw [Nat.mul_one] at h7
    have h8 : cur.toList.take r.length = ints r := h7
    rw [← h8, List.take_append_drop]
    exact h3
theorem num_take_new (s : ByteArray) (L : List UInt8) (a : Option Addr) (n cap : Nat) (l r : List Int) (c : Int) (w : World) (hs : s.data.toList = L) (hz : s.size ≤ 140737488355328) (hn : l.length = n) (hR : takeR L l = (r, c)) (h0 : 0 < r.length) (hl : n ≤ 100000) (hr : Lies w w.heap.size a (ints l)) :
    Calls Try.prog 28 #[.string s, .slice a n cap] w (NMadeN r c w) := by
  subst hn
  subst hs
  exact (num_take_any s a cap l w hl hz hr).mono fun e w' h => h.new hR h0

end Go.Proofs.Ytpeofjlecgenbaa

/- A region that draws its order, whose operations read, call and make memory but write into none that was there: what each operation yields, shown one by one, in whatever order. -/
namespace Go.Proofs.Ytpeofjlecgenbaa
open Go.RowKit

section
variable {P : Program} {ops : Array Oper} {Q : Exit → Act → World → Prop}

/-- The frame a with what the operations D (number, slot) yielded. -/
def puts (D : List (Nat × Nat)) (a : Act) (u : Nat → Value) : Act := D.foldl (fun a p => a.put (some p.2) (u p.1)) a

def upd (u : Nat → Value) (i : Nat) (v : Value) : Nat → Value := fun j => if j = i then v else u j

theorem put_put (a : Act) (d : Nat) (v v' : Value) : (a.put (some d) v).put (some d) v' = a.put (some d) v' := by
  simp [Act.put]
theorem put_self (a : Act) (d : Nat) : a.put (some d) (a.tmps.getD d undef) = a := by
  simp only [Act.put]
  congr 1
  apply Array.ext_getElem?
  intro i
  rw [Array.getElem?_setIfInBounds]
  split
  · rename_i h
    subst h
    split
    · rename_i h; simp [h]
    · rename_i h; rw [Array.getElem?_eq_none (by omega)]
  · rfl

theorem puts_congr (u u' : Nat → Value) : ∀ (D : List (Nat × Nat)) (a : Act), (∀ p ∈ D, u p.1 = u' p.1) → puts D a u = puts D a u'
  | [], _, _ => rfl
  | p :: D, a, h => by
    show puts D (a.put (some p.2) (u p.1)) u = puts D (a.put (some p.2) (u' p.1)) u'
    rw [h p (List.mem_cons_self ..)]
    exact puts_congr u u' D _ fun q hq => h q (List.mem_cons_of_mem _ hq)

theorem puts_put_out (u : Nat → Value) : ∀ (D : List (Nat × Nat)) (a : Act) (d : Nat) (v : Value), (∀ p ∈ D, p.2 ≠ d) → (puts D a u).put (some d) v = puts D (a.put (some d) v) u
  | [], _, _, _, _ => rfl
  | p :: D, a, d, v, h => by
    show (puts D _ u).put (some d) v = puts D _ u
    rw [puts_put_out u D _ d v fun q hq => h q (List.mem_cons_of_mem _ hq)]
    rw [Act.put_comm a _ _ (fun x hx hy => h p (List.mem_cons_self ..) (by cases hx; cases hy; rfl))]

theorem puts_put (u : Nat → Value) (i d : Nat) (v : Value) : ∀ (D : List (Nat × Nat)) (a : Act), (D.map (·.1)).Nodup → (D.map (·.2)).Nodup → (i, d) ∈ D →
    (puts D a u).put (some d) v = puts D a (upd u i v)
  | p :: D, a, h1, h2, hm => by
    rw [List.map_cons, List.nodup_cons] at h1 h2
    show (puts D _ u).put (some d) v = puts D (a.put (some p.2) (upd u i v p.1)) (upd u i v)
    rcases List.mem_cons.1 hm with rfl | hm
    · rw [puts_put_out u D _ d v (fun q hq e => h2.1 (List.mem_map.2 ⟨q, hq, e⟩)), put_put]
      have e1 : upd u i v i = v := by simp [upd]
      show puts D (a.put (some d) v) u = puts D (a.put (some d) (upd u i v i)) (upd u i v)
      rw [e1]
      refine puts_congr _ _ D _ fun q hq => ?_
      have : q.1 ≠ i := fun e => h1.1 (List.mem_map.2 ⟨q, hq, e⟩)
      simp [upd, this]
    · have hne : p.1 ≠ i := fun e => h1.1 (List.mem_map.2 ⟨(i, d), hm, e.symm⟩)
      have e1 : upd u i v p.1 = u p.1 := by simp [upd, hne]
      rw [e1]
      exact puts_put u i d v D _ h1.2 h2.2 hm

theorem puts_self (u : Nat → Value) (a : Act) : ∀ (D : List (Nat × Nat)), (∀ p ∈ D, u p.1 = a.tmps.getD p.2 undef) → puts D a u = a
  | [], _ => rfl
  | p :: D, h => by
    show puts D (a.put (some p.2) (u p.1)) u = a
    rw [h p (List.mem_cons_self ..), put_self]
    exact puts_self u a D fun q hq => h q (List.mem_cons_of_mem _ hq)

/-- What operation i waits for has come: what each of these yielded is as it should be. -/
def Came (ops : Array Oper) (φ : Nat → Value → World → Prop) (u : Nat → Value) (w : World) (i : Nat) : Prop :=
  ∀ o, ops[i]? = some o → ∀ e ∈ o.after.toList, Region.binds .any e = true → φ e.on (u e.on) w

def waitsB (ops : Array Oper) (i j : Nat) : Bool := (ops[i]?.map fun o => o.after.toList.any fun e => Region.binds .any e && Nat.beq e.on j).getD false
theorem Came.at {φ : Nat → Value → World → Prop} {u : Nat → Value} {w : World} {i : Nat} (h : Came ops φ u w i) (j : Nat) (hw : waitsB ops i j = true) : φ j (u j) w := by
  unfold waitsB at hw
  cases ho : ops[i]? with
  | none => rw [ho] at hw; cases hw
  | some o =>
    rw [ho] at hw
    simp only [Option.map_some, Option.getD_some, List.any_eq_true, Bool.and_eq_true, Nat.beq_eq] at hw
    obtain ⟨e, he, hb, rfl⟩ := hw
    exact h o ho e he hb

theorem mem_ready {listed : Array Bool} {i : Nat} : i ∈ Region.ready .any ops listed ↔
    i < ops.size ∧ listed.getD i true = false ∧ ∃ o, ops[i]? = some o ∧ ∀ e ∈ o.after.toList, Region.binds .any e = true → listed.getD e.on false = true := by
  unfold Region.ready
  rw [List.mem_filter, List.mem_range]
  simp only [Bool.and_eq_true, Bool.not_eq_true']
  constructor
  · rintro ⟨h1, h2, h3⟩
    refine ⟨h1, h2, ?_⟩
    rw [Array.getElem?_eq_getElem h1] at h3
    refine ⟨_, Array.getElem?_eq_getElem h1, fun e he hb => ?_⟩
    simp only [Option.map_some, Option.getD_some, Array.all_eq_true_iff_forall_mem] at h3
    have := h3 e (by simpa using he)
    simpa [hb] using this
  · rintro ⟨h1, h2, o, ho, h3⟩
    refine ⟨h1, h2, ?_⟩
    rw [ho]
    simp only [Option.map_some, Option.getD_some, Array.all_eq_true_iff_forall_mem]
    intro e he
    cases hb : Region.binds .any e with
    | false => simp
    | true => simpa using h3 e (by simpa using he) hb

/-- Each operation waits for none behind it. -/
def ordB (ops : Array Oper) : Bool := (List.range ops.size).all fun i => (ops[i]?.map fun o => o.after.all fun e => decide (e.on < i)).getD true

theorem all_listed (hord : ordB ops = true) {listed : Array Bool} (hs : listed.size = ops.size) (h : Region.ready .any ops listed = []) : ∀ i, listed.getD i true = true := by
  intro i
  induction i using Nat.strongRecOn with
  | ind i ih =>
    cases hi : listed.getD i true with
    | true => rfl
    | false =>
      have hlt : i < ops.size := by
        rw [← hs]
        by_cases hl : i < listed.size
        · exact hl
        · simp [Array.getD, hl] at hi
      have : i ∈ Region.ready .any ops listed := by
        refine mem_ready.2 ⟨hlt, hi, _, Array.getElem?_eq_getElem hlt, fun e he _ => ?_⟩
        unfold ordB at hord
        rw [List.all_eq_true] at hord
        have h1 := hord i (List.mem_range.2 hlt)
        rw [Array.getElem?_eq_getElem hlt] at h1
        simp only [Option.map_some, Option.getD_some, Array.all_eq_true_iff_forall_mem] at h1
        have h2 := h1 e (by simpa using he)
        have hlt2 : e.on < i := by simpa using h2
        have h3 := ih e.on hlt2
        have hl : e.on < listed.size := by omega
        simpa [Array.getD, hl] using h3
      rw [h] at this
      cases this

/-- What an operation yields is what its slot holds then. -/
theorem upon_value {o : Oper} {a : Act} {d : Nat} {R : Value → World → Prop} (hd : o.dst = some d) (hs : d < a.tmps.size) (r : Result Next)
    (h : o.upon P a (fun a' w' => a'.defers = a.defers ∧ R (a'.tmps.getD d undef) w') Q r) : o.upon P a (fun a' w' => ∃ v, a' = a.put (some d) v ∧ R v w') Q r := by
  have hg : ∀ v, (a.put o.dst v).tmps.getD d undef = v := fun v => by rw [hd]; simp [Act.put, hs]
  have hk : ∀ v w', (fun (a' : Act) (w' : World) => a'.defers = a.defers ∧ R (a'.tmps.getD d undef) w') (a.put o.dst v) w' → (fun (a' : Act) (w' : World) => ∃ v, a' = a.put (some d) v ∧ R v w') (a.put o.dst v) w' := fun v w' h => by
    have h2 := h.2
    rw [hg] at h2
    exact ⟨v, by rw [hd], h2⟩
  cases r with
  | ok n w' =>
    cases n with
    | value v => exact hk v w' h
    | skip => exact hk undef w' h
    | defer e =>
      simp only [Oper.upon, hd, Act.put] at h
      have := congrArg List.length h.1
      simp at this
    | enter f args =>
      simp only [Oper.upon] at h ⊢
      refine Calls.mono h fun e w'' he => ?_
      cases e with
      | returned v => exact hk v w'' he
      | panicked c => exact he
      | outgrown => exact he
    | row row args =>
      simp only [Oper.upon] at h ⊢
      exact Rows.mono h fun v w'' he => hk v w'' he
    | _ => exact h
  | halt x w' => cases x <;> exact h
theorem wpOp_value {i d : Nat} {o : Oper} {a : Act} {w : World} {R : Value → World → Prop} (ho : ops[i]? = some o) (hd : o.dst = some d) (hs : d < a.tmps.size)
    (h : wpOp P ops Q i (fun a' w' => a'.defers = a.defers ∧ R (a'.tmps.getD d undef) w') a w) : wpOp P ops Q i (fun a' w' => ∃ v, a' = a.put (some d) v ∧ R v w') a w := by
  unfold wpOp at *
  rw [ho] at h ⊢
  simp only at h ⊢
  split at h
  · rename_i hw
    rw [if_pos hw]
    rcases h with h | h
    · exact Or.inl (upon_value hd hs _ h)
    · exact Or.inr h
  · rename_i hw
    rw [if_neg hw]
    have h2 := h.2
    rw [hd] at h2 ⊢
    refine ⟨undef, rfl, ?_⟩
    simpa [Act.put, hs] using h2
theorem puts_size (u : Nat → Value) : ∀ (D : List (Nat × Nat)) (a : Act), (puts D a u).tmps.size = a.tmps.size
  | [], _ => rfl
  | p :: D, a => by
    show (puts D (a.put (some p.2) (u p.1)) u).tmps.size = _
    rw [puts_size u D]
    simp [Act.put]

theorem region_inv {id : Nat} {a : Act} {w : World} (D : List (Nat × Nat)) (φ : Nat → Value → World → Prop) (G : World → Prop) (hm : P.follows .mixedOrders = true)
    (hord : ordB ops = true) (hD1 : D.map (·.1) = List.range ops.size) (hD2 : (D.map (·.2)).Nodup) (hD3 : (D.all fun p => (ops[p.1]?.bind (·.dst)) == some p.2) = true) (hD4 : (D.all fun p => Nat.blt p.2 a.tmps.size) = true)
    (hmono : ∀ i v w w', φ i v w → Below w.heap.size w w' → φ i v w') (hG : G w.drew)
    (step : ∀ p ∈ D, ∀ u w, G w → Came ops φ u w p.1 →
      wpOp P ops Q p.1 (fun a' w' => a'.defers = (puts D a u).defers ∧ φ p.1 (a'.tmps.getD p.2 undef) w' ∧ G w' ∧ Below w.heap.size w w') (puts D a u) w)
    (fin : ∀ u w, G w → (∀ p ∈ D, φ p.1 (u p.1) w) → Q .normal (puts D a u) w) : (Code.region id ops true).wp P Q a w := by
  refine wp_region_any hm ?_
  have hnd1 : (D.map (·.1)).Nodup := by rw [hD1]; exact List.nodup_range
  have key : ∀ (fuel : Nat) (listed : Array Bool) (w : World) (u : Nat → Value) (L : List Nat), listed.size = ops.size → L.length ≤ fuel → (∀ i, listed.getD i true = false → i ∈ L) → G w →
      (∀ i, i < ops.size → listed.getD i true = true → φ i (u i) w) → wpAny P .any ops Q fuel listed (puts D a u) w := by
    intro fuel
    induction fuel with
    | zero =>
      intro listed w u L hs hL hin hg hφ
      have hall : ∀ i, listed.getD i true = true := fun i => by
        cases hi : listed.getD i true with
        | true => rfl
        | false => have := hin i hi; rw [List.length_eq_zero_iff.1 (Nat.le_zero.1 hL)] at this; cases this
      refine ⟨?_, fin u w hg fun p hp => hφ p.1 ?_ (hall _)⟩
      · rw [List.eq_nil_iff_forall_not_mem]
        intro i hi
        have := (mem_ready.1 hi).2.1
        rw [hall i] at this
        cases this
      · have : p.1 ∈ D.map (·.1) := List.mem_map.2 ⟨p, hp, rfl⟩
        rw [hD1] at this
        exact List.mem_range.1 this
    | succ fuel ih =>
      intro listed w u L hs hL hin hg hφ
      refine ⟨fun hr => fin u w hg fun p hp => hφ p.1 ?_ (all_listed hord hs hr _), fun i hi => ?_⟩
      · have : p.1 ∈ D.map (·.1) := List.mem_map.2 ⟨p, hp, rfl⟩
        rw [hD1] at this
        exact List.mem_range.1 this
      · obtain ⟨h1, h2, o, ho, h3⟩ := mem_ready.1 hi
        have hiD : i ∈ D.map (·.1) := by rw [hD1]; exact List.mem_range.2 h1
        obtain ⟨⟨i', d⟩, hp, rfl⟩ := List.mem_map.1 hiD
        have hst := step _ hp u w hg (fun o' ho' e he hb => by
          have heq : o' = o := Option.some.inj (ho'.symm.trans ho)
          subst heq
          have hl := h3 e he hb
          have hlt : e.on < ops.size := by
            rw [← hs]
            by_cases hl2 : e.on < listed.size
            · exact hl2
            · simp [Array.getD, hl2] at hl
          refine hφ e.on hlt ?_
          have hl2 : e.on < listed.size := by omega
          simpa [Array.getD, hl2] using hl)
        have hd3 := List.all_eq_true.1 hD3 _ hp
        have hd4 := List.all_eq_true.1 hD4 _ hp
        simp only [ho, Option.bind_some, beq_iff_eq] at hd3
        have hd5 : d < a.tmps.size := by simp [Nat.blt] at hd4; omega
        have hst2 := wpOp_value (R := fun v w' => φ i' v w' ∧ G w' ∧ Below w.heap.size w w') ho hd3 (by rw [puts_size]; exact hd5) hst
        clear hst
        refine wpOp_mono ?_ hst2
        rintro a' w' ⟨v, rfl, hv, hg', hb'⟩
        rw [puts_put u i' d v D a hnd1 hD2 hp]
        refine ih _ w' (upd u i' v) (L.erase i') (by simpa using hs) ?_ ?_ hg' ?_
        · rw [List.length_erase_of_mem (hin i' h2)]
          omega
        · intro j hj
          have hji : j ≠ i' := fun e => by
            subst e
            have : j < listed.size := by omega
            simp [Array.getD, this] at hj
          refine (List.mem_erase_of_ne hji).2 (hin j ?_)
          simp only [Array.getD] at hj ⊢
          split at hj
          · rename_i hl
            rw [Array.size_setIfInBounds] at hl
            rw [dif_pos hl]
            rwa [Array.getInternal_eq_getElem, Array.getElem_setIfInBounds_ne (h := Ne.symm hji)] at hj
          · cases hj
        · intro j hj hl
          by_cases hji : j = i'
          · subst hji
            simpa [upd] using hv
          · have e1 : upd u i' v j = u j := by simp [upd, hji]
            rw [e1]
            refine hmono j _ w w' (hφ j hj ?_) hb'
            have hl2 : j < listed.size := by omega
            simp only [Array.getD, Array.size_setIfInBounds, hl2, dif_pos, Array.getInternal_eq_getElem] at hl ⊢
            rwa [Array.getElem_setIfInBounds_ne (h := Ne.symm hji)] at hl
  have hu : ∃ u : Nat → Value, puts D a u = a := by
    refine ⟨fun i => ((D.find? fun p => p.1 == i).map fun p => a.tmps.getD p.2 undef).getD undef, puts_self _ _ _ fun p hp => ?_⟩
    have : D.find? (fun q => q.1 == p.1) = some p := by
      clear fin step hD2 hD1 hD3 hD4 key
      induction D with
      | nil => cases hp
      | cons q D ih =>
        rw [List.map_cons, List.nodup_cons] at hnd1
        rcases List.mem_cons.1 hp with rfl | hp
        · simp
        · have hne : (q.1 == p.1) = false := by
            rw [beq_eq_false_iff_ne]
            intro e
            exact hnd1.1 (List.mem_map.2 ⟨p, hp, e.symm⟩)
          rw [List.find?_cons, hne]
          exact ih hnd1.2 hp
    simp only [this, Option.map_some, Option.getD_some]
  obtain ⟨u, hu⟩ := hu
  have := key ops.size (Array.replicate ops.size false) w.drew u (List.range ops.size) (by simp) (by simp) (fun i hi => by
    rw [List.mem_range]
    by_cases hl : i < ops.size
    · exact hl
    · simp [Array.getD, hl] at hi) hG (fun i hi hl => by simp [Array.getD, hi] at hl)
  rw [hu] at this
  exact this

/-- Operation i waits, by some steps, for operation j. -/
def reachB (ops : Array Oper) : Nat → Nat → Nat → Bool
  | 0, _, _ => false
  | f + 1, i, j => (ops[i]?.map fun o => o.after.toList.any fun e => Region.binds .any e && (Nat.beq e.on j || reachB ops f e.on j)).getD false
/-- Whatever stands from n on waits for all that stands ahead of n. -/
def closeB (ops : Array Oper) (n f : Nat) : Bool := (List.range ops.size).all fun i => Nat.blt i n || (List.range n).all fun j => reachB ops f i j
def Anc (ops : Array Oper) (listed : Array Bool) : Prop := ∀ i o, ops[i]? = some o → listed.getD i false = true → ∀ e ∈ o.after.toList, Region.binds .any e = true → listed.getD e.on false = true
theorem reach_listed {listed : Array Bool} (h : Anc ops listed) : ∀ (f i j : Nat), (∀ o, ops[i]? = some o → ∀ e ∈ o.after.toList, Region.binds .any e = true → listed.getD e.on false = true) → reachB ops f i j = true → listed.getD j false = true
  | 0, _, _, _, hr => by cases hr
  | f + 1, i, j, hi, hr => by
    rw [reachB] at hr
    cases ho : ops[i]? with
    | none => rw [ho] at hr; cases hr
    | some o =>
      rw [ho] at hr
      simp only [Option.map_some, Option.getD_some, List.any_eq_true, Bool.and_eq_true, Bool.or_eq_true, Nat.beq_eq] at hr
      obtain ⟨e, he, hb, hr⟩ := hr
      have hl := hi o ho e he hb
      rcases hr with rfl | hr
      · exact hl
      · exact reach_listed h f e.on j (fun o' ho' e' he' hb' => h e.on o' ho' hl e' he' hb') hr
theorem getD_set_self {l : Array Bool} {i : Nat} (h : i < l.size) : (l.setIfInBounds i true).getD i false = true := by simp [Array.getD, h]
theorem getD_set_other {l : Array Bool} {i j : Nat} {d : Bool} (h : i ≠ j) : (l.setIfInBounds i true).getD j d = l.getD j d := by
  simp only [Array.getD, Array.size_setIfInBounds]
  split
  · rename_i hl
    rw [Array.getInternal_eq_getElem, Array.getElem_setIfInBounds_ne (h := h)]
    rfl
  · rfl

/-- A region whose first n operations, in whatever order, only read, call and make memory, and whose last ones wait for all of these and come one by one. -/
theorem region_tail {id : Nat} {a : Act} {w : World} (n : Nat) (D : List (Nat × Nat)) (φ : Nat → Value → World → Prop) (G : World → Prop) (hm : P.follows .mixedOrders = true) (hn : n ≤ ops.size)
    (hord : ordB ops = true) (hcl : closeB ops n ops.size = true) (hseq : Region.seqB .any ops (ops.size - n) n ((Array.range ops.size).map (Nat.blt · n)) = true)
    (hD1 : D.map (·.1) = List.range n) (hD2 : (D.map (·.2)).Nodup) (hD3 : (D.all fun p => (ops[p.1]?.bind (·.dst)) == some p.2) = true) (hD4 : (D.all fun p => Nat.blt p.2 a.tmps.size) = true)
    (hmono : ∀ i v w w', φ i v w → Below w.heap.size w w' → φ i v w') (hG : G w.drew)
    (step : ∀ p ∈ D, ∀ u w, G w → Came ops φ u w p.1 →
      wpOp P ops Q p.1 (fun a' w' => a'.defers = (puts D a u).defers ∧ φ p.1 (a'.tmps.getD p.2 undef) w' ∧ G w' ∧ Below w.heap.size w w') (puts D a u) w)
    (fin : ∀ u w, G w → (∀ p ∈ D, φ p.1 (u p.1) w) → wpList P ops Q (ops.toList.drop n) (puts D a u) w) : (Code.region id ops true).wp P Q a w := by
  refine wp_region_any hm ?_
  have hnd1 : (D.map (·.1)).Nodup := by rw [hD1]; exact List.nodup_range
  have hclose : ∀ i, n ≤ i → i < ops.size → ∀ j, j < n → reachB ops ops.size i j = true := by
    intro i h1 h2 j hj
    have := List.all_eq_true.1 hcl i (List.mem_range.2 h2)
    rw [Bool.or_eq_true] at this
    rcases this with h | h
    · simp [Nat.blt] at h; omega
    · exact List.all_eq_true.1 h j (List.mem_range.2 hj)
  have key : ∀ (m : Nat) (L : List Nat) (listed : Array Bool) (w : World) (u : Nat → Value), L.length = m → L.Nodup → listed.size = ops.size → (∀ i, i < n → (listed.getD i false = false ↔ i ∈ L)) → (∀ i ∈ L, i < n) →
      (∀ i, n ≤ i → listed.getD i false = false) → Anc ops listed → G w → (∀ i, i < n → listed.getD i false = true → φ i (u i) w) → wpAny P .any ops Q (m + (ops.size - n)) listed (puts D a u) w := by
    intro m
    induction m with
    | zero =>
      intro L listed w u hL _ hs hin _ hout _ hg hφ
      have hLe : L = [] := List.length_eq_zero_iff.1 hL
      subst hLe
      have hall : ∀ i, i < n → listed.getD i false = true := fun i hi => by
        cases h : listed.getD i false with
        | true => rfl
        | false => have := (hin i hi).1 h; cases this
      have el : listed = (Array.range ops.size).map (Nat.blt · n) := by
        apply Array.ext
        · simp [hs]
        · intro i h1 h2
          rw [Array.getElem_map, Array.getElem_range]
          have e1 : listed.getD i false = listed[i] := by simp [Array.getD, h1]
          rw [← e1]
          have hb : Nat.blt i n = decide (i < n) := by
            rw [Bool.eq_iff_iff, decide_eq_true_eq]
            exact Iff.of_eq Nat.ble_eq
          rw [hb]
          by_cases hi : i < n
          · rw [hall i hi, decide_eq_true hi]
          · rw [hout i (by omega), decide_eq_false hi]
      have hlen : (ops.toList.drop n).length = ops.size - n := by simp
      rw [Nat.zero_add, ← hlen]
      refine wpAny_of_seq (ops.toList.drop n) n listed _ w (fun j => by simp) (by rw [hlen, el]; exact hseq) (fin u w hg fun p hp => hφ p.1 ?_ ?_)
      · have : p.1 ∈ D.map (·.1) := List.mem_map.2 ⟨p, hp, rfl⟩
        rw [hD1] at this
        exact List.mem_range.1 this
      · have : p.1 ∈ D.map (·.1) := List.mem_map.2 ⟨p, hp, rfl⟩
        rw [hD1] at this
        exact hall _ (List.mem_range.1 this)
    | succ m ih =>
      intro L listed w u hL hnd hs hin hLn hout hanc hg hφ
      have hne : ∃ i0, i0 ∈ L := by
        cases L with
        | nil => cases hL
        | cons i0 L => exact ⟨i0, List.mem_cons_self ..⟩
      obtain ⟨i0, hi0⟩ := hne
      have hi0n := hLn i0 hi0
      have hi0f := (hin i0 hi0n).2 hi0
      rw [Nat.succ_add]
      refine ⟨fun hr => ?_, fun i hi => ?_⟩
      · have := all_listed hord hs hr i0
        have hl : i0 < listed.size := by omega
        simp [Array.getD, hl] at this hi0f
        rw [this] at hi0f
        cases hi0f
      · obtain ⟨h1, h2, o, ho, h3⟩ := mem_ready.1 hi
        have hin' : i < n := by
          by_cases hlt : i < n
          · exact hlt
          · have := reach_listed hanc ops.size i i0 (fun o' ho' e he hb => by
              obtain rfl := Option.some.inj (ho'.symm.trans ho)
              exact h3 e he hb) (hclose i (by omega) h1 i0 hi0n)
            rw [hi0f] at this
            cases this
        have hil : i < listed.size := by omega
        have h2f : listed.getD i false = false := by simp [Array.getD, hil] at h2 ⊢; exact h2
        have hiL := (hin i hin').1 h2f
        have hiD : i ∈ D.map (·.1) := by rw [hD1]; exact List.mem_range.2 hin'
        obtain ⟨⟨i', d⟩, hp, rfl⟩ := List.mem_map.1 hiD
        simp only at h1 h2 ho h3 hin' hil h2f hiL
        have hst := step _ hp u w hg (fun o' ho' e he hb => by
          obtain rfl := Option.some.inj (ho'.symm.trans ho)
          have hl := h3 e he hb
          have hen : e.on < n := by
            by_cases hlt : e.on < n
            · exact hlt
            · rw [hout e.on (by omega)] at hl; cases hl
          exact hφ e.on hen hl)
        have hd3 := List.all_eq_true.1 hD3 _ hp
        have hd4 := List.all_eq_true.1 hD4 _ hp
        simp only [ho, Option.bind_some, beq_iff_eq] at hd3
        have hd5 : d < a.tmps.size := by simp [Nat.blt] at hd4; omega
        have hst2 := wpOp_value (R := fun v w' => φ i' v w' ∧ G w' ∧ Below w.heap.size w w') ho hd3 (by rw [puts_size]; exact hd5) hst
        clear hst
        refine wpOp_mono ?_ hst2
        rintro a' w' ⟨v, rfl, hv, hg', hb'⟩
        rw [puts_put u i' d v D a hnd1 hD2 hp]
        refine ih (L.erase i') _ w' (upd u i' v) (by rw [List.length_erase_of_mem hiL]; omega) (hnd.erase i') (by simpa using hs) ?_ (fun j hj => hLn j (List.mem_of_mem_erase hj)) ?_ ?_ hg' ?_
        · intro j hj
          by_cases e : i' = j
          · subst e
            rw [getD_set_self hil]
            constructor
            · intro h; cases h
            · intro h; exact absurd h (hnd.not_mem_erase)
          · rw [getD_set_other e, hin j hj]
            exact (List.mem_erase_of_ne (Ne.symm e)).symm
        · intro j hj
          rw [getD_set_other (by omega)]
          exact hout j hj
        · intro j o' ho' hl e he hb
          by_cases ej : i' = j
          · subst ej
            obtain rfl := Option.some.inj (ho'.symm.trans ho)
            have := h3 e he hb
            by_cases e2 : i' = e.on
            · rw [← e2, getD_set_self hil]
            · rw [getD_set_other e2]; exact this
          · rw [getD_set_other ej] at hl
            have := hanc j o' ho' hl e he hb
            by_cases e2 : i' = e.on
            · rw [← e2, getD_set_self hil]
            · rw [getD_set_other e2]; exact this
        · intro j hj hl
          by_cases hji : j = i'
          · subst hji
            simpa [upd] using hv
          · have e1 : upd u i' v j = u j := by simp [upd, hji]
            rw [e1]
            rw [getD_set_other (Ne.symm hji)] at hl
            exact hmono j _ w w' (hφ j hj hl) hb'
  have hu : ∃ u : Nat → Value, puts D a u = a := by
    refine ⟨fun i => ((D.find? fun p => p.1 == i).map fun p => a.tmps.getD p.2 undef).getD undef, puts_self _ _ _ fun p hp => ?_⟩
    have : D.find? (fun q => q.1 == p.1) = some p := by
      clear fin step hD2 hD1 hD3 hD4 key
      induction D with
      | nil => cases hp
      | cons q D ih =>
        rw [List.map_cons, List.nodup_cons] at hnd1
        rcases List.mem_cons.1 hp with rfl | hp
        · simp
        · have hne : (q.1 == p.1) = false := by
            rw [beq_eq_false_iff_ne]
            intro e
            exact hnd1.1 (List.mem_map.2 ⟨p, hp, e.symm⟩)
          rw [List.find?_cons, hne]
          exact ih hnd1.2 hp
    simp only [this, Option.map_some, Option.getD_some]
  obtain ⟨u, hu⟩ := hu
  have hf : ∀ i, (Array.replicate ops.size false).getD i false = false := fun i => by
    by_cases h : i < ops.size <;> simp [Array.getD, h]
  have := key n (List.range n) (Array.replicate ops.size false) w.drew u (by simp) List.nodup_range (by simp) (fun i hi => by rw [hf]; simpa using hi) (fun i hi => List.mem_range.1 hi) (fun i _ => hf i)
    (fun i o _ hl => by rw [hf] at hl; cases hl) hG (fun i _ hl => by rw [hf] at hl; cases hl)
  rw [hu, show n + (ops.size - n) = ops.size by omega] at this
  exact this
end

/-! What operations yield. -/
def Is (x : Value) : Value → World → Prop := fun v _ => v = x
/-- A new slice that holds xs. -/
def New (xs : List Value) : Value → World → Prop := fun v w => ∃ b, v = .slice (some ⟨b, 0, none⟩) xs.length xs.length ∧ Lies w w.heap.size (some ⟨b, 0, none⟩) xs
def Monot (φ : Value → World → Prop) : Prop := ∀ v w w', φ v w → Below w.heap.size w w' → φ v w'
theorem Is.monot (x : Value) : Monot (Is x) := fun _ _ _ h _ => h
theorem New.monot (xs : List Value) : Monot (New xs) := fun _ _ _ ⟨b, h1, h2⟩ hb => ⟨b, h1, h2.step hb⟩

end Go.Proofs.Ytpeofjlecgenbaa

/- A region that draws its order and whose last operation writes into one of the call's blocks: all but some late ones (X: pure, of no world) stand ahead of it. -/
namespace Go.Proofs.Ytpeofjlecgenbaa
open Go.RowKit

section
variable {P : Program} {ops : Array Oper} {Q : Exit → Act → World → Prop}

/-- Each operation waits for none behind it, as far as waiting binds. -/
def ordX (ops : Array Oper) : Bool := (List.range ops.size).all fun i => (ops[i]?.map fun o => o.after.all fun e => !Region.binds .any e || decide (e.on < i)).getD true

theorem all_listedX (hord : ordX ops = true) {listed : Array Bool} (hs : listed.size = ops.size) (h : Region.ready .any ops listed = []) : ∀ i, listed.getD i true = true := by
  intro i
  induction i using Nat.strongRecOn with
  | ind i ih =>
    cases hi : listed.getD i true with
    | true => rfl
    | false =>
      have hlt : i < ops.size := by
        rw [← hs]
        by_cases hl : i < listed.size
        · exact hl
        · simp [Array.getD, hl] at hi
      have : i ∈ Region.ready .any ops listed := by
        refine mem_ready.2 ⟨hlt, hi, _, Array.getElem?_eq_getElem hlt, fun e he hbd => ?_⟩
        unfold ordX at hord
        rw [List.all_eq_true] at hord
        have h1 := hord i (List.mem_range.2 hlt)
        rw [Array.getElem?_eq_getElem hlt] at h1
        simp only [Option.map_some, Option.getD_some, Array.all_eq_true_iff_forall_mem] at h1
        have h2 := h1 e (by simpa using he)
        have hlt2 : e.on < i := by simpa [hbd] using h2
        have h3 := ih e.on hlt2
        have hl : e.on < listed.size := by omega
        simpa [Array.getD, hl] using h3
      rw [h] at this
      cases this

/-- An operation that yields nothing leaves the frame. -/
theorem upon_none {o : Oper} {a : Act} {R : World → Prop} (hd : o.dst = none) (r : Result Next)
    (h : o.upon P a (fun a' w' => a'.defers = a.defers ∧ R w') Q r) : o.upon P a (fun a' w' => a' = a ∧ R w') Q r := by
  have hput : ∀ v, a.put o.dst v = a := fun v => by rw [hd]; rfl
  have hk : ∀ v w', (fun (a' : Act) (w' : World) => a'.defers = a.defers ∧ R w') (a.put o.dst v) w' → (fun (a' : Act) (w' : World) => a' = a ∧ R w') (a.put o.dst v) w' := fun v w' h => ⟨hput v, h.2⟩
  cases r with
  | ok n w' =>
    cases n with
    | value v => exact hk v w' h
    | skip => exact hk undef w' h
    | defer e =>
      simp only [Oper.upon, hd, Act.put] at h
      have := congrArg List.length h.1
      simp at this
    | enter f args =>
      simp only [Oper.upon] at h ⊢
      refine Calls.mono h fun e w'' he => ?_
      cases e with
      | returned v => exact hk v w'' he
      | panicked c => exact he
      | outgrown => exact he
    | row row args =>
      simp only [Oper.upon] at h ⊢
      exact Rows.mono h fun v w'' he => hk v w'' he
    | _ => exact h
  | halt x w' => cases x <;> exact h
theorem wpOp_none {i : Nat} {o : Oper} {a : Act} {w : World} {R : World → Prop} (ho : ops[i]? = some o) (hd : o.dst = none)
    (h : wpOp P ops Q i (fun a' w' => a'.defers = a.defers ∧ R w') a w) : wpOp P ops Q i (fun a' w' => a' = a ∧ R w') a w := by
  unfold wpOp at *
  rw [ho] at h ⊢
  simp only at h ⊢
  split at h
  · rename_i hw
    rw [if_pos hw]
    rcases h with h | h
    · exact Or.inl (upon_none hd _ h)
    · exact Or.inr h
  · rename_i hw
    rw [if_neg hw]
    refine ⟨by rw [hd]; rfl, h.2⟩

/-- As region_inv, where some edges bind in one of the two orders alone. -/
theorem region_invX {id : Nat} {a : Act} {w : World} (D : List (Nat × Nat)) (φ : Nat → Value → World → Prop) (G : World → Prop) (hm : P.follows .mixedOrders = true)
    (hord : ordX ops = true) (hD1 : D.map (·.1) = List.range ops.size) (hD2 : (D.map (·.2)).Nodup) (hD3 : (D.all fun p => (ops[p.1]?.bind (·.dst)) == some p.2) = true) (hD4 : (D.all fun p => Nat.blt p.2 a.tmps.size) = true)
    (hmono : ∀ i v w w', φ i v w → Below w.heap.size w w' → φ i v w') (hG : G w.drew)
    (step : ∀ p ∈ D, ∀ u w, G w → Came ops φ u w p.1 →
      wpOp P ops Q p.1 (fun a' w' => a'.defers = (puts D a u).defers ∧ φ p.1 (a'.tmps.getD p.2 undef) w' ∧ G w' ∧ Below w.heap.size w w') (puts D a u) w)
    (fin : ∀ u w, G w → (∀ p ∈ D, φ p.1 (u p.1) w) → Q .normal (puts D a u) w) : (Code.region id ops true).wp P Q a w := by
  refine wp_region_any hm ?_
  have hnd1 : (D.map (·.1)).Nodup := by rw [hD1]; exact List.nodup_range
  have key : ∀ (fuel : Nat) (listed : Array Bool) (w : World) (u : Nat → Value) (L : List Nat), listed.size = ops.size → L.length ≤ fuel → (∀ i, listed.getD i true = false → i ∈ L) → G w →
      (∀ i, i < ops.size → listed.getD i true = true → φ i (u i) w) → wpAny P .any ops Q fuel listed (puts D a u) w := by
    intro fuel
    induction fuel with
    | zero =>
      intro listed w u L hs hL hin hg hφ
      have hall : ∀ i, listed.getD i true = true := fun i => by
        cases hi : listed.getD i true with
        | true => rfl
        | false => have := hin i hi; rw [List.length_eq_zero_iff.1 (Nat.le_zero.1 hL)] at this; cases this
      refine ⟨?_, fin u w hg fun p hp => hφ p.1 ?_ (hall _)⟩
      · rw [List.eq_nil_iff_forall_not_mem]
        intro i hi
        have := (mem_ready.1 hi).2.1
        rw [hall i] at this
        cases this
      · have : p.1 ∈ D.map (·.1) := List.mem_map.2 ⟨p, hp, rfl⟩
        rw [hD1] at this
        exact List.mem_range.1 this
    | succ fuel ih =>
      intro listed w u L hs hL hin hg hφ
      refine ⟨fun hr => fin u w hg fun p hp => hφ p.1 ?_ (all_listedX hord hs hr _), fun i hi => ?_⟩
      · have : p.1 ∈ D.map (·.1) := List.mem_map.2 ⟨p, hp, rfl⟩
        rw [hD1] at this
        exact List.mem_range.1 this
      · obtain ⟨h1, h2, o, ho, h3⟩ := mem_ready.1 hi
        have hiD : i ∈ D.map (·.1) := by rw [hD1]; exact List.mem_range.2 h1
        obtain ⟨⟨i', d⟩, hp, rfl⟩ := List.mem_map.1 hiD
        have hst := step _ hp u w hg (fun o' ho' e he hb => by
          have heq : o' = o := Option.some.inj (ho'.symm.trans ho)
          subst heq
          have hl := h3 e he hb
          have hlt : e.on < ops.size := by
            rw [← hs]
            by_cases hl2 : e.on < listed.size
            · exact hl2
            · simp [Array.getD, hl2] at hl
          refine hφ e.on hlt ?_
          have hl2 : e.on < listed.size := by omega
          simpa [Array.getD, hl2] using hl)
        have hd3 := List.all_eq_true.1 hD3 _ hp
        have hd4 := List.all_eq_true.1 hD4 _ hp
        simp only [ho, Option.bind_some, beq_iff_eq] at hd3
        have hd5 : d < a.tmps.size := by simp [Nat.blt] at hd4; omega
        have hst2 := wpOp_value (R := fun v w' => φ i' v w' ∧ G w' ∧ Below w.heap.size w w') ho hd3 (by rw [puts_size]; exact hd5) hst
        clear hst
        refine wpOp_mono ?_ hst2
        rintro a' w' ⟨v, rfl, hv, hg', hb'⟩
        rw [puts_put u i' d v D a hnd1 hD2 hp]
        refine ih _ w' (upd u i' v) (L.erase i') (by simpa using hs) ?_ ?_ hg' ?_
        · rw [List.length_erase_of_mem (hin i' h2)]
          omega
        · intro j hj
          have hji : j ≠ i' := fun e => by
            subst e
            have : j < listed.size := by omega
            simp [Array.getD, this] at hj
          refine (List.mem_erase_of_ne hji).2 (hin j ?_)
          simp only [Array.getD] at hj ⊢
          split at hj
          · rename_i hl
            rw [Array.size_setIfInBounds] at hl
            rw [dif_pos hl]
            rwa [Array.getInternal_eq_getElem, Array.getElem_setIfInBounds_ne (h := Ne.symm hji)] at hj
          · cases hj
        · intro j hj hl
          by_cases hji : j = i'
          · subst hji
            simpa [upd] using hv
          · have e1 : upd u i' v j = u j := by simp [upd, hji]
            rw [e1]
            refine hmono j _ w w' (hφ j hj ?_) hb'
            have hl2 : j < listed.size := by omega
            simp only [Array.getD, Array.size_setIfInBounds, hl2, dif_pos, Array.getInternal_eq_getElem] at hl ⊢
            rwa [Array.getElem_setIfInBounds_ne (h := Ne.symm hji)] at hl
  have hu : ∃ u : Nat → Value, puts D a u = a := by
    refine ⟨fun i => ((D.find? fun p => p.1 == i).map fun p => a.tmps.getD p.2 undef).getD undef, puts_self _ _ _ fun p hp => ?_⟩
    have : D.find? (fun q => q.1 == p.1) = some p := by
      clear fin step hD2 hD1 hD3 hD4 key
      induction D with
      | nil => cases hp
      | cons q D ih =>
        rw [List.map_cons, List.nodup_cons] at hnd1
        rcases List.mem_cons.1 hp with rfl | hp
        · simp
        · have hne : (q.1 == p.1) = false := by
            rw [beq_eq_false_iff_ne]
            intro e
            exact hnd1.1 (List.mem_map.2 ⟨p, hp, e.symm⟩)
          rw [List.find?_cons, hne]
          exact ih hnd1.2 hp
    simp only [this, Option.map_some, Option.getD_some]
  obtain ⟨u, hu⟩ := hu
  have := key ops.size (Array.replicate ops.size false) w.drew u (List.range ops.size) (by simp) (by simp) (fun i hi => by
    rw [List.mem_range]
    by_cases hl : i < ops.size
    · exact hl
    · simp [Array.getD, hl] at hi) hG (fun i hi hl => by simp [Array.getD, hi] at hl)
  rw [hu] at this
  exact this

theorem getD_tf {l : Array Bool} {i : Nat} (h : i < l.size) : l.getD i true = l.getD i false := by simp [Array.getD, h]

theorem region_store {id : Nat} {a : Act} {w : World} (s : Nat) (X : List Nat) (D : List (Nat × Nat)) (φ : Nat → Value → World → Prop) (G H : World → Prop) (hm : P.follows .mixedOrders = true)
    (hsz : ops.size = s + 1) (hord : ordX ops = true) (hcl : ((List.range s).all fun j => X.contains j || reachB ops ops.size s j) = true)
    (hD1 : D.map (·.1) = List.range s) (hD2 : (D.map (·.2)).Nodup) (hD3 : (D.all fun p => (ops[p.1]?.bind (·.dst)) == some p.2) = true) (hD4 : (D.all fun p => Nat.blt p.2 a.tmps.size) = true)
    (hS : (ops[s]?.map (·.dst)) = some none) (hmono : ∀ i v w w', φ i v w → Below w.heap.size w w' → φ i v w') (hG : G w.drew)
    (step : ∀ p ∈ D, ∀ u w, G w → Came ops φ u w p.1 →
      wpOp P ops Q p.1 (fun a' w' => a'.defers = (puts D a u).defers ∧ φ p.1 (a'.tmps.getD p.2 undef) w' ∧ G w' ∧ Below w.heap.size w w') (puts D a u) w)
    (stepX : ∀ p ∈ D, p.1 ∈ X → ∀ u w, H w → Came ops (fun i v _ => ∃ w1, φ i v w1) u w p.1 →
      wpOp P ops Q p.1 (fun a' w' => a'.defers = (puts D a u).defers ∧ (∃ w1, φ p.1 (a'.tmps.getD p.2 undef) w1) ∧ H w') (puts D a u) w)
    (stepS : ∀ u w, G w → (∀ p ∈ D, p.1 ∉ X → φ p.1 (u p.1) w) → wpOp P ops Q s (fun a' w' => a'.defers = (puts D a u).defers ∧ H w') (puts D a u) w)
    (fin : ∀ u w, H w → (∀ p ∈ D, ∃ w1, φ p.1 (u p.1) w1) → Q .normal (puts D a u) w) : (Code.region id ops true).wp P Q a w := by
  refine wp_region_any hm ?_
  have hnd1 : (D.map (·.1)).Nodup := by rw [hD1]; exact List.nodup_range
  have hmemD : ∀ i, i < s → ∃ d, (i, d) ∈ D := fun i hi => by
    have : i ∈ D.map (·.1) := by rw [hD1]; exact List.mem_range.2 hi
    obtain ⟨⟨i', d⟩, hp, rfl⟩ := List.mem_map.1 this
    exact ⟨d, hp⟩
  have hltD : ∀ p ∈ D, p.1 < s := fun p hp => by
    have : p.1 ∈ D.map (·.1) := List.mem_map.2 ⟨p, hp, rfl⟩
    rw [hD1] at this
    exact List.mem_range.1 this
  have hclX : ∀ j, j < s → j ∉ X → reachB ops ops.size s j = true := fun j hj hx => by
    have := List.all_eq_true.1 hcl j (List.mem_range.2 hj)
    rw [Bool.or_eq_true] at this
    rcases this with h | h
    · exact absurd (by simpa using h) hx
    · exact h
  have hslot : ∀ p ∈ D, ∀ o, ops[p.1]? = some o → o.dst = some p.2 ∧ p.2 < a.tmps.size := fun p hp o ho => by
    have hd3 := List.all_eq_true.1 hD3 _ hp
    have hd4 := List.all_eq_true.1 hD4 _ hp
    simp only [ho, Option.bind_some, beq_iff_eq] at hd3
    exact ⟨hd3, by simp [Nat.blt] at hd4; omega⟩
  -- behind the write
  have keyB : ∀ (fuel : Nat) (listed : Array Bool) (w : World) (u : Nat → Value) (L : List Nat), listed.size = ops.size → L.length ≤ fuel → (∀ i, listed.getD i true = false → i ∈ L) → H w →
      (∀ i, listed.getD i true = false → i < s ∧ i ∈ X) → (∀ i, i < s → listed.getD i true = true → ∃ w1, φ i (u i) w1) → wpAny P .any ops Q fuel listed (puts D a u) w := by
    intro fuel
    induction fuel with
    | zero =>
      intro listed w u L hs hL hin hh hX hφ
      have hall : ∀ i, listed.getD i true = true := fun i => by
        cases hi : listed.getD i true with
        | true => rfl
        | false => have := hin i hi; rw [List.length_eq_zero_iff.1 (Nat.le_zero.1 hL)] at this; cases this
      refine ⟨?_, fin u w hh fun p hp => hφ p.1 (hltD p hp) (hall _)⟩
      rw [List.eq_nil_iff_forall_not_mem]
      intro i hi
      have := (mem_ready.1 hi).2.1
      rw [hall i] at this
      cases this
    | succ fuel ih =>
      intro listed w u L hs hL hin hh hX hφ
      refine ⟨fun hr => fin u w hh fun p hp => hφ p.1 (hltD p hp) (all_listedX hord hs hr _), fun i hi => ?_⟩
      obtain ⟨h1, h2, o, ho, h3⟩ := mem_ready.1 hi
      obtain ⟨his, hiX⟩ := hX i h2
      obtain ⟨d, hp⟩ := hmemD i his
      have hst := stepX _ hp hiX u w hh (fun o' ho' e he hb => by
        obtain rfl := Option.some.inj (ho'.symm.trans ho)
        have hl := h3 e he hb
        have hlt : e.on < ops.size := by
          rw [← hs]
          by_cases hl2 : e.on < listed.size
          · exact hl2
          · simp [Array.getD, hl2] at hl
        have hes : e.on < s := by
          unfold ordX at hord
          have h4 := List.all_eq_true.1 hord i (List.mem_range.2 h1)
          rw [ho] at h4
          simp only [Option.map_some, Option.getD_some, Array.all_eq_true_iff_forall_mem] at h4
          have h5 := h4 e (by simpa using he)
          have h6 : e.on < i := by simpa [hb] using h5
          omega
        refine hφ e.on hes ?_
        rw [getD_tf (by omega)]
        exact hl)
      obtain ⟨hd3, hd5⟩ := hslot _ hp o ho
      have hst2 := wpOp_value (R := fun v w' => (∃ w1, φ i v w1) ∧ H w') ho hd3 (by rw [puts_size]; exact hd5) hst
      refine wpOp_mono ?_ hst2
      rintro a' w' ⟨v, rfl, hv, hh'⟩
      rw [puts_put u i d v D a hnd1 hD2 hp]
      refine ih _ w' (upd u i v) (L.erase i) (by simpa using hs) ?_ ?_ hh' ?_ ?_
      · rw [List.length_erase_of_mem (hin i h2)]
        omega
      · intro j hj
        have hji : j ≠ i := fun e => by
          subst e
          have : j < listed.size := by omega
          simp [Array.getD, this] at hj
        rw [getD_set_other (Ne.symm hji)] at hj
        exact (List.mem_erase_of_ne hji).2 (hin j hj)
      · intro j hj
        have hji : j ≠ i := fun e => by
          subst e
          have : j < listed.size := by omega
          simp [Array.getD, this] at hj
        rw [getD_set_other (Ne.symm hji)] at hj
        exact hX j hj
      · intro j hj hl
        by_cases hji : j = i
        · subst hji
          simpa [upd] using hv
        · have e1 : upd u i v j = u j := by simp [upd, hji]
          rw [e1]
          rw [getD_set_other (Ne.symm hji)] at hl
          exact hφ j hj hl
  -- ahead of the write
  have keyA : ∀ (fuel : Nat) (listed : Array Bool) (w : World) (u : Nat → Value) (L : List Nat), listed.size = ops.size → L.length ≤ fuel → (∀ i, listed.getD i true = false → i ∈ L) → listed.getD s true = false → Anc ops listed → G w →
      (∀ i, i < s → listed.getD i true = true → φ i (u i) w) → wpAny P .any ops Q fuel listed (puts D a u) w := by
    intro fuel
    induction fuel with
    | zero =>
      intro listed w u L hs hL hin hns _ hg hφ
      have := hin s hns
      rw [List.length_eq_zero_iff.1 (Nat.le_zero.1 hL)] at this
      cases this
    | succ fuel ih =>
      intro listed w u L hs hL hin hns hanc hg hφ
      refine ⟨fun hr => ?_, fun i hi => ?_⟩
      · have := all_listedX hord hs hr s
        rw [hns] at this
        cases this
      · obtain ⟨h1, h2, o, ho, h3⟩ := mem_ready.1 hi
        have hancn : Anc ops (listed.setIfInBounds i true) := by
          intro j o' ho' hl e he hb
          by_cases ej : i = j
          · subst ej
            obtain rfl := Option.some.inj (ho'.symm.trans ho)
            have := h3 e he hb
            by_cases e2 : i = e.on
            · rw [← e2, getD_set_self (by omega)]
            · rw [getD_set_other e2]; exact this
          · rw [getD_set_other ej] at hl
            have := hanc j o' ho' hl e he hb
            by_cases e2 : i = e.on
            · rw [← e2, getD_set_self (by omega)]
            · rw [getD_set_other e2]; exact this
        by_cases his : i = s
        · subst his
          have hall : ∀ j, j < i → j ∉ X → listed.getD j false = true := fun j hj hx =>
            reach_listed hanc ops.size i j (fun o' ho' e he hb => by
              obtain rfl := Option.some.inj (ho'.symm.trans ho)
              exact h3 e he hb) (hclX j hj hx)
          have hod : o.dst = none := by
            rw [ho] at hS
            simpa using hS
          refine wpOp_mono ?_ (wpOp_none ho hod (stepS u w hg fun p hp hx => hφ p.1 (hltD p hp) (by rw [getD_tf (by have := hltD p hp; omega)]; exact hall p.1 (hltD p hp) hx)))
          rintro a' w' ⟨rfl, hh⟩
          refine keyB fuel _ w' u (L.erase i) (by simpa using hs) ?_ ?_ hh ?_ ?_
          · rw [List.length_erase_of_mem (hin i h2)]
            omega
          · intro j hj
            have hji : j ≠ i := fun e => by
              subst e
              have : j < listed.size := by omega
              simp [Array.getD, this] at hj
            rw [getD_set_other (Ne.symm hji)] at hj
            exact (List.mem_erase_of_ne hji).2 (hin j hj)
          · intro j hj
            have hji : j ≠ i := fun e => by
              subst e
              have : j < listed.size := by omega
              simp [Array.getD, this] at hj
            rw [getD_set_other (Ne.symm hji)] at hj
            have hjl : j < listed.size := by
              by_cases hl : j < listed.size
              · exact hl
              · simp [Array.getD, hl] at hj
            refine ⟨by omega, Classical.byContradiction fun hx => ?_⟩
            have := hall j (by omega) hx
            rw [← getD_tf hjl, hj] at this
            cases this
          · intro j hj hl
            have hji : i ≠ j := by omega
            rw [getD_set_other hji] at hl
            exact ⟨w, hφ j hj hl⟩
        · have his2 : i < s := by omega
          obtain ⟨d, hp⟩ := hmemD i his2
          have hst := step _ hp u w hg (fun o' ho' e he hb => by
            obtain rfl := Option.some.inj (ho'.symm.trans ho)
            have hl := h3 e he hb
            have hlt : e.on < listed.size := by
              by_cases hl2 : e.on < listed.size
              · exact hl2
              · simp [Array.getD, hl2] at hl
            have hes : e.on < s := by
              unfold ordX at hord
              have h4 := List.all_eq_true.1 hord i (List.mem_range.2 h1)
              rw [ho] at h4
              simp only [Option.map_some, Option.getD_some, Array.all_eq_true_iff_forall_mem] at h4
              have h5 := h4 e (by simpa using he)
              have h6 : e.on < i := by simpa [hb] using h5
              omega
            refine hφ e.on hes ?_
            rw [getD_tf hlt]
            exact hl)
          obtain ⟨hd3, hd5⟩ := hslot _ hp o ho
          have hst2 := wpOp_value (R := fun v w' => φ i v w' ∧ G w' ∧ Below w.heap.size w w') ho hd3 (by rw [puts_size]; exact hd5) hst
          refine wpOp_mono ?_ hst2
          rintro a' w' ⟨v, rfl, hv, hg', hb'⟩
          rw [puts_put u i d v D a hnd1 hD2 hp]
          refine ih _ w' (upd u i v) (L.erase i) (by simpa using hs) ?_ ?_ (by rw [getD_set_other his]; exact hns) hancn hg' ?_
          · rw [List.length_erase_of_mem (hin i h2)]
            omega
          · intro j hj
            have hji : j ≠ i := fun e => by
              subst e
              have : j < listed.size := by omega
              simp [Array.getD, this] at hj
            rw [getD_set_other (Ne.symm hji)] at hj
            exact (List.mem_erase_of_ne hji).2 (hin j hj)
          · intro j hj hl
            by_cases hji : j = i
            · subst hji
              simpa [upd] using hv
            · have e1 : upd u i v j = u j := by simp [upd, hji]
              rw [e1]
              rw [getD_set_other (Ne.symm hji)] at hl
              exact hmono j _ w w' (hφ j hj hl) hb'
  have hu : ∃ u : Nat → Value, puts D a u = a := by
    refine ⟨fun i => ((D.find? fun p => p.1 == i).map fun p => a.tmps.getD p.2 undef).getD undef, puts_self _ _ _ fun p hp => ?_⟩
    have : D.find? (fun q => q.1 == p.1) = some p := by
      clear fin step stepX stepS hD2 hD1 hD3 hD4 keyA keyB hmemD hltD hslot
      induction D with
      | nil => cases hp
      | cons q D ih =>
        rw [List.map_cons, List.nodup_cons] at hnd1
        rcases List.mem_cons.1 hp with rfl | hp
        · simp
        · have hne : (q.1 == p.1) = false := by
            rw [beq_eq_false_iff_ne]
            intro e
            exact hnd1.1 (List.mem_map.2 ⟨p, hp, e.symm⟩)
          rw [List.find?_cons, hne]
          exact ih hnd1.2 hp
    simp only [this, Option.map_some, Option.getD_some]
  obtain ⟨u, hu⟩ := hu
  have hfF : ∀ i, (Array.replicate ops.size false).getD i false = false := fun i => by
    by_cases h : i < ops.size <;> simp [Array.getD, h]
  have := keyA ops.size (Array.replicate ops.size false) w.drew u (List.range ops.size) (by simp) (by simp) (fun i hi => by
    rw [List.mem_range]
    by_cases hl : i < ops.size
    · exact hl
    · simp [Array.getD, hl] at hi) (by simp [Array.getD, hsz]) (fun i o _ hl => by rw [hfF] at hl; cases hl) hG (fun i hi hl => by
    have : i < ops.size := by omega
    simp [Array.getD, this] at hl)
  rw [hu] at this
  exact this
end

end Go.Proofs.Ytpeofjlecgenbaa

/- A guarded operation whose guard holds, in a region that draws its order (for region_inv's steps). -/
namespace Go.Proofs.Ytpeofjlecgenbaa
open Go.RowKit
section
variable {P : Program} {ops : Array Oper} {Q : Exit → Act → World → Prop}
theorem put_get (a : Act) (d : Nat) (v : Value) (hs : d < a.tmps.size) : (a.put (some d) v).tmps.getD d undef = v := by simp [Act.put, hs]
theorem put_get_ne (a : Act) (d e : Nat) (v : Value) (h : e ≠ d) : (a.put (some d) v).tmps.getD e undef = a.tmps.getD e undef := by
  simp only [Act.put, Array.getD_eq_getD_getElem?, Array.getElem?_setIfInBounds]
  rw [if_neg (fun e' => h e'.symm)]
theorem puts_get_out (u : Nat → Value) : ∀ (D : List (Nat × Nat)) (a : Act) (d : Nat), (∀ p ∈ D, p.2 ≠ d) → (puts D a u).tmps.getD d undef = a.tmps.getD d undef
  | [], _, _, _ => rfl
  | p :: D, a, d, h => by
    show (puts D (a.put (some p.2) (u p.1)) u).tmps.getD d undef = _
    rw [puts_get_out u D _ d fun q hq => h q (List.mem_cons_of_mem _ hq), put_get_ne _ _ _ _ (fun e => h p (List.mem_cons_self ..) e.symm)]
theorem puts_get (u : Nat → Value) (i d : Nat) : ∀ (D : List (Nat × Nat)) (a : Act), (D.map (·.2)).Nodup → (i, d) ∈ D → Nat.blt d a.tmps.size = true → (puts D a u).tmps.getD d undef = u i
  | p :: D, a, hn, hm, hs0 => by
    have hs : d < a.tmps.size := Nat.blt_eq ▸ hs0
    rw [List.map_cons, List.nodup_cons] at hn
    show (puts D (a.put (some p.2) (u p.1)) u).tmps.getD d undef = _
    rcases List.mem_cons.1 hm with rfl | hm
    · rw [puts_get_out u D _ d fun q hq e => hn.1 (List.mem_map.2 ⟨q, hq, e⟩), put_get _ _ _ hs]
    · exact puts_get u i d D _ hn.2 hm (by simpa [Act.put] using hs0)
theorem puts_room (u : Nat → Value) {D : List (Nat × Nat)} {a : Act} {d : Nat} (h : Nat.blt d a.tmps.size = true) : d < (puts D a u).tmps.size := by rw [puts_size]; exact Nat.blt_eq ▸ h
theorem wpOp_guard {i : Nat} {o : Oper} {a : Act} {w : World} {K : Act → World → Prop} (ho : ops[i]? = some o) (j d : Nat) (b : Bool) (hgd : o.guard = some (j, b)) (hd : (ops[j]?).bind (·.dst) = some d) (hs : d < a.tmps.size) (hv : a.tmps.getD d undef = .bool b)
    (h : ∀ K' : Act → World → Prop, (∀ a w, K a w → K' a w) → o.wp P a w K' Q) : wpOp P ops Q i K a w := by
  have hy : yielded ops a.tmps j = some b := by
    unfold yielded
    rw [hd]
    have : a.tmps[d]? = some (.bool b) := by
      rw [Array.getD_eq_getD_getElem?] at hv
      rw [Array.getElem?_eq_getElem hs] at hv ⊢
      simpa using hv
    simp [this]
  unfold wpOp
  rw [ho]
  show if Region.wanted o (yielded ops a.tmps) = true then _ else _
  rw [if_pos (by unfold Region.wanted; rw [hgd]; simp [hy])]
  exact .inl (h K fun _ _ h => h)
theorem wpOp_skip {i : Nat} {o : Oper} {a : Act} {w : World} {K : Act → World → Prop} (ho : ops[i]? = some o) (j d : Nat) (b : Bool) (hgd : o.guard = some (j, b)) (hd : (ops[j]?).bind (·.dst) = some d) (hs : d < a.tmps.size) (hv : a.tmps.getD d undef = .bool !b)
    (h : K (a.put o.dst undef) w) : wpOp P ops Q i K a w := by
  have hy : yielded ops a.tmps j = some !b := by
    unfold yielded
    rw [hd]
    have : a.tmps[d]? = some (.bool !b) := by
      rw [Array.getD_eq_getD_getElem?] at hv
      rw [Array.getElem?_eq_getElem hs] at hv ⊢
      simpa using hv
    simp [this]
  unfold wpOp
  rw [ho]
  show if Region.wanted o (yielded ops a.tmps) = true then _ else _
  rw [if_neg (by unfold Region.wanted; rw [hgd]; cases b <;> simp [hy])]
  exact h
end
end Go.Proofs.Ytpeofjlecgenbaa

/- append onto a slice of one's own, copy into a block of one's own: at the walk's list, what the operation is in one closed premise, the world behind under a letter. -/
namespace Go.Proofs.Ytpeofjlecgenbaa
open Go.RowKit

def appendOf (o : Oper) (a : Act) : Option (TypeId × TypeId × Value × Value) :=
  match o.guard, o.op with
  | none, .call c => match c.callee, c.args.toList, c.argTypes.toList with
    | .builtin .append, [x, y], [t, t'] => some (t, t', a.eval x, a.eval y)
    | _, _, _ => none
  | _, _ => none
theorem appendOf_spec {o : Oper} {a : Act} {t t' : TypeId} {u v : Value} (h : appendOf o a = some (t, t', u, v)) :
    o.guard = none ∧ ∃ x y, o.op = .call { callee := .builtin .append, args := #[x, y], argTypes := #[t, t'] } ∧ a.eval x = u ∧ a.eval y = v := by
  unfold appendOf at h
  split at h
  · rename_i c hg ho
    split at h
    · rename_i x y s s' h1 h2 h3
      simp only [Option.some.injEq, Prod.mk.injEq] at h
      refine ⟨hg, x, y, ?_, h.2.2.1, h.2.2.2⟩
      rw [ho]
      congr 1
      cases c with
      | mk cal ar at' =>
        simp only at h1 h2 h3
        have e2 : ar = #[x, y] := by rw [← Array.toArray_toList (xs := ar), h2]
        have e3 : at' = #[s, s'] := by rw [← Array.toArray_toList (xs := at'), h3]
        simp [h1, e2, e3, h.1, h.2.1]
    · cases h
  · cases h
def copyOf (o : Oper) (a : Act) : Option (TypeId × TypeId × Value × Value) :=
  match o.guard, o.op with
  | none, .call c => match c.callee, c.args.toList, c.argTypes.toList with
    | .builtin .copy, [x, y], [t, t'] => some (t, t', a.eval x, a.eval y)
    | _, _, _ => none
  | _, _ => none
theorem copyOf_spec {o : Oper} {a : Act} {t t' : TypeId} {u v : Value} (h : copyOf o a = some (t, t', u, v)) :
    o.guard = none ∧ ∃ x y, o.op = .call { callee := .builtin .copy, args := #[x, y], argTypes := #[t, t'] } ∧ a.eval x = u ∧ a.eval y = v := by
  unfold copyOf at h
  split at h
  · rename_i c hg ho
    split at h
    · rename_i x y s s' h1 h2 h3
      simp only [Option.some.injEq, Prod.mk.injEq] at h
      refine ⟨hg, x, y, ?_, h.2.2.1, h.2.2.2⟩
      rw [ho]
      congr 1
      cases c with
      | mk cal ar at' =>
        simp only at h1 h2 h3
        have e2 : ar = #[x, y] := by rw [← Array.toArray_toList (xs := ar), h2]
        have e3 : at' = #[s, s'] := by rw [← Array.toArray_toList (xs := at'), h3]
        simp [h1, e2, e3, h.1, h.2.1]
    · cases h
  · cases h

/-- A fact with a great numeral: 'contradiction', which opens every definition, is kept from it. -/
structure Big (p : Prop) : Prop where
  out : p

/-- A type of one cell, of some bytes. -/
structure One (P : Program) (e : TypeId) : Prop where
  row : ∃ i z, P.info? e = some i ∧ i.zero = some z ∧ i.size = 1 ∧ z.cells.size = 1 ∧ i.bytes ≤ 64

section
variable {P : Program}
theorem One.of {e : TypeId} (h : ((P.info? e).map fun i => (i.zero.map fun z => z.cells.size) == some 1 && i.size == 1 && decide (i.bytes ≤ 64)) = some true) : One P e := by
  generalize hq : P.info? e = q at h
  match q with
  | none => cases h
  | some i =>
    simp only [Option.map_some, Option.some.injEq, Bool.and_eq_true, beq_iff_eq, decide_eq_true_eq] at h
    obtain ⟨⟨h1, h2⟩, h3⟩ := h
    generalize hz : i.zero = zz at h1
    match zz with
    | none => cases h1
    | some z =>
      simp only [Option.map_some, Option.some.injEq] at h1
      exact ⟨i, z, hq, hz, h2, h1, h3⟩

/-- append(v, l...): v a slice of one's own, l what lies at an address. -/
theorem wpAppendK {ops : Array Oper} {rest : List Oper} {o : Oper} {a : Act} {w : World} {Q : Exit → Act → World → Prop} {base n m : Nat} {T e : TypeId} {v : Value} {xs news : List Value} {p : Option Addr} (c : Nat)
    (hown : w.ownsRow base e 1 v n xs) (hT : P.underlying T = some (.slice e)) (he : One P e) (hs : Lies w w.heap.size p news) (hl : news.length = m) (hm : 0 < m) (h1 : news.all (·.oneCell') = true) (hn : Big (n + m ≤ 1099511627776)) (hbase : base ≤ w.heap.size)
    (ho : appendOf o a = some (T, T, v, .slice p m c))
    (k : ∀ v' w', w'.ownsRow base e 1 v' (n + m) (xs ++ news) → w.grownBy w' v.ownBlock → (v'.ownBlock = v.ownBlock ∨ v'.ownBlock = some w.heap.size) → wpList P ops Q rest (a.put o.dst v') w') : wpList P ops Q (o :: rest) a w := by
  obtain ⟨hg, x, y, hop, hx, hy⟩ := appendOf_spec ho
  obtain ⟨i, z, hi, hz, h2, h3, h4⟩ := he.row
  obtain ⟨b, off, rfl, hb, hc⟩ := hs (by omega)
  refine wpList_append_own_at w hg x y T hop base e i z 1 i.bytes hT hi hz h2 rfl h3 (by omega) v n xs hx hown ⟨b, off, none⟩ m c news hy (by omega) ?_ (fun u hu => (List.all_eq_true.1 h1) u hu) ?_ ?_ hbase fun v' w' g1 g2 _ g4 => k v' w' g1 g2 g4
  · intro j u hj
    rw [Addr.add_mid]
    exact hc j u hj
  · have := hn.out; unfold maxLen; omega
  · exact Nat.le_trans (Nat.mul_le_mul hn.out h4) (by omega)

/-- append(v, u). -/
theorem wpAppend1K {ops : Array Oper} {rest : List Oper} {o : Oper} {a : Act} {w : World} {Q : Exit → Act → World → Prop} {base n : Nat} {T e : TypeId} {v u : Value} {xs : List Value} {p : Option Addr}
    (hown : w.ownsRow base e 1 v n xs) (hT : P.underlying T = some (.slice e)) (he : One P e) (hs : Lies w w.heap.size p [u]) (h1 : u.oneCell' = true) (hn : Big (n + 1 ≤ 1099511627776)) (hbase : base ≤ w.heap.size)
    (ho : appendOf o a = some (T, T, v, .slice p 1 1))
    (k : ∀ v' w', w'.ownsRow base e 1 v' (n + 1) (xs ++ [u]) → w.grownBy w' v.ownBlock → (v'.ownBlock = v.ownBlock ∨ v'.ownBlock = some w.heap.size) → wpList P ops Q rest (a.put o.dst v') w') : wpList P ops Q (o :: rest) a w :=
  wpAppendK 1 hown hT he hs rfl Nat.one_pos (by simp [h1]) hn hbase ho k

theorem run_copy_string (w : World) (dT sT ty elem : TypeId) (b o dLen dCap : Nat) (s : ByteArray) (hu : P.underlying dT = some (.slice elem)) (hs : (P.info? elem).map (·.size) = some 1)
    (hc : w.there b o (Nat.min s.size dLen)) :
    (Builtin.copy_ #[dT, sT] ty #[.slice (some ⟨b, o, none⟩) dLen dCap, .string s]).run P w = .ok (goInt (Nat.min s.size dLen)) (w.setCells b o (bytes (s.data.toList.take (Nat.min s.size dLen)))) := by
  have hl : (bytes (s.data.toList.take (Nat.min s.size dLen))).length = Nat.min s.size dLen := by
    rw [bytes_length, List.length_take, size_list]
    exact Nat.min_eq_left (Nat.min_le_left _ _)
  have hst := run_storeCells_cells (P := P) b o (bytes (s.data.toList.take (Nat.min s.size dLen))) 0 w (fun j hj => by simpa using (hc j (by omega)).1) (fun j hj => by simpa using (hc j (by omega)).2)
    (fun v hv => by simp only [bytes, List.mem_map] at hv; obtain ⟨c, _, rfl⟩ := hv; rfl)
  cases hq : P.info? elem with
  | none => simp [hq] at hs
  | some i =>
    have hi : i.size = 1 := by simpa [hq] using hs
    simp only [Nat.add_zero, bytes, List.map_take] at hst
    simp [Builtin.copy_, run_underlying hu, Builtin.lenOf, Builtin.firstCells, sizeOf, typeInfo, hq, hst, bytes, List.map_take]

/-- copy(d, s): d a part of a block of one's own, s a text. -/
theorem Row.wpCopyK {ops : Array Oper} {rest : List Oper} {o : Oper} {a : Act} {w : World} {Q : Exit → Act → World → Prop} {g i dLen n : Nat} {t T e : TypeId} {x y z : List Value} {s : ByteArray} (h : Row w g t (x ++ y ++ z)) (hx0 : x.length = i) (T' : TypeId) (dCap : Nat)
    (hT : P.underlying T = some (.slice e)) (he : One P e) (hn : Nat.min s.size dLen = n) (hy : y.length = n) (ho : copyOf o a = some (T, T', .slice (some ⟨g, i, none⟩) dLen dCap, .string s))
    (k : ∀ w', Row w' g t (x ++ bytes (s.data.toList.take n) ++ z) → Only g w w' → w'.heap.size = w.heap.size → wpList P ops Q rest (a.put o.dst (.int .i64 (n : Int))) w') : wpList P ops Q (o :: rest) a w := by
  obtain ⟨hg, p, q, ho, hp, hq⟩ := copyOf_spec ho
  obtain ⟨ie, ze, hi, hz, h2, h3, h4⟩ := he.row
  refine wpList_plain hg fun K hK => ?_
  have hr := run_copy_string (P := P) w T T' o.type e g i dLen dCap s hT (by rw [hi]; simp [h2]) (by rw [hn]; exact h.there i n hx0 hy)
  unfold Oper.wp execOp
  simp only [ho, resolve, invoke, builtin, Sem.run_bind, Sem.run_pure, Result.andThen_ok, List.map_toArray, List.map_cons, List.map_nil, hp, hq, hr]
  rw [hn]
  have hl : (bytes (s.data.toList.take n)).length = n := by
    rw [bytes_length, List.length_take, size_list, ← hn]
    exact Nat.min_eq_left (Nat.min_le_left _ _)
  exact hK _ _ (k _ (Row.setCells _ h (by rw [hy, hl]) i hx0) (Only.setCells _ i (Only.refl g w)) (World.size_setCells _ _ _ _))
end

section
variable {P : Program}
/-- copy(d, s): d a part of a block of one's own, s what lies at an address. -/
theorem Row.wpCopyLK {ops : Array Oper} {rest : List Oper} {o : Oper} {a : Act} {w : World} {Q : Exit → Act → World → Prop} {g i dLen m : Nat} {t T e : TypeId} {x y z news : List Value} {p : Option Addr} (h : Row w g t (x ++ y ++ z)) (hx0 : x.length = i) (T' : TypeId) (dCap sCap : Nat)
    (hT : P.underlying T = some (.slice e)) (he : One P e) (hs : Lies w w.heap.size p news) (hl : news.length = m) (hm : 0 < m) (hd : m ≤ dLen) (hy : y.length = m) (h1 : news.all (·.oneCell') = true)
    (ho : copyOf o a = some (T, T', .slice (some ⟨g, i, none⟩) dLen dCap, .slice p m sCap))
    (k : ∀ w', Row w' g t (x ++ news ++ z) → Only g w w' → w'.heap.size = w.heap.size → wpList P ops Q rest (a.put o.dst (.int .i64 (m : Int))) w') : wpList P ops Q (o :: rest) a w := by
  obtain ⟨ie, ze, hi, hz, h2, h3, h4⟩ := he.row
  obtain ⟨b, off, rfl, hb, hc⟩ := hs (by omega)
  obtain ⟨hg, p', q', hop, hp, hq⟩ := copyOf_spec ho
  refine wpList_plain hg fun K hK => ?_
  have hr := run_copy_row (P := P) w T T' o.type e g i dLen dCap ⟨b, off, none⟩ m sCap (x ++ y ++ z).toArray t news hT (by rw [hi]; simp [h2]) h (by rw [hl]; exact (Nat.min_eq_left hd).symm) (fun j u hj => by rw [Addr.add_mid]; exact hc j u hj)
    (by simp only [List.size_toArray, List.length_append]; omega) (fun v hv => (List.all_eq_true.1 h1) v hv)
  have hcur : ((x ++ y ++ z).toArray.toList.take i ++ news ++ (x ++ y ++ z).toArray.toList.drop (i + news.length)).toArray = (x ++ news ++ z).toArray := by
    congr 1
    have e1 : (x ++ y ++ z).toArray.toList = x ++ (y ++ z) := by simp
    rw [e1, List.take_left' hx0, show i + news.length = i + y.length by omega, ← hx0, ← List.drop_drop, List.drop_left, List.drop_left]
  rw [hcur, hl] at hr
  unfold Oper.wp execOp
  simp only [hop, resolve, invoke, builtin, Sem.run_bind, Sem.run_pure, Result.andThen_ok, List.map_toArray, List.map_cons, List.map_nil, hp, hq, hr]
  exact hK _ _ (k _ (h.put _) ((Only.refl g w).putRow g _ (Or.inl rfl)) (by simp))
end

/-- A block of one's own as a slice that may be appended to. -/
theorem Row.owns {w : World} {g base n cap : Nat} {e : TypeId} {xs ys : List Value} (h : Row w g e (xs ++ ys)) (hb : base ≤ g) (hx : xs.length = n) (hy : ys.length = cap - n) (hn : n ≤ cap) (hcap : cap ≤ maxLen) : w.ownsRow base e 1 (.slice (some ⟨g, 0, none⟩) n cap) n xs :=
  ⟨by omega, .inr ⟨g, cap, _, rfl, hb, h, hn, hcap, by simp; omega, by simp [← hx]⟩⟩

theorem own_below {w w' : World} {base : Nat} {e : TypeId} {s : Nat} {v : Value} {n : Nat} {xs : List Value} (h : w.ownsRow base e s v n xs) (hb : Below w.heap.size w w') : w'.ownsRow base e s v n xs := by
  refine ⟨h.1, ?_⟩
  rcases h.2 with h | ⟨g, cap, cur, h1, h2, h3, h4⟩
  · exact .inl h
  · exact .inr ⟨g, cap, cur, h1, h2, (hb.block g (Array.getElem?_eq_some_iff.1 h3).1).trans h3, h4⟩
/-- The block of a slice of one's own, known whole. -/
theorem own_row {w : World} {base g n cap : Nat} {e : TypeId} {xs : List Value} (h : w.ownsRow base e 1 (.slice (some ⟨g, 0, none⟩) n cap) n xs) : base ≤ g ∧ ∃ ys, Row w g e (xs ++ ys) := by
  rcases h.2 with ⟨h1, _⟩ | ⟨g', cap', cur, h1, h2, h3, h4, h5, h6, h7⟩
  · cases h1
  · cases h1
    refine ⟨h2, cur.toList.drop n, ?_⟩
    rw [Nat.mul_one] at h7
    rw [← h7, List.take_append_drop]
    exact h3

/-! make([]T, n, c), T of one cell. -/
def makeOf (o : Oper) (a : Act) : Option (TypeId × Value × Value) := match o.guard, o.op with | none, .makeSlice t x y => some (t, a.eval x, a.eval y) | _, _ => none
theorem makeOf_spec {o : Oper} {a : Act} {t : TypeId} {u v : Value} (h : makeOf o a = some (t, u, v)) : o.guard = none ∧ ∃ x y, o.op = .makeSlice t x y ∧ a.eval x = u ∧ a.eval y = v := by
  unfold makeOf at h
  split at h
  · rename_i t' x y hg ho
    simp only [Option.some.injEq, Prod.mk.injEq] at h
    exact ⟨hg, x, y, by rw [ho, h.1], h.2.1, h.2.2⟩
  · cases h
theorem wpMakeK {P : Program} {ops : Array Oper} {rest : List Oper} {o : Oper} {a : Act} {w : World} {Q : Exit → Act → World → Prop} (T e : TypeId) (zv : Value) (n c : Nat) (hT : P.underlying T = some (.slice e)) (hz : (P.info? e).map (fun i => (i.zero, i.size, i.bytes)) = some (some zv, 1, 8) ∨ (P.info? e).map (fun i => (i.zero, i.size, i.bytes)) = some (some zv, 1, 1)) (hzc : zv.cells = #[zv])
    (hn : n ≤ c) (hc : c ≤ 1099511627776) (ho : makeOf o a = some (T, .int .i64 (n : Int), .int .i64 (c : Int)))
    (k : ∀ w', Row w' w.heap.size e (List.replicate c zv) → Below w.heap.size w w' → w'.heap.size = w.heap.size + 1 → wpList P ops Q rest (a.put o.dst (.slice (some ⟨w.heap.size, 0, none⟩) n c)) w') : wpList P ops Q (o :: rest) a w := by
  obtain ⟨hg, x, y, hop, hx, hy⟩ := makeOf_spec ho
  cases hq : P.info? e with
  | none => rw [hq] at hz; rcases hz with h | h <;> cases h
  | some i =>
    rw [hq] at hz
    have hi : i.zero = some zv ∧ i.size = 1 ∧ i.bytes ≤ 8 := by
      rcases hz with h | h <;> simp only [Option.map_some, Option.some.injEq, Prod.mk.injEq] at h <;> exact ⟨h.1, h.2.1, by omega⟩
    have hb : (i.bytes : Int) * (c : Int) ≤ 281474976710656 := by
      have h1 : i.bytes * c ≤ 8 * 1099511627776 := Nat.mul_le_mul hi.2.2 hc
      have h2 : ((i.bytes * c : Nat) : Int) ≤ 281474976710656 := by omega
      rwa [Int.natCast_mul] at h2
    have hr := run_make (P := P) w T e i zv hT hq hi.1 .i64 .i64 (n : Int) (c : Int) (by omega) (by omega) hb (by omega)
    rw [Int.toNat_natCast, Int.toNat_natCast, hi.2.1, Nat.mul_one, hzc] at hr
    have hm : madeCells #[zv] c = (List.replicate c zv).toArray := by
      apply Array.ext'
      rw [toList_madeCells_one]
    rw [hm] at hr
    refine wpList_plain hg fun K hK => ?_
    unfold Oper.wp execOp
    simp only [hop, hx, hy, Sem.run_bind, hr, Result.andThen_ok]
    exact hK _ _ (k _ (Row.new w e _) ((Below.refl _ _).alloc (Nat.le_refl _) _) (by simp))

/-! A list that is laid over another one, from its head on. -/
def over {α : Type} (L P : List α) (i : Nat) : List α := L.take i ++ P.drop i
section
variable {α : Type}
theorem over_zero (L P : List α) : over L P 0 = P := by simp [over]
theorem over_full (L P : List α) (i : Nat) (h1 : L.length ≤ i) (h2 : P.length ≤ i) : over L P i = L := by rw [over, List.take_of_length_le h1, List.drop_of_length_le h2, List.append_nil]
theorem over_length (L P : List α) (i : Nat) (h : L.length = P.length) : (over L P i).length = P.length := by simp [over]; omega
theorem over_get (L P : List α) (i : Nat) (h : L.length = P.length) (hi : i < P.length) : (over L P i)[i]? = some P[i] := by
  rw [over, List.getElem?_append_right (by simp; omega), List.getElem?_drop, List.getElem?_eq_getElem (by simp; omega)]
  congr 2
  simp
  omega
theorem over_step (L P : List α) (i : Nat) (h : L.length = P.length) (hi : i < L.length) : (over L P i).set i L[i] = over L P (i + 1) := by
  have h1 : (L.take i).length = i := by simp; omega
  rw [over, over, List.take_succ_eq_append_getElem hi, List.set_append_right _ _ (by omega), h1, Nat.sub_self, List.append_assoc, List.drop_eq_getElem_cons (by omega : i < P.length), List.set_cons_zero]
  rfl
end
theorem bytes_set (l : List UInt8) (j : Nat) (c : UInt8) : (bytes l).set j (.int .u8 (c.toNat : Int)) = bytes (l.set j c) := by simp [bytes, List.map_set]

end Go.Proofs.Ytpeofjlecgenbaa

/- A flash device as a value (mathematics: no program). -/
namespace FlaMath
structure Dv where
  fb : Int
  fm : UInt8
  lit : Bool
  left : Int
  C : List UInt8
  L : List Bool
  E : List Int
  ops : Int
  dn : Bool
structure Dv.Ok (D : Dv) : Prop where
  one : 1 ≤ D.L.length
  top : D.L.length ≤ 512
  cells : D.C.length = 64 * D.L.length
  worn : D.E.length = D.L.length
/-- How many of n bytes are done when it is torn. -/
def reach (fb : Int) (n : Nat) : Nat := ((fb.tmod (n + 1) + n + 1).tmod (n + 1)).toNat
theorem reach_le (fb : Int) (n : Nat) : reach fb n ≤ n := by
  unfold reach
  have := Int.tmod_lt_of_pos (fb.tmod (n + 1) + n + 1) (b := (n : Int) + 1) (by omega)
  omega
theorem reach_eq (fb : Int) (n : Nat) : (fb.tmod (n + 1) + n + 1).tmod (n + 1) = (reach fb n : Int) := by
  unfold reach
  have h0 := Int.lt_tmod_of_pos fb (b := (n : Int) + 1) (by omega)
  have := Int.tmod_nonneg (a := fb.tmod (n + 1) + n + 1) ((n : Int) + 1) (by omega)
  omega
/-- Bytes o .. of a list: k of them by f. -/
def prog (C : List UInt8) (o k : Nat) (f : Nat → UInt8 → UInt8) : List UInt8 := C.mapIdx fun i c => if o ≤ i ∧ i < o + k then f (i - o) c else c
theorem prog_length (C : List UInt8) (o k : Nat) (f : Nat → UInt8 → UInt8) : (prog C o k f).length = C.length := by simp [prog]
theorem prog_zero (C : List UInt8) (o : Nat) (f : Nat → UInt8 → UInt8) : prog C o 0 f = C := by
  apply List.ext_getElem (by simp [prog])
  intro i h1 h2
  simp only [prog, List.getElem_mapIdx]
  rw [if_neg (by omega)]
theorem prog_get (C : List UInt8) (o k : Nat) (f : Nat → UInt8 → UInt8) (i : Nat) (h : i < C.length) : (prog C o k f)[i]'(by rw [prog_length]; exact h) = if o ≤ i ∧ i < o + k then f (i - o) C[i] else C[i] := by
  simp only [prog, List.getElem_mapIdx]
theorem prog_at (C : List UInt8) (o k : Nat) (f : Nat → UInt8 → UInt8) (h : o + k < C.length) : (prog C o k f)[o + k]'(by rw [prog_length]; exact h) = C[o + k] := by
  rw [prog_get _ _ _ _ _ h, if_neg (by omega)]
theorem prog_step (C : List UInt8) (o k : Nat) (f : Nat → UInt8 → UInt8) (h : o + k < C.length) : (prog C o k f).set (o + k) (f k C[o + k]) = prog C o (k + 1) f := by
  apply List.ext_getElem (by simp [prog])
  intro i h1 h2
  simp only [prog, List.getElem_set, List.getElem_mapIdx]
  by_cases e : o + k = i
  · subst e
    rw [if_pos rfl, if_pos (by omega), show o + k - o = k by omega]
  · rw [if_neg e]
    by_cases hi : o ≤ i ∧ i < o + k
    · rw [if_pos hi, if_pos (by omega)]
    · rw [if_neg hi, if_neg (by omega)]
/-- .. and the next, if there is one before n, by g. -/
def work (C : List UInt8) (o n r : Nat) (f g : Nat → UInt8 → UInt8) : List UInt8 := if r < n then (prog C o r f).set (o + r) (g r (C.getD (o + r) 0)) else prog C o r f
theorem work_length (C : List UInt8) (o n r : Nat) (f g : Nat → UInt8 → UInt8) : (work C o n r f g).length = C.length := by
  unfold work
  split
  · rw [List.length_set, prog_length]
  · rw [prog_length]
theorem work_get (C : List UInt8) (o n r : Nat) (f g : Nat → UInt8 → UInt8) (i : Nat) (h : i < C.length) :
    (work C o n r f g)[i]'(by rw [work_length]; exact h) = if o ≤ i ∧ i < o + r then f (i - o) C[i] else if i = o + r ∧ r < n then g r C[i] else C[i] := by
  by_cases hr : r < n
  · simp only [work, if_pos hr, List.getElem_set]
    by_cases e : o + r = i
    · subst e
      rw [if_pos rfl, if_neg (by omega), if_pos ⟨rfl, hr⟩, List.getD_eq_getElem?_getD, List.getElem?_eq_getElem h]; rfl
    · rw [if_neg e, prog_get _ _ _ _ _ h]
      by_cases hi : o ≤ i ∧ i < o + r
      · rw [if_pos hi, if_pos hi]
      · rw [if_neg hi, if_neg hi, if_neg (by omega)]
  · simp only [work, if_neg hr]
    rw [prog_get _ _ _ _ _ h]
    by_cases hi : o ≤ i ∧ i < o + r
    · rw [if_pos hi, if_pos hi]
    · rw [if_neg hi, if_neg hi, if_neg (by omega)]
def fE (_ : Nat) (_ : UInt8) : UInt8 := 255
def gE (m : UInt8) (_ : Nat) (c : UInt8) : UInt8 := c ||| m
def fP (l : List UInt8) (k : Nat) (c : UInt8) : UInt8 := c &&& l.getD k 0
def gP (l : List UInt8) (m : UInt8) (k : Nat) (c : UInt8) : UInt8 := c &&& (l.getD k 0 ||| m)
/-- The state when power comes back. -/
def Dv.on (D : Dv) : Dv := { D with fb := 0, fm := 0, lit := false, left := 0, dn := false }
def Dv.fuse (D : Dv) (n fb : Int) (fm : UInt8) : Dv := { D with fb := fb, fm := fm, lit := decide (0 ≤ n), left := n }
/-- Sectors a .. b - 1 are locked. -/
def lockF (L : List Bool) (a b : Nat) : List Bool := L.mapIdx fun i x => if a ≤ i ∧ i < b then true else x
theorem lockF_length (L : List Bool) (a b : Nat) : (lockF L a b).length = L.length := by simp [lockF]
theorem lockF_self (L : List Bool) (a : Nat) : lockF L a a = L := by
  apply List.ext_getElem (by simp [lockF])
  intro i h1 h2
  simp [lockF]
  omega
theorem lockF_step (L : List Bool) (a b : Nat) (hab : a ≤ b) : (lockF L a b).set b true = lockF L a (b + 1) := by
  apply List.ext_getElem (by simp [lockF])
  intro i h1 h2
  simp only [lockF, List.getElem_set, List.getElem_mapIdx]
  by_cases e : b = i
  · subst e
    simp [hab]
  · have : (a ≤ i ∧ i < b + 1) ↔ (a ≤ i ∧ i < b) := by omega
    simp only [e, if_false, this]
def lockE (n : Nat) (x y : Int) : Int := if x < 0 ∨ y < x ∨ (n : Int) < y then 2 else 0
def Dv.lock (D : Dv) (x y : Int) : Dv := if x < 0 ∨ y < x ∨ (D.L.length : Int) < y then D else { D with L := lockF D.L x.toNat y.toNat }
/-- Bytes o .. are turned by l. -/
def rotF (C : List UInt8) (o : Nat) (l : List UInt8) : List UInt8 := C.mapIdx fun i c => if o ≤ i ∧ i < o + l.length then c ^^^ l.getD (i - o) 0 else c
theorem rotF_length (C : List UInt8) (o : Nat) (l : List UInt8) : (rotF C o l).length = C.length := by simp [rotF]
theorem rotF_nil (C : List UInt8) (o : Nat) : rotF C o [] = C := by
  apply List.ext_getElem (by simp [rotF])
  intro i h1 h2
  simp [rotF]
  try omega
theorem rotF_at (C : List UInt8) (o : Nat) (l : List UInt8) (i : Nat) (h : i < C.length) (hi : o + l.length ≤ i) : (rotF C o l)[i]'(by rw [rotF_length]; exact h) = C[i] := by
  simp only [rotF, List.getElem_mapIdx]
  rw [if_neg (by omega)]
theorem rotF_step (C : List UInt8) (o k : Nat) (l : List UInt8) (hk : k < l.length) (h : o + k < C.length) : (rotF C o (l.take k)).set (o + k) (C[o + k] ^^^ l[k]) = rotF C o (l.take (k + 1)) := by
  apply List.ext_getElem (by simp [rotF])
  intro i h1 h2
  simp only [rotF, List.getElem_set, List.getElem_mapIdx, List.length_take]
  by_cases e : o + k = i
  · subst e
    rw [if_pos rfl, if_pos (by omega)]
    have : (l.take (k + 1)).getD (o + k - o) 0 = l[k] := by
      rw [show o + k - o = k by omega, List.getD_eq_getElem?_getD, List.getElem?_take_of_lt (by omega), List.getElem?_eq_getElem hk]; rfl
    rw [this]
  · rw [if_neg e]
    by_cases hi : o ≤ i ∧ i < o + k
    · rw [if_pos (by omega), if_pos (by omega), List.getD_eq_getElem?_getD, List.getD_eq_getElem?_getD, List.getElem?_take_of_lt (by omega), List.getElem?_take_of_lt (by omega)]
    · rw [if_neg (by omega), if_neg (by omega)]
def bey (n : Nat) (x y : Int) : Bool := decide (x < 0 ∨ y < 0 ∨ (n : Int) - x < y)
/-- What idle tells. -/
def idl (d : Bool) : Int := if d then 5 else 0
def readE (D : Dv) (x y : Int) : Int := if D.dn then 5 else if bey D.C.length x y then 2 else 0
def Dv.readD (D : Dv) (x y : Int) (op : Int) : Dv := if readE D x y = 0 then { D with ops := op } else D
def readS (D : Dv) (x y : Int) : List UInt8 := if readE D x y = 0 then (D.C.drop x.toNat).take y.toNat else []
def rotE (D : Dv) (x : Int) (l : List UInt8) : Int := if bey D.C.length x l.length then 2 else 0
def Dv.rot (D : Dv) (x : Int) (l : List UInt8) : Dv := if rotE D x l = 0 then { D with C := rotF D.C x.toNat l } else D
end FlaMath

/- A flash device in memory; those of its functions that only read. -/
namespace Go.Proofs.Ytpeofjlecgenbaa
open Go.RowKit FlaMath
set_option linter.unusedVariables false
set_option maxRecDepth 100000

/-- Of what was there nothing has turned but the blocks of S. -/
def Onl (S : List Nat) (w w' : World) : Prop := w'.os = w.os ∧ w'.tape = w.tape ∧ w'.output = w.output ∧ w.heap.size ≤ w'.heap.size ∧ ∀ k, k < w.heap.size → k ∉ S → w'.heap[k]? = w.heap[k]?
theorem Onl.refl (S : List Nat) (w : World) : Onl S w w := ⟨rfl, rfl, rfl, Nat.le_refl _, fun _ _ _ => rfl⟩
theorem Onl.size {S : List Nat} {w w' : World} (h : Onl S w w') : w.heap.size ≤ w'.heap.size := h.2.2.2.1
theorem Onl.trans {S : List Nat} {a b c : World} (h : Onl S a b) (k : Onl S b c) : Onl S a c :=
  ⟨k.1.trans h.1, k.2.1.trans h.2.1, k.2.2.1.trans h.2.2.1, Nat.le_trans h.size k.size, fun j hj hs => (k.2.2.2.2 j (Nat.lt_of_lt_of_le hj h.size) hs).trans (h.2.2.2.2 j hj hs)⟩
theorem Onl.of_below {S : List Nat} {w w' : World} (h : Below w.heap.size w w') : Onl S w w' := ⟨h.os, h.tape, h.output, h.size, fun k hk _ => h.block k hk⟩
theorem Onl.of_only {S : List Nat} {g : Nat} {w w' : World} (h : Only g w w') (hg : g ∈ S) : Onl S w w' := ⟨h.1, h.2.1, h.2.2.1, h.2.2.2.1, fun k hk hs => h.2.2.2.2 k hk fun e => hs (e ▸ hg)⟩
theorem Onl.step {S : List Nat} {a b c : World} (h : Onl S a b) (k : Below b.heap.size b c) : Onl S a c := h.trans (Onl.of_below k)
theorem Onl.only {S : List Nat} {g : Nat} {a b c : World} (h : Onl S a b) (k : Only g b c) (hg : g ∈ S ∨ a.heap.size ≤ g) : Onl S a c :=
  ⟨k.1.trans h.1, k.2.1.trans h.2.1, k.2.2.1.trans h.2.2.1, Nat.le_trans h.size k.size, fun j hj hs => (k.2.2.2.2 j (Nat.lt_of_lt_of_le hj h.size) (fun e => by
    rcases hg with hg | hg
    · exact hs (e ▸ hg)
    · omega)).trans (h.2.2.2.2 j hj hs)⟩
theorem Onl.below {S : List Nat} {B : Nat} {w w' : World} (h : Onl S w w') (hg : ∀ k ∈ S, B ≤ k) (hB : B ≤ w.heap.size) : Below B w w' :=
  ⟨h.1, h.2.1, h.2.2.1, h.size, fun k hk => h.2.2.2.2 k (by omega) fun hm => by have := hg k hm; omega⟩
theorem Onl.mono {S T : List Nat} {w w' : World} (h : Onl S w w') (hs : ∀ k ∈ S, k ∈ T) : Onl T w w' := ⟨h.1, h.2.1, h.2.2.1, h.size, fun k hk hn => h.2.2.2.2 k hk fun hm => hn (hs k hm)⟩
theorem Row.onl {w w' : World} {g : Nat} {S : List Nat} {t : TypeId} {l : List Value} (h : Row w g t l) (ho : Onl S w w') (hne : g ∉ S) : Row w' g t l := (ho.2.2.2.2 g h.lt hne).trans h

def fbools (l : List Bool) : List Value := l.map Value.bool
theorem fbools_length (l : List Bool) : (fbools l).length = l.length := by simp [fbools]
theorem fbools_get (l : List Bool) (i : Nat) (h : i < l.length) : (fbools l)[i]? = some (.bool l[i]) := by simp [fbools, h]
theorem fbools_set (l : List Bool) (i : Nat) (b : Bool) : (fbools l).set i (.bool b) = fbools (l.set i b) := by simp [fbools, List.map_set]

/-- Where a device lies: its own block, and its three lists' blocks, rooms and cells behind. -/
structure Sh where
  b : Nat
  o1 : Nat
  k1 : Nat
  z1 : List Value
  o2 : Nat
  k2 : Nat
  z2 : List Value
  o3 : Nat
  k3 : Nat
  z3 : List Value
def Sh.S (s : Sh) : List Nat := [s.b, s.o1, s.o2, s.o3]
def devL (s : Sh) (D : Dv) : List Value := [.int .i64 D.fb, .int .u8 (D.fm.toNat : Int), .bool D.lit, .int .i64 D.left, .slice (some ⟨s.o1, 0, none⟩) D.C.length s.k1, .slice (some ⟨s.o2, 0, none⟩) D.L.length s.k2,
  .slice (some ⟨s.o3, 0, none⟩) D.E.length s.k3, .int .i64 D.ops, .bool D.dn]
theorem devL_length (s : Sh) (D : Dv) : (devL s D).length = 9 := rfl
structure Dev (w : World) (s : Sh) (D : Dv) : Prop where
  row : Row w s.b 96 (devL s D)
  c : Row w s.o1 5 (bytes D.C ++ s.z1)
  l : Row w s.o2 4 (fbools D.L ++ s.z2)
  e : Row w s.o3 3 (ints D.E ++ s.z3)
  ne : s.S.Nodup
  room : D.C.length ≤ s.k1
  cap : s.k1 ≤ 9223372036854775807
  ok : D.Ok
theorem Dev.step {w w' : World} {s : Sh} {D : Dv} (h : Dev w s D) (hb : Below w.heap.size w w') : Dev w' s D := ⟨h.row.step hb, h.c.step hb, h.l.step hb, h.e.step hb, h.ne, h.room, h.cap, h.ok⟩
theorem Dev.onl {w w' : World} {s : Sh} {D : Dv} {S : List Nat} (h : Dev w s D) (ho : Onl S w w') (hs : ∀ k ∈ s.S, k ∉ S) : Dev w' s D :=
  ⟨h.row.onl ho (hs _ (by simp [Sh.S])), h.c.onl ho (hs _ (by simp [Sh.S])), h.l.onl ho (hs _ (by simp [Sh.S])), h.e.onl ho (hs _ (by simp [Sh.S])), h.ne, h.room, h.cap, h.ok⟩
theorem Dev.lt {w : World} {s : Sh} {D : Dv} (h : Dev w s D) : ∀ k ∈ s.S, k < w.heap.size := by
  intro k hk
  simp [Sh.S] at hk
  rcases hk with rfl | rfl | rfl | rfl
  · exact h.row.lt
  · exact h.c.lt
  · exact h.l.lt
  · exact h.e.lt
section
variable {w : World} {s : Sh} {D : Dv} (h : Dev w s D)
include h
theorem Dev.c0 : w.cell? ⟨s.b, 0, none⟩ = some (.int .i64 D.fb) := h.row.cell 0
theorem Dev.c1 : w.cell? ⟨s.b, 1, none⟩ = some (.int .u8 (D.fm.toNat : Int)) := h.row.cell 1
theorem Dev.c2 : w.cell? ⟨s.b, 2, none⟩ = some (.bool D.lit) := h.row.cell 2
theorem Dev.c3 : w.cell? ⟨s.b, 3, none⟩ = some (.int .i64 D.left) := h.row.cell 3
theorem Dev.c4 : w.cell? ⟨s.b, 4, none⟩ = some (.slice (some ⟨s.o1, 0, none⟩) D.C.length s.k1) := h.row.cell 4
theorem Dev.c5 : w.cell? ⟨s.b, 5, none⟩ = some (.slice (some ⟨s.o2, 0, none⟩) D.L.length s.k2) := h.row.cell 5
theorem Dev.c6 : w.cell? ⟨s.b, 6, none⟩ = some (.slice (some ⟨s.o3, 0, none⟩) D.E.length s.k3) := h.row.cell 6
theorem Dev.c7 : w.cell? ⟨s.b, 7, none⟩ = some (.int .i64 D.ops) := h.row.cell 7
theorem Dev.c8 : w.cell? ⟨s.b, 8, none⟩ = some (.bool D.dn) := h.row.cell 8
theorem Dev.cc (i : Nat) (hi : i < D.C.length) : w.cell? ⟨s.o1, i, none⟩ = some (.int .u8 (D.C[i].toNat : Int)) := by
  rw [h.c.cell, List.getElem?_append_left (by rw [bytes_length]; exact hi)]; exact bytes_get _ _ hi
theorem Dev.cl (i : Nat) (hi : i < D.L.length) : w.cell? ⟨s.o2, i, none⟩ = some (.bool D.L[i]) := by
  rw [h.l.cell, List.getElem?_append_left (by rw [fbools_length]; exact hi)]; exact fbools_get _ _ hi
theorem Dev.ce (i : Nat) (hi : i < D.E.length) : w.cell? ⟨s.o3, i, none⟩ = some (.int .i64 D.E[i]) := by
  rw [h.e.cell, List.getElem?_append_left (by rw [ints_length]; exact hi)]; exact ints_get _ _ hi
end

theorem sectors_nil (w : World) : Calls Try.prog 57 #[.pointer none] w fun e w' => e = .returned (.int .i64 0) ∧ w = w' := by
  go_enter Try.func57, Try.ntmps57
  go_wp2
  go_ret
  exact ⟨rfl, rfl⟩
theorem sectors_any (s : Sh) (D : Dv) (w : World) (h : Dev w s D) : Calls Try.prog 57 #[.pointer (some ⟨s.b, 0, none⟩)] w fun e w' => e = .returned (.int .i64 (D.L.length : Int)) ∧ w = w' := by
  have h5 := h.c5
  go_enter Try.func57, Try.ntmps57
  go_wp2
  go_ret
  exact ⟨rfl, rfl⟩
theorem none_nil (w : World) : Calls Try.prog 39 #[.pointer none] w fun e w' => e = .returned (.bool true) ∧ w = w' := by
  have HX := Lib.hid (sectors_nil w)
  go_enter Try.func39, Try.ntmps39
  go_wp2_with (go_at_call 57; (with_reducible refine HX.out.mono ?_); rintro e u1 ⟨rfl, rfl⟩)
  go_ret
  exact ⟨rfl, rfl⟩
theorem none_any (s : Sh) (D : Dv) (w : World) (h : Dev w s D) : Calls Try.prog 39 #[.pointer (some ⟨s.b, 0, none⟩)] w fun e w' => e = .returned (.bool false) ∧ w = w' := by
  have HX := Lib.hid (sectors_any s D w h)
  have h1 := h.ok.one
  have hb : ((D.L.length : Int) == 0) = false := beq_eq_false_iff_ne.2 (by omega)
  clear h h1
  go_enter Try.func39, Try.ntmps39
  go_wp2_with (go_at_call 57; (with_reducible refine HX.out.mono ?_); rintro e u1 ⟨rfl, rfl⟩)
  go_ret
  exact ⟨rfl, rfl⟩
theorem idle_nil (w : World) : Calls Try.prog 40 #[.pointer none] w fun e w' => e = .returned (.int .i64 1) ∧ w = w' := by
  have HX := Lib.hid (none_nil w)
  go_enter Try.func40, Try.ntmps40
  go_wp2_with (go_at_call 39; (with_reducible refine HX.out.mono ?_); rintro e u1 ⟨rfl, rfl⟩)
  go_ret
  exact ⟨rfl, rfl⟩
theorem idle_any (s : Sh) (D : Dv) (w : World) (h : Dev w s D) : Calls Try.prog 40 #[.pointer (some ⟨s.b, 0, none⟩)] w fun e w' => e = .returned (.int .i64 (idl D.dn)) ∧ w = w' := by
  have HX := Lib.hid (none_any s D w h)
  have h8 := h.c8
  clear h
  obtain ⟨d, hd⟩ : ∃ d, D.dn = d := ⟨_, rfl⟩
  rw [hd] at h8 ⊢
  clear hd
  cases d with
  | false =>
    go_enter Try.func40, Try.ntmps40
    go_wp2_with (go_at_call 39; (with_reducible refine HX.out.mono ?_); rintro e u1 ⟨rfl, rfl⟩)
    go_ret
    exact ⟨rfl, rfl⟩
  | true =>
    go_enter Try.func40, Try.ntmps40
    go_wp2_with (go_at_call 39; (with_reducible refine HX.out.mono ?_); rintro e u1 ⟨rfl, rfl⟩)
    go_ret
    exact ⟨rfl, rfl⟩
theorem beyond_any (s : Sh) (D : Dv) (x y : Int) (w : World) (h : Dev w s D) (hx : x < 9223372036854775808) :
    Calls Try.prog 41 #[.pointer (some ⟨s.b, 0, none⟩), .int .i64 x, .int .i64 y] w fun e w' => e = .returned (.bool (bey D.C.length x y)) ∧ w = w' := by
  have h4 := h.c4
  have hn : D.C.length ≤ 32768 := by have := h.ok.cells; have := h.ok.top; omega
  clear h
  obtain ⟨n, hn1⟩ : ∃ n, D.C.length = n := ⟨_, rfl⟩
  rw [hn1] at h4 hn ⊢
  clear hn1
  by_cases h0 : x < 0
  · have HD : Hid (bey n x y = true) := Lib.hid (decide_eq_true (Or.inl h0))
    go_enter Try.func41, Try.ntmps41
    go_wp2
    go_ret
    exact ⟨ret_bool HD.out.symm, rfl⟩
  · by_cases h1 : y < 0
    · have HD : Hid (bey n x y = true) := Lib.hid (decide_eq_true (Or.inr (Or.inl h1)))
      go_enter Try.func41, Try.ntmps41
      go_wp2
      go_ret
      exact ⟨ret_bool HD.out.symm, rfl⟩
    · have hw : wrap64 ((n : Int) - x) = (n : Int) - x := by unfold wrap64; omega
      by_cases h2 : (n : Int) - x < y
      · have HD : Hid (bey n x y = true) := Lib.hid (decide_eq_true (Or.inr (Or.inr h2)))
        clear hn hx
        go_enter Try.func41, Try.ntmps41
        go_wp2
        go_ret
        exact ⟨ret_bool HD.out.symm, rfl⟩
      · have HD : Hid (bey n x y = false) := Lib.hid (decide_eq_false (by omega))
        clear hn hx
        go_enter Try.func41, Try.ntmps41
        go_wp2
        go_ret
        exact ⟨ret_bool HD.out.symm, rfl⟩
end Go.Proofs.Ytpeofjlecgenbaa

/- Contracts of flash: sector, Locked, Dump. -/
namespace Go.Proofs.Ytpeofjlecgenbaa
open Go.RowKit FlaMath
set_option linter.unusedVariables false
set_option maxRecDepth 100000

/-- Whether a sector is locked. -/
def lkd (L : List Bool) (i : Int) : Bool := if 0 ≤ i ∧ i < L.length then L.getD i.toNat false else false
/-- A sector's bytes. -/
def sec (C : List UInt8) (i : Nat) : List UInt8 := (C.drop (i * 64)).take 64
def dump (D : Dv) (i : Int) : List UInt8 := if 0 ≤ i ∧ i < D.L.length then sec D.C i.toNat else []
theorem Dev.read {w : World} {s : Sh} {D : Dv} (h : Dev w s D) (o n cap : Nat) (ho : o + n ≤ D.C.length) :
    (convert 58 9 (.slice (some ⟨s.o1, o, none⟩) n cap)).run Try.prog w = .ok (.string (str ((D.C.drop o).take n))) w := by
  refine conv_bytes s.o1 o cap ((D.C.drop o).take n) n w (by simp; omega) fun j hj => ?_
  have h3 : j < n := by simp at hj; omega
  have h2 := h.cc (o + j) (by omega)
  simpa using h2
end Go.Proofs.Ytpeofjlecgenbaa

/- Contracts of flash: PowerOn, Fuse, burn, reach, Lock. -/
namespace Go.Proofs.Ytpeofjlecgenbaa
open Go.RowKit FlaMath
set_option linter.unusedVariables false
set_option maxRecDepth 100000

theorem Dv.Ok.same {D D' : Dv} (h : D.Ok) (hC : D'.C.length = D.C.length) (hL : D'.L.length = D.L.length) (hE : D'.E.length = D.E.length) : D'.Ok := ⟨by rw [hL]; exact h.one, by rw [hL]; exact h.top, by rw [hC, hL]; exact h.cells, by rw [hE, hL]; exact h.worn⟩
theorem Dev.put {w w' : World} {s : Sh} {D : Dv} (h : Dev w s D) (D' : Dv) (hr : Row w' s.b 96 (devL s D')) (ho : Only s.b w w') (hC : D'.C = D.C) (hL : D'.L = D.L) (hE : D'.E = D.E) : Dev w' s D' := by
  have hn := h.ne
  simp only [Sh.S, List.nodup_cons, List.mem_cons, not_or] at hn
  exact ⟨hr, by rw [hC]; exact h.c.only ho (Ne.symm hn.1.1), by rw [hL]; exact h.l.only ho (Ne.symm hn.1.2.1), by rw [hE]; exact h.e.only ho (Ne.symm hn.1.2.2.1), h.ne, by rw [hC]; exact h.room, h.cap, Dv.Ok.same h.ok (by rw [hC]) (by rw [hL]) (by rw [hE])⟩
theorem devL_c (s : Sh) (D : Dv) (C : List UInt8) (hC : C.length = D.C.length) : devL s { D with C := C } = devL s D := by simp [devL, hC]
theorem devL_l (s : Sh) (D : Dv) (L : List Bool) (hC : L.length = D.L.length) : devL s { D with L := L } = devL s D := by simp [devL, hC]
theorem devL_e (s : Sh) (D : Dv) (E : List Int) (hC : E.length = D.E.length) : devL s { D with E := E } = devL s D := by simp [devL, hC]
theorem Dev.putC {w w' : World} {s : Sh} {D : Dv} (h : Dev w s D) (C : List UInt8) (hr : Row w' s.o1 5 (bytes C ++ s.z1)) (ho : Only s.o1 w w') (hC : C.length = D.C.length) : Dev w' s { D with C := C } := by
  have hn := h.ne
  simp only [Sh.S, List.nodup_cons, List.mem_cons, not_or] at hn
  exact ⟨by rw [devL_c s D C hC]; exact h.row.only ho hn.1.1, hr, h.l.only ho (Ne.symm hn.2.1.1), h.e.only ho (Ne.symm hn.2.1.2.1), h.ne, by rw [show ({ D with C := C } : Dv).C = C from rfl, hC]; exact h.room, h.cap, Dv.Ok.same h.ok hC rfl rfl⟩
theorem Dev.putL {w w' : World} {s : Sh} {D : Dv} (h : Dev w s D) (L : List Bool) (hr : Row w' s.o2 4 (fbools L ++ s.z2)) (ho : Only s.o2 w w') (hC : L.length = D.L.length) : Dev w' s { D with L := L } := by
  have hn := h.ne
  simp only [Sh.S, List.nodup_cons, List.mem_cons, not_or] at hn
  exact ⟨by rw [devL_l s D L hC]; exact h.row.only ho hn.1.2.1, h.c.only ho hn.2.1.1, hr, h.e.only ho (Ne.symm hn.2.2.1.1), h.ne, h.room, h.cap, Dv.Ok.same h.ok rfl hC rfl⟩
theorem Dev.putE {w w' : World} {s : Sh} {D : Dv} (h : Dev w s D) (E : List Int) (hr : Row w' s.o3 3 (ints E ++ s.z3)) (ho : Only s.o3 w w') (hC : E.length = D.E.length) : Dev w' s { D with E := E } := by
  have hn := h.ne
  simp only [Sh.S, List.nodup_cons, List.mem_cons, not_or] at hn
  exact ⟨by rw [devL_e s D E hC]; exact h.row.only ho hn.1.2.2.1, h.c.only ho hn.2.1.2.1, h.l.only ho hn.2.2.1.1, hr, h.ne, h.room, h.cap, Dv.Ok.same h.ok rfl rfl hC⟩
theorem Sh.b_mem (s : Sh) : s.b ∈ s.S := by simp [Sh.S]
theorem Sh.o1_mem (s : Sh) : s.o1 ∈ s.S := by simp [Sh.S]
theorem Sh.o2_mem (s : Sh) : s.o2 ∈ s.S := by simp [Sh.S]
theorem Sh.o3_mem (s : Sh) : s.o3 ∈ s.S := by simp [Sh.S]
theorem finfo_byte : (Try.prog.info? 5).map (·.size) = some 1 := by kernel_rfl
theorem finfo_bool : (Try.prog.info? 4).map (·.size) = some 1 := by kernel_rfl
theorem finfo_int : (Try.prog.info? 3).map (·.size) = some 1 := by kernel_rfl
theorem int_cells (k : IntKind) (x : Int) : (Value.int k x).cells = #[.int k x] := rfl
theorem int_one (k : IntKind) (x : Int) : (Value.int k x).oneCell' = true := rfl
theorem bool_cells (x : Bool) : (Value.bool x).cells = #[.bool x] := rfl
theorem bool_one (x : Bool) : (Value.bool x).oneCell' = true := rfl

def buildOf (o : Oper) (a : Act) : Option (TypeId × List (Nat × Value)) := match o.guard, o.op with | none, .build t parts => some (t, (parts.map fun (i, x) => (i, a.eval x)).toList) | _, _ => none
theorem wpBuildK {P : Program} {ops : Array Oper} {rest : List Oper} {o : Oper} {a : Act} {w : World} {Q : Exit → Act → World → Prop} (l : List Value) (ty : TypeId) (ps : List (Nat × Value)) (hb : P.built ty ps = some l.toArray) (ho : buildOf o a = some (ty, ps))
    (k : wpList P ops Q rest (a.put o.dst (.agg l.toArray)) w) : wpList P ops Q (o :: rest) a w := by
  unfold buildOf at ho
  split at ho
  · rename_i t parts hg hop
    obtain ⟨rfl, e⟩ := Prod.mk.inj (Option.some.inj ho)
    refine wpList_build hg t parts hop (by rw [e, hb]; rfl) ?_
    rw [e, hb]
    exact k
  · cases ho
def fuse0 : List Value := [.int .i64 0, .int .u8 0, .bool false, .int .i64 0]
theorem built_fuse0 : Try.prog.built 94 [] = some fuse0.toArray := by kernel_rfl
theorem fits_fuse : Fits Try.prog 94 4 := ⟨⟨_, Try.underlying94, rfl⟩, by kernel_rfl⟩
theorem poweron_nil (w : World) : Calls Try.prog 20 #[.pointer none] w fun e w' => e = .returned (.tuple #[]) ∧ w = w' := by
  have HX := Lib.hid (none_nil w)
  go_enter Try.func20, Try.ntmps20
  go_wp2_with (go_at_call 39; (with_reducible refine HX.out.mono ?_); rintro e u1 ⟨rfl, rfl⟩)
  go_end0
  exact ⟨rfl, rfl⟩
theorem poweron_any (s : Sh) (D : Dv) (w : World) (h : Dev w s D) :
    Calls Try.prog 20 #[.pointer (some ⟨s.b, 0, none⟩)] w fun e w' => e = .returned (.tuple #[]) ∧ Dev w' s D.on ∧ Onl s.S w w' := by
  have HX := Lib.hid (none_any s D w h)
  have HD := Lib.hid h
  have HL : Hid (8 < (devL s D).length) := Lib.hid (by rw [devL_length]; decide)
  have R0 : Hid (Row w s.b 96 (devL s D)) := Lib.hid h.row
  obtain ⟨F, hF⟩ : ∃ F, F = fuse0 := ⟨_, rfl⟩
  have HF : Hid (Try.prog.built 94 [] = some F.toArray) := Lib.hid (by rw [hF]; exact built_fuse0)
  have HF4 : Hid (F.length = 4) := Lib.hid (by rw [hF]; rfl)
  have HF1 : Hid (F.all (·.oneCell') = true) := Lib.hid (by rw [hF]; rfl)
  have HFE := Lib.hid hF
  obtain ⟨Y, hY⟩ : ∃ Y, Y = [Value.int .i64 D.fb, .int .u8 (D.fm.toNat : Int), .bool D.lit, .int .i64 D.left] := ⟨_, rfl⟩
  obtain ⟨Z, hZ⟩ : ∃ Z, Z = [Value.slice (some ⟨s.o1, 0, none⟩) D.C.length s.k1, .slice (some ⟨s.o2, 0, none⟩) D.L.length s.k2, .slice (some ⟨s.o3, 0, none⟩) D.E.length s.k3, .int .i64 D.ops, .bool false] := ⟨_, rfl⟩
  have HYZ : Hid ((devL s D).set 8 (.bool false) = [] ++ Y ++ Z) := Lib.hid (by rw [hY, hZ]; rfl)
  have HY4 : Hid (Y.length = 4) := Lib.hid (by rw [hY]; rfl)
  have HE : Hid ([] ++ F ++ Z = devL s D.on) := Lib.hid (by rw [hF, hZ]; rfl)
  clear h hF hY hZ
  go_enter Try.func20, Try.ntmps20
  go_wp2_with (first
    | (go_at_call 39; (with_reducible refine HX.out.mono ?_); rintro e u1 ⟨rfl, rfl⟩)
    | ((with_reducible refine R0.out.wpStore1K 8 4 (.bool false) finfo_bool HL.out (bool_cells _) (bool_one _) ?_ ?_); rfl; intro w1 r1 o1 s1; have R1 : Hid (Row w1 s.b 96 ([] ++ Y ++ Z)) := Lib.hid (by rw [← HYZ.out]; exact r1); have O1 := Lib.hid o1; clear r1 o1 s1)
    | ((with_reducible refine wpBuildZeroK F 94 HF.out ?_ ?_); rfl)
    | ((with_reducible refine R1.out.wpStoreMidK 0 rfl 94 F fits_fuse HY4.out HF4.out HF1.out ?_ ?_); rfl; intro w2 r2 o2 s2; have R2 := Lib.hid r2; have O2 := Lib.hid (O1.out.trans o2); clear r2 o2 s2))
  go_end0
  exact ⟨rfl, HD.out.put _ (by rw [← HE.out]; exact R2.out) O2.out rfl rfl rfl, Onl.of_only O2.out s.b_mem⟩

theorem fits_torn : Fits Try.prog 42 2 := ⟨⟨_, Try.underlying42, rfl⟩, by kernel_rfl⟩
theorem fuse_nil (n fb : Int) (fm : UInt8) (w : World) : Calls Try.prog 18 #[.pointer none, .int .i64 n, .agg #[.int .i64 fb, .int .u8 (fm.toNat : Int)]] w fun e w' => e = .returned (.tuple #[]) ∧ Below w.heap.size w w' := by
  have HX := Lib.hid none_nil
  obtain ⟨T, hT⟩ : ∃ T, T = [Value.int .i64 fb, .int .u8 (fm.toNat : Int)] := ⟨_, rfl⟩
  have hTa : (#[.int .i64 fb, .int .u8 (fm.toNat : Int)] : Array Value) = T.toArray := by rw [hT]
  rw [hTa]
  clear hTa hT
  go_enter Try.func18, Try.ntmps18
  go_wp2_with (first
    | ((with_reducible refine wpBoxK T 42 ?_ ?_); rfl; intro w1 r1 b1 s1; have R1 := Lib.hid r1; have B1 := Lib.hid b1; clear r1 b1 s1)
    | (go_at_call 39; (with_reducible refine (HX.out w1).mono ?_); rintro e u1 ⟨rfl, rfl⟩))
  go_end0
  exact ⟨rfl, B1.out⟩
theorem fuse_any (s : Sh) (D : Dv) (n fb : Int) (fm : UInt8) (w : World) (h : Dev w s D) :
    Calls Try.prog 18 #[.pointer (some ⟨s.b, 0, none⟩), .int .i64 n, .agg #[.int .i64 fb, .int .u8 (fm.toNat : Int)]] w fun e w' => e = .returned (.tuple #[]) ∧ Dev w' s (D.fuse n fb fm) ∧ Onl s.S w w' := by
  have HX : Hid (∀ w1, Below w.heap.size w w1 → Calls Try.prog 39 #[.pointer (some ⟨s.b, 0, none⟩)] w1 fun e w' => e = .returned (.bool false) ∧ w1 = w') := Lib.hid fun w1 hb => none_any s D w1 (h.step hb)
  have HD := Lib.hid h
  have R0 : Hid (Row w s.b 96 (devL s D)) := Lib.hid h.row
  obtain ⟨m, hm⟩ : ∃ m : Int, (fm.toNat : Int) = m := ⟨_, rfl⟩
  have HF1 : Hid (([Value.int .i64 fb, .int .u8 m, .bool (decide (0 ≤ n)), .int .i64 n]).all (·.oneCell') = true) := Lib.hid rfl
  obtain ⟨Y, hY⟩ : ∃ Y, Y = [Value.int .i64 D.fb, .int .u8 (D.fm.toNat : Int), .bool D.lit, .int .i64 D.left] := ⟨_, rfl⟩
  obtain ⟨Z, hZ⟩ : ∃ Z, Z = [Value.slice (some ⟨s.o1, 0, none⟩) D.C.length s.k1, .slice (some ⟨s.o2, 0, none⟩) D.L.length s.k2, .slice (some ⟨s.o3, 0, none⟩) D.E.length s.k3, .int .i64 D.ops, .bool D.dn] := ⟨_, rfl⟩
  have HYZ : Hid (devL s D = [] ++ Y ++ Z) := Lib.hid (by rw [hY, hZ]; rfl)
  have HY4 : Hid (Y.length = 4) := Lib.hid (by rw [hY]; rfl)
  have HE : Hid ([] ++ [Value.int .i64 fb, .int .u8 m, .bool (decide (0 ≤ n)), .int .i64 n] ++ Z = devL s (D.fuse n fb fm)) := Lib.hid (by rw [hZ, ← hm]; rfl)
  have RY : Hid (∀ w1, Below w.heap.size w w1 → Row w1 s.b 96 ([] ++ Y ++ Z)) := Lib.hid fun w1 hb => by rw [← HYZ.out]; exact R0.out.step hb
  have HO : Hid (∀ w1 w2, Below w.heap.size w w1 → Only s.b w1 w2 → Onl s.S w w2) := Lib.hid fun w1 w2 hb ho => (Onl.of_below hb).trans (Onl.of_only ho s.b_mem)
  rw [hm]
  clear h hY hZ hm
  go_enter Try.func18, Try.ntmps18
  go_wp2_with (first
    | ((with_reducible refine wpBoxK [Value.int .i64 fb, .int .u8 m] 42 ?_ ?_); rfl; intro w1 r1 b1 s1; have RT := Lib.hid r1; have B1 := Lib.hid b1; have R1 := Lib.hid (RY.out w1 b1); clear r1 b1 s1)
    | (go_at_call 39; (with_reducible refine (HX.out w1 B1.out).mono ?_); rintro e u1 ⟨rfl, rfl⟩)
    | ((with_reducible refine RT.out.wpLoadK 42 fits_torn rfl ?_ ?_); rfl)
    | ((with_reducible refine R1.out.wpStoreMidK 0 rfl 94 [Value.int .i64 fb, .int .u8 m, .bool (decide (0 ≤ n)), .int .i64 n] fits_fuse HY4.out rfl HF1.out ?_ ?_); rfl; intro w2 r2 o2 s2; have R2 := Lib.hid r2; have O2 := Lib.hid o2; clear r2 o2 s2))
  go_end0
  exact ⟨rfl, (HD.out.step B1.out).put _ (by rw [← HE.out]; exact R2.out) O2.out rfl rfl rfl, HO.out _ _ B1.out O2.out⟩
end Go.Proofs.Ytpeofjlecgenbaa

/- Contracts of flash: Lock. -/
namespace Go.Proofs.Ytpeofjlecgenbaa
open Go.RowKit FlaMath
set_option linter.unusedVariables false
set_option maxRecDepth 100000

theorem Dev.setL {w w' : World} {s : Sh} {D : Dv} (h : Dev w s D) (k : Nat) (x : Bool) (hk : k < D.L.length) (hr : Row w' s.o2 4 ((fbools D.L ++ s.z2).set k (.bool x))) (ho : Only s.o2 w w') : Dev w' s { D with L := D.L.set k x } :=
  h.putL _ (by rw [List.set_append_left _ _ (by rw [fbools_length]; exact hk), fbools_set] at hr; exact hr) ho (by simp)
theorem Dev.setC {w w' : World} {s : Sh} {D : Dv} (h : Dev w s D) (k : Nat) (x : UInt8) (hk : k < D.C.length) (hr : Row w' s.o1 5 ((bytes D.C ++ s.z1).set k (.int .u8 (x.toNat : Int)))) (ho : Only s.o1 w w') : Dev w' s { D with C := D.C.set k x } :=
  h.putC _ (by rw [List.set_append_left _ _ (by rw [bytes_length]; exact hk), show (bytes D.C).set k (.int .u8 (x.toNat : Int)) = bytes (D.C.set k x) by simp [bytes, List.map_set]] at hr; exact hr) ho (by simp)
theorem Dev.setE {w w' : World} {s : Sh} {D : Dv} (h : Dev w s D) (k : Nat) (x : Int) (hk : k < D.E.length) (hr : Row w' s.o3 3 ((ints D.E ++ s.z3).set k (.int .i64 x))) (ho : Only s.o3 w w') : Dev w' s { D with E := D.E.set k x } :=
  h.putE _ (by rw [List.set_append_left _ _ (by rw [ints_length]; exact hk), show (ints D.E).set k (.int .i64 x) = ints (D.E.set k x) by simp [ints, List.map_set]] at hr; exact hr) ho (by simp)

end Go.Proofs.Ytpeofjlecgenbaa
