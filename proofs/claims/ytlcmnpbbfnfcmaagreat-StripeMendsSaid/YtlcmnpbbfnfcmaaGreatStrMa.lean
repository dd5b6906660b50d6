/- Sectors of which some are turned (mathematics; what came in). -/
import Derived.Test.YtlcmnpbbfnfcmaaGreatStrI
import Derived.Test.YtlcmnpbbfnfcmaaGreatSeen
import Derived.Test.YtlcmnpbbfnfcmaaGreatBytesS
namespace Go.Proofs.YtlcmnpbbfnfcmaaGreat
open Go.RowKit CrcMath GfMath PolyMath RsMath SolMath GeoMath Go.Maps
set_option linter.unusedVariables false
set_option maxRecDepth 100000

/-- A turn. -/
structure Tu where
  sec : Int
  at_ : Int
  by_ : UInt8
  all_ : Bool
def tuv (t : Tu) : List Value := [.int .i64 t.sec, .int .i64 t.at_, .int .u8 (t.by_.toNat : Int), .bool t.all_]
def tucs (l : List Tu) : List Value := l.flatMap tuv
theorem tucs_cons (r : Tu) (l : List Tu) : tucs (r :: l) = tuv r ++ tucs l := rfl
theorem tucs_length (l : List Tu) : (tucs l).length = l.length * 4 := by
  induction l with
  | nil => rfl
  | cons r l ih => rw [tucs_cons, List.length_append, ih, List.length_cons]; show 4 + _ = _; omega
theorem tucs_get (l : List Tu) (i : Nat) (h : i < l.length) (j : Nat) (u : Value) (hj : (tuv l[i])[j]? = some u) : (tucs l)[i * 4 + j]? = some u := by
  induction l generalizing i with
  | nil => exact absurd h (Nat.not_lt_zero _)
  | cons r l ih =>
    rw [tucs_cons]
    have h4 : (tuv r).length = 4 := rfl
    cases i with
    | zero =>
      have hj4 : j < 4 := (List.getElem?_eq_some_iff.1 hj).1
      rw [Nat.zero_mul, Nat.zero_add, List.getElem?_append_left (by rw [h4]; exact hj4)]
      exact hj
    | succ i =>
      rw [List.getElem?_append_right (by rw [h4]; omega), h4, show (i + 1) * 4 + j - 4 = i * 4 + j by omega]
      exact ih i (by simpa using h) (by simpa using hj)
theorem tucs_at {w : World} {bl off : Nat} {l : List Tu} (hc : ∀ j u, (tucs l)[j]? = some u → w.cell? ⟨bl, off + j, none⟩ = some u) (i : Nat) (h : i < l.length) : w.rangeAt bl (off + i * 4) (tuv l[i]) := by
  intro j u hj
  have := hc (i * 4 + j) u (tucs_get l i h j u hj)
  rwa [← Nat.add_assoc] at this
theorem tucs_back {l : List Tu} {j : Nat} {u : Value} (h : (tucs l)[j]? = some u) : ∃ hi : j / 4 < l.length, (tuv l[j / 4])[j % 4]? = some u := by
  have hj : j < l.length * 4 := by
    rw [← tucs_length]
    exact (List.getElem?_eq_some_iff.1 h).1
  have hi : j / 4 < l.length := by omega
  refine ⟨hi, ?_⟩
  have hl : (tuv l[j / 4]).length = 4 := rfl
  have hm : j % 4 < (tuv l[j / 4]).length := by rw [hl]; omega
  have := tucs_get l (j / 4) hi (j % 4) _ (List.getElem?_eq_getElem hm)
  rw [show j / 4 * 4 + j % 4 = j by omega, h] at this
  rw [List.getElem?_eq_getElem hm, ← this]
/-- What comes of a sector. -/
def tuS (s : ByteArray) (a : Nat) (b : UInt8) (all : Bool) : ByteArray := if all = true then str (List.replicate 64 255) else str (s.data.toList.set a (s.data.toList.getD a 0 ^^^ b))
theorem tuS_size {s : ByteArray} (h : s.size = 64) (a : Nat) (b : UInt8) (all : Bool) : (tuS s a b all).size = 64 := by
  unfold tuS
  split
  · rw [str_size, List.length_replicate]
  · rw [str_size, List.length_set, size_list, h]
def tuOk (n : Nat) (t : Tu) : Prop := 0 ≤ t.sec ∧ t.sec < (n : Int) ∧ 0 ≤ t.at_ ∧ t.at_ ≤ 63
instance (n : Nat) (t : Tu) : Decidable (tuOk n t) := by unfold tuOk; infer_instance
def tuStep (n : Nat) (L : List ByteArray) (t : Tu) : List ByteArray := if tuOk n t then L.set t.sec.toNat (tuS (L.getD t.sec.toNat ByteArray.empty) t.at_.toNat t.by_ t.all_) else L
def tuF (n : Nat) (L : List ByteArray) (ts : List Tu) : List ByteArray := ts.foldl (tuStep n) L
/-- n sectors of 64 bytes. -/
def Sx (n : Nat) (L : List ByteArray) : Prop := L.length = n ∧ ∀ x ∈ L, x.size = 64
theorem Sx.set {n : Nat} {L : List ByteArray} (h : Sx n L) (i : Nat) {s : ByteArray} (hs : s.size = 64) : Sx n (L.set i s) :=
  ⟨by rw [List.length_set]; exact h.1, fun x hx => by
    rcases List.mem_or_eq_of_mem_set hx with h2 | h2
    · exact h.2 x h2
    · rw [h2]; exact hs⟩
theorem Sx.get {n : Nat} {L : List ByteArray} (h : Sx n L) {i : Nat} (hi : i < n) : (L.getD i ByteArray.empty).size = 64 := by
  rw [List.getD_eq_getElem?_getD, List.getElem?_eq_getElem (by rw [h.1]; exact hi)]
  exact h.2 _ (List.getElem_mem _)
theorem Sx.step {n : Nat} {L : List ByteArray} (h : Sx n L) (t : Tu) : Sx n (tuStep n L t) := by
  unfold tuStep
  split
  · rename_i ho
    exact h.set _ (tuS_size (h.get (by have := ho.1; have := ho.2.1; omega)) _ _ _)
  · exact h
theorem Sx.all {n : Nat} {ts : List Tu} : ∀ {L : List ByteArray}, Sx n L → Sx n (tuF n L ts) := by
  unfold tuF
  induction ts with
  | nil => exact fun h => h
  | cons t ts ih => exact fun h => ih (h.step t)
theorem tuF_next (n : Nat) (L : List ByteArray) (ts : List Tu) (k : Nat) (h : k < ts.length) : tuF n L (ts.take (k + 1)) = tuStep n (tuF n L (ts.take k)) ts[k] := by
  unfold tuF
  rw [List.take_succ_eq_append_getElem h, List.foldl_append]
  rfl
/-- Which ones are others than they were. -/
def neS (L M : List ByteArray) (i : Nat) : Bool := decide (M.getD i ByteArray.empty ≠ L.getD i ByteArray.empty)
def neK (L M : List ByteArray) (k : Nat) (z : Int) : Bool := decide (0 ≤ z ∧ z < (k : Int)) && neS L M z.toNat
def neN (L M : List ByteArray) (k : Nat) : Nat := ((List.range k).filter (neS L M)).length
theorem neN_succ (L M : List ByteArray) (k : Nat) : neN L M (k + 1) = neN L M k + if neS L M k = true then 1 else 0 := by
  unfold neN
  rw [List.range_succ, List.filter_append, List.length_append]
  cases h : neS L M k <;> simp [h]
theorem neN_le (L M : List ByteArray) (k : Nat) : neN L M k ≤ k := by
  unfold neN
  refine Nat.le_trans (List.length_filter_le _ _) ?_
  rw [List.length_range]
  exact Nat.le_refl _
theorem neK_zero (L M : List ByteArray) (z : Int) : neK L M 0 z = false := by
  unfold neK
  rw [decide_eq_false (by omega)]
  rfl
theorem neK_succ (L M : List ByteArray) (k : Nat) (z : Int) : neK L M (k + 1) z = if neS L M k = true then (neK L M k z || decide (z = (k : Int))) else neK L M k z := by
  unfold neK
  by_cases e : z = (k : Int)
  · subst e
    rw [decide_eq_true (by omega : 0 ≤ (k : Int) ∧ (k : Int) < ((k + 1 : Nat) : Int)), decide_eq_false (by omega : ¬ (0 ≤ (k : Int) ∧ (k : Int) < (k : Int))), Int.toNat_natCast]
    cases h : neS L M k <;> simp
  · have e2 : decide (0 ≤ z ∧ z < ((k + 1 : Nat) : Int)) = decide (0 ≤ z ∧ z < (k : Int)) := by
      by_cases h : 0 ≤ z ∧ z < (k : Int)
      · rw [decide_eq_true h, decide_eq_true (by omega)]
      · rw [decide_eq_false h, decide_eq_false (by omega)]
    rw [e2, decide_eq_false e, Bool.or_false]
    split <;> rfl
theorem me_zero_bool (w : World) : (zeroValue 4).run Tryz.prog w = .ok (.bool false) w := by kernel_rfl
theorem me_wf {x : Int} (hx : -9223372036854775808 ≤ x ∧ x < 9223372036854775808) : (Lit.int .i64 x).wf = true := by
  simp [Lit.wf, IntKind.min, IntKind.max, IntKind.bits, IntKind.signed]; omega
def KM : KeyKind Tryz.prog 36 3 4 Int where
  val := fun i => .int .i64 i
  lit := fun i => .int .i64 i
  ok := fun i => -9223372036854775808 ≤ i ∧ i < 9223372036854775808
  keyed := int_keyed Tryz.underlying3
  typ := Tryz.underlying36
  elem := Tryz.underlying4
  zero := me_zero_bool
  key := fun i hi => keyOf_int_mk Tryz.underlying3 (me_wf hi)
  inj := fun i j h => by cases h; rfl
theorem SeenG.keepM {P : Program} {T k e : TypeId} {ι : Type} {K : KeyKind P T k e ι} {w w' : World} {B n : Nat} {S : ι → Bool} (h : SeenG K w B n S) (hb : w'.heap[B]? = w.heap[B]?) : SeenG K w' B n S := by
  obtain ⟨D, ⟨es, clock, h1, h2⟩, h3⟩ := h.own
  exact ⟨D, ⟨es, clock, hb.trans h1, h2⟩, h3⟩
theorem KM_ok (k : Nat) (h : k < 1000) : KM.ok (k : Int) := by show -9223372036854775808 ≤ (k : Int) ∧ (k : Int) < 9223372036854775808; omega
end Go.Proofs.YtlcmnpbbfnfcmaaGreat
