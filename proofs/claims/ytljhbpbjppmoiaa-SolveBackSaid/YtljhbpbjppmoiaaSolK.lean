/- SolveBack: what came in; places that were seen. -/
import Derived.Test.YtljhbpbjppmoiaaSolI
import Derived.Test.YtljhbpbjppmoiaaSolMath7
import Derived.Test.YtljhbpbjppmoiaaSeen
import Derived.Carry
namespace Go.Proofs.Ytljhbpbjppmoiaa
open Go.RowKit GfMath PolyMath RsMath SolMath Go.Maps
set_option linter.unusedVariables false
set_option maxRecDepth 100000

def tvL (t : Tv) : List Value := [.int .i64 t.at_, .int .u8 (t.by_ : Int)]
def TU : Open.Ty := .pair (.int .i64) (.pair (.int .u8) .unit)
/-- The turns T lie at a. -/
def TvAt (w : World) (a : Option Addr) (T : List Tv) : Prop :=
  0 < T.length → ∃ bl off, a = some ⟨bl, off, none⟩ ∧ bl < w.heap.size ∧ ∀ i (h : i < T.length), w.rangeAt bl (off + i * 2) (tvL T[i])
theorem TvAt.step {w w' : World} {a : Option Addr} {T : List Tv} (h : TvAt w a T) (hb : Below w.heap.size w w') : TvAt w' a T := by
  intro hp
  obtain ⟨bl, off, e, hl, hc⟩ := h hp
  exact ⟨bl, off, e, Nat.lt_of_lt_of_le hl hb.size, fun i hi j v hj => (hb.cell (p := ⟨bl, off + i * 2 + j, none⟩) hl).trans (hc i hi j v hj)⟩
theorem sol_byte {n : Int} (h : (Lit.int .u8 n).wf = true) : ∃ b : Nat, b < 256 ∧ n = (b : Int) := by
  have h2 := h
  simp [Lit.wf, IntKind.min, IntKind.max, IntKind.bits, IntKind.signed] at h2
  exact ⟨n.toNat, by omega, by omega⟩
theorem sol_i64 {n : Int} (h : (Lit.int .i64 n).wf = true) : -9223372036854775808 ≤ n ∧ n < 9223372036854775808 := by
  have h2 := h
  simp [Lit.wf, IntKind.min, IntKind.max, IntKind.bits, IntKind.signed] at h2
  omega
theorem reads_tv {w : World} {cs : List Value} {x : TU.den} (h : Open.Reads w TU cs x) : ∃ t : Tv, cs = tvL t ∧ t.by_ < 256 ∧ (-9223372036854775808 ≤ t.at_ ∧ t.at_ < 9223372036854775808) := by
  have hl : cs.length = 2 := h.length
  match cs, hl with
  | [s, t], _ =>
    obtain ⟨⟨h1, g1⟩, ⟨h2, h3⟩, _⟩ := h
    obtain ⟨b, hb8, hb⟩ := sol_byte h3
    have e1 : s = .int .i64 x.1 := by simpa [Open.Ty.size] using h1
    have e2 : t = .int .u8 x.2.1 := by simpa [Open.Ty.size] using h2
    exact ⟨⟨x.1, b⟩, by rw [e1, e2, hb]; rfl, hb8, sol_i64 g1⟩
theorem reads_tvs {w : World} {by_ : Nat} {cs : List Value} {x : List TU.den} (h : Open.Reads w (.sl by_ TU) cs x) :
    ∃ (a : Option Addr) (cap : Nat) (T : List Tv), cs = [.slice a T.length cap] ∧ T.length < 9223372036854775808 ∧ TvAt w a T ∧ ∀ t ∈ T, t.by_ < 256 ∧ (-9223372036854775808 ≤ t.at_ ∧ t.at_ < 9223372036854775808) := by
  obtain ⟨a, cap, e, h1, h2, h3, h4⟩ := h
  by_cases hp : 0 < x.length
  · obtain ⟨bl, off, e1, e2, e3⟩ := h4 hp
    obtain ⟨T, hT, hc⟩ := Open.choose_list (fun i (t : Tv) => w.rangeAt bl (off + i * 2) (tvL t) ∧ t.by_ < 256 ∧ (-9223372036854775808 ≤ t.at_ ∧ t.at_ < 9223372036854775808)) x.length (fun i hi => by
      obtain ⟨cs', l1, l2, l3⟩ := e3 i hi
      obtain ⟨t, e4, e5⟩ := reads_tv l3
      refine ⟨t, fun j v hj => ?_, e5⟩
      have hj6 : j < TU.size := by
        rw [← l1, e4]
        exact (List.getElem?_eq_some_iff.1 hj).1
      have := l2 j hj6
      rw [e4, hj] at this
      rw [← this, show off + i * 2 + j = off + (i * TU.size + j) from by show off + i * 2 + j = off + (i * 2 + j); omega]) ()
    exact ⟨a, cap, T, by rw [e, hT], by omega, fun _ => ⟨bl, off, e1, e2, fun i hi => (hc i hi).1⟩, fun t ht => by
      obtain ⟨i, hi, rfl⟩ := List.mem_iff_getElem.1 ht
      exact (hc i hi).2⟩
  · have hx : x = [] := List.length_eq_zero_iff.1 (by omega)
    subst hx
    exact ⟨a, cap, [], e, by simp, fun h => absurd h (by simp), by simp⟩
theorem reads_spoilt' {w : World} {cs : List Value} {x : List Int × List Int × List TU.den × Unit} (h : Open.Reads w (.pair (.sl 1 (.int .u8)) (.pair (.sl 8 (.int .i64)) (.pair (.sl 16 TU) .unit))) cs x) :
    ∃ (a : Option Addr) (ca : Nat) (X : List Nat) (c : Option Addr) (ce : Nat) (er : List Int) (t : Option Addr) (ct : Nat) (T : List Tv), cs = [.slice a X.length ca, .slice c er.length ce, .slice t T.length ct] ∧ By X ∧ Lies w w.heap.size a (u8s X) ∧ X.length ≤ ca ∧ ca ≤ 140737488351232 ∧ Lies w w.heap.size c (ints er) ∧ T.length < 9223372036854775808 ∧ TvAt w t T ∧ (∀ t ∈ T, t.by_ < 256 ∧ (-9223372036854775808 ≤ t.at_ ∧ t.at_ < 9223372036854775808)) ∧ er = x.2.1 := by
  have hl : cs.length = 3 := h.length
  obtain ⟨h1, h2, h3, _⟩ := h
  match cs, hl with
  | [s, t, q], _ =>
    obtain ⟨a, ca, W, e1, _, e2, e3, e4, e5⟩ := reads_u8s h1
    obtain ⟨c, ce, g1, _, g3⟩ := reads_i64s h2
    obtain ⟨ta, tc, T, f1, f0, f2, f3⟩ := reads_tvs h3
    have e1' : s = .slice a W.length ca := by simpa [Open.Ty.size] using e1
    have g1' : t = .slice c x.2.1.length ce := by simpa [Open.Ty.size] using g1
    have f1' : q = .slice ta T.length tc := by simpa [Open.Ty.size] using f1
    exact ⟨a, ca, W, c, ce, x.2.1, ta, tc, T, by rw [e1', g1', f1'], e2, e3, e4, e5 (by decide), g3, f0, f2, f3, rfl⟩
/-! Places seen: the keys of a map of ints. -/
theorem sol_zero_bool (w : World) : (zeroValue 4).run Try.prog w = .ok (.bool false) w := by kernel_rfl
theorem sol_wf {x : Int} (hx : -9223372036854775808 ≤ x ∧ x < 9223372036854775808) : (Lit.int .i64 x).wf = true := by
  simp [Lit.wf, IntKind.min, IntKind.max, IntKind.bits, IntKind.signed]; omega
def KS : KeyKind Try.prog 37 3 4 Int where
  val := fun i => .int .i64 i
  lit := fun i => .int .i64 i
  ok := fun i => -9223372036854775808 ≤ i ∧ i < 9223372036854775808
  keyed := int_keyed Try.underlying3
  typ := Try.underlying37
  elem := Try.underlying4
  zero := sol_zero_bool
  key := fun i hi => keyOf_int_mk Try.underlying3 (sol_wf hi)
  inj := fun i j h => by cases h; rfl
/-- The places that G marks. -/
def gS (n : Nat) (G : List Bool) (z : Int) : Bool := decide (0 ≤ z ∧ z < (n : Int)) && gAt G z.toNat
theorem gS_none (n : Nat) (z : Int) : gS n (noneG n) z = false := by
  have : ∀ j, gAt (noneG n) j = false := fun j => by
    unfold gAt noneG
    rw [List.getD_eq_getElem?_getD]
    by_cases h : j < n <;> simp [h]
  rw [gS, this]; simp
theorem gS_set {n : Nat} {G : List Bool} (hG : G.length = n) {x : Int} (h0 : 0 ≤ x) (hx : x < (n : Int)) (z : Int) : gS n (G.set x.toNat true) z = (gS n G z || decide (z = x)) := by
  rw [gS, gS, gAt_set _ _ _ (by omega)]
  by_cases hz : 0 ≤ z ∧ z < (n : Int)
  · rw [decide_eq_true hz, Bool.true_and, Bool.true_and]
    congr 1
    exact decide_eq_decide.2 ⟨fun h => by omega, fun h => by omega⟩
  · rw [decide_eq_false hz, decide_eq_false (p := z = x) (fun h => hz ⟨by omega, by omega⟩)]; rfl
theorem gS_at {n : Nat} {G : List Bool} {x : Int} (h0 : 0 ≤ x) (hx : x < (n : Int)) : gS n G x = gAt G x.toNat := by rw [gS, decide_eq_true ⟨h0, hx⟩, Bool.true_and]
theorem SeenG.same {P : Program} {T k e : TypeId} {ι : Type} {K : KeyKind P T k e ι} {w w' : World} {B n : Nat} {S : ι → Bool} (h : SeenG K w B n S) (hb : w'.heap[B]? = w.heap[B]?) : SeenG K w' B n S := by
  obtain ⟨D, ⟨es, clock, h1, h2⟩, h3⟩ := h.own
  exact ⟨D, ⟨es, clock, hb.trans h1, h2⟩, h3⟩
theorem grown_heap {w w' : World} {B g : Nat} (h : w.grownBy w' (some B)) (hne : g ≠ B) (hg : g < w.heap.size) : w'.heap[g]? = w.heap[g]? := h.block g hg (fun e => hne (by cases e; rfl))
end Go.Proofs.Ytljhbpbjppmoiaa
