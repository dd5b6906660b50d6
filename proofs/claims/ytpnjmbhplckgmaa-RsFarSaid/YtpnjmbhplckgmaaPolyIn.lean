/- Bytes, lists of bytes, lists of lists of bytes that came in; the law's 'great'. -/
import Derived.Test.YtpnjmbhplckgmaaPolyC
import Derived.Test.YtpnjmbhplckgmaaOpen
namespace Go.Proofs.Ytpnjmbhplckgmaa
open Go.RowKit GfMath PolyMath
set_option linter.unusedVariables false

/-- A byte that came in is a number below 256. -/
theorem u8_of {n : Int} (h : (Lit.int .u8 n).wf = true) : ∃ b : Nat, n = (b : Int) ∧ b < 256 := by
  have h2 := h
  simp [Lit.wf, IntKind.min, IntKind.max, IntKind.bits, IntKind.signed] at h2
  exact ⟨n.toNat, by omega, by omega⟩

theorem reads_u8s {w : World} {k : Nat} {cs : List Value} {l : List Int} (h : Open.Reads w (.sl k (.int .u8)) cs l) :
    ∃ (a : Option Addr) (cap : Nat) (L : List Nat), cs = [.slice a L.length cap] ∧ L.length = l.length ∧ By L ∧ Lies w w.heap.size a (u8s L) ∧ L.length ≤ cap ∧ (0 < k → cap ≤ 140737488351232) := by
  obtain ⟨a, cap, e, h1, h2, h3, h4⟩ := h
  refine ⟨a, cap, l.map Int.toNat, by rw [e, List.length_map], by rw [List.length_map], ?_, ?_, by rw [List.length_map]; exact h1, fun hk => Nat.le_trans (Nat.le_mul_of_pos_right _ hk) h2⟩
  · intro x hx
    obtain ⟨i, hi, rfl⟩ := List.mem_iff_getElem.1 hx
    rw [List.length_map] at hi
    obtain ⟨b, off, e1, e2, e3⟩ := h4 (by omega)
    obtain ⟨cs', q1, q2, q3⟩ := e3 i hi
    obtain ⟨y, hy, hy2⟩ := u8_of q3.2
    rw [List.getElem_map, hy]
    exact hy2
  · intro h0
    rw [u8s_length, List.length_map] at h0
    obtain ⟨b, off, e1, e2, e3⟩ := h4 h0
    refine ⟨b, off, e1, e2, fun j u hu => ?_⟩
    have hj : j < l.length := by
      have := (List.getElem?_eq_some_iff.1 hu).1
      rwa [u8s_length, List.length_map] at this
    obtain ⟨cs', q1, q2, q3⟩ := e3 j hj
    have h5 := q2 0 (by decide)
    rw [q3.1] at h5
    obtain ⟨y, hy, _⟩ := u8_of q3.2
    rw [u8s_get _ j (by rw [List.length_map]; exact hj), List.getElem_map] at hu
    simp only [Option.some.injEq] at hu
    rw [← hu]
    simpa [Open.Ty.size, hy] using h5
theorem reads_slice {w : World} {k : Nat} {a : Option Addr} {cap : Nat} {l : List Int} (h : Open.Reads w (.sl (k + 1) (.int .u8)) [.slice a l.length cap] l) :
    ∃ L : List Nat, L.length = l.length ∧ By L ∧ Lies w w.heap.size a (u8s L) ∧ L.length ≤ cap ∧ cap ≤ 140737488351232 := by
  obtain ⟨a', cap', L, e, h1, h2, h3, h4, h5⟩ := reads_u8s h
  simp only [List.cons.injEq, and_true, Value.slice.injEq] at e
  obtain ⟨rfl, _, rfl⟩ := e
  exact ⟨L, h1, h2, h3, h4, h5 (Nat.succ_pos k)⟩

/-- A slice's head: where, how long, what room. -/
abbrev Hd := Option Addr × Nat × Nat
def slv (t : Hd) : Value := .slice t.1 t.2.1 t.2.2
def slvs (ts : List Hd) : List Value := ts.map slv
theorem slvs_length (ts : List Hd) : (slvs ts).length = ts.length := by simp [slvs]
theorem slvs_get (ts : List Hd) (j : Nat) (h : j < ts.length) : (slvs ts)[j]? = some (slv ts[j]) := by simp [slvs, h]
/-- A list of polynomials. -/
structure Polys (w : World) (ts : List Hd) (ls : List (List Nat)) : Prop where
  len : ts.length = ls.length
  at_ : ∀ i (h : i < ts.length) (h2 : i < ls.length), ts[i].2.1 = ls[i].length ∧ ls[i].length ≤ ts[i].2.2 ∧ ts[i].2.2 ≤ 140737488351232 ∧ By ls[i] ∧ Lies w w.heap.size ts[i].1 (u8s ls[i])
theorem Polys.step {w w' : World} {ts : List Hd} {ls : List (List Nat)} (h : Polys w ts ls) (hb : Below w.heap.size w w') : Polys w' ts ls :=
  ⟨h.len, fun i h1 h2 => by obtain ⟨a, b, c, d, e⟩ := h.at_ i h1 h2; exact ⟨a, b, c, d, e.step hb⟩⟩

theorem reads_polys {w : World} {k : Nat} {a : Option Addr} {cap : Nat} {l : List (List Int)} (h : Open.Reads w (.sl (k + 1) (.sl 1 (.int .u8))) [.slice a l.length cap] l) :
    ∃ ts ls, ts.length = l.length ∧ Polys w ts ls ∧ Lies w w.heap.size a (slvs ts) ∧ ts.length ≤ cap ∧ cap ≤ 140737488351232 := by
  obtain ⟨a', cap', e, h1, h2, h3, h4⟩ := h
  simp only [List.cons.injEq, and_true, Value.slice.injEq] at e
  obtain ⟨rfl, _, rfl⟩ := e
  have hc : cap ≤ 140737488351232 := Nat.le_trans (Nat.le_mul_of_pos_right _ (Nat.succ_pos k)) h2
  have key : ∀ i (hi : i < l.length), ∃ (t : Hd) (L : List Nat), (t.2.1 = L.length ∧ L.length ≤ t.2.2 ∧ t.2.2 ≤ 140737488351232 ∧ By L ∧ Lies w w.heap.size t.1 (u8s L)) ∧ ∀ b off, a = some ⟨b, off, none⟩ → w.cell? ⟨b, off + i, none⟩ = some (slv t) := by
    intro i hi
    obtain ⟨b, off, e1, e2, e3⟩ := h4 (by omega)
    obtain ⟨cs', q1, q2, q3⟩ := e3 i hi
    obtain ⟨a2, cap2, L, g1, g2, g3, g4, g5, g6⟩ := reads_u8s q3
    refine ⟨(a2, L.length, cap2), L, ⟨rfl, g5, g6 (by omega), g3, g4⟩, fun b' off' e' => ?_⟩
    rw [e1] at e'
    cases e'
    have h5 := q2 0 (by decide)
    rw [g1] at h5
    simpa [Open.Ty.size, slv] using h5
  obtain ⟨f, hf⟩ : ∃ f : (i : Nat) → Hd × List Nat, ∀ i, i < l.length → ((f i).1.2.1 = (f i).2.length ∧ (f i).2.length ≤ (f i).1.2.2 ∧ (f i).1.2.2 ≤ 140737488351232 ∧ By (f i).2 ∧ Lies w w.heap.size (f i).1.1 (u8s (f i).2)) ∧ ∀ b off, a = some ⟨b, off, none⟩ → w.cell? ⟨b, off + i, none⟩ = some (slv (f i).1) := by
    refine ⟨fun i => if hi : i < l.length then (Classical.choose (key i hi), Classical.choose (Classical.choose_spec (key i hi))) else ((none, 0, 0), []), fun i hi => ?_⟩
    simp only [dif_pos hi]
    exact Classical.choose_spec (Classical.choose_spec (key i hi))
  refine ⟨(List.range l.length).map fun i => (f i).1, (List.range l.length).map fun i => (f i).2, by simp, ⟨by simp, fun i h1 h2 => ?_⟩, ?_, by simpa using h1, hc⟩
  · simp only [List.length_map, List.length_range] at h1
    simp only [List.getElem_map, List.getElem_range]
    exact (hf i h1).1
  · intro h0
    rw [slvs_length, List.length_map, List.length_range] at h0
    obtain ⟨b, off, e1, e2, _⟩ := h4 h0
    refine ⟨b, off, e1, e2, fun j u hu => ?_⟩
    have hj : j < l.length := by
      have := (List.getElem?_eq_some_iff.1 hu).1
      rwa [slvs_length, List.length_map, List.length_range] at this
    rw [slvs_get _ j (by simpa using hj)] at hu
    simp only [Option.some.injEq, List.getElem_map, List.getElem_range] at hu
    rw [← hu]
    exact (hf j hj).2 b off e1

/-- More than is played? -/
def greatB (ts : List Hd) : Bool := ts.any (fun t => decide (60 < t.2.1)) || decide (6 < ts.length)
/-! Over a field that isn't there. -/
theorem pnil_roots (v : Value) (w : World) : Calls Try.prog 21 #[.pointer none, v] w fun e w' => e = .returned (.slice none 0 0) ∧ w = w' := by
  go_enter Try.func21, Try.ntmps21
  go_wp2
  go_ret
  exact ⟨rfl, rfl⟩
theorem pnil_eval (v : Value) (x : Int) (w : World) : Calls Try.prog 33 #[.pointer none, v, .int .u8 x] w fun e w' => e = .returned (.int .u8 0) ∧ w = w' := by
  go_enter Try.func33, Try.ntmps33
  go_wp2
  go_ret
  exact ⟨rfl, rfl⟩
theorem pnil_div (a : Option Addr) (cap : Nat) (l : List Nat) (w : World) (hl : l.length ≤ 140737488355328) (hcap : l.length ≤ cap) (hr : Lies w w.heap.size a (u8s l)) :
    Calls Try.prog 27 #[.pointer none, .slice a l.length cap, .slice a l.length cap] w fun e w' => e = .returned (.tuple #[.slice none 0 0, .slice none 0 0, .bool false]) ∧ w = w' := by
  have HB := Lib.hid (behind_any a cap l w hl hcap hr)
  clear hr
  go_enter Try.func27, Try.ntmps27
  go_wp2_with (go_at_call 42; (with_reducible refine HB.out.mono ?_); rintro e w1 ⟨⟨v, rfl, _⟩, rfl⟩)
  go_ret3
  exact ⟨rfl, rfl⟩

end Go.Proofs.Ytpnjmbhplckgmaa
