/- Bytes, lists of bytes, lists of lists of bytes that came in; the law's 'great'. -/
import Derived.Test.YtpkjannlndnfdaaPolyC
import Derived.Test.YtpkjannlndnfdaaOpen
namespace Go.Proofs.Ytpkjannlndnfdaa
open Go.RowKit GfMath PolyMath
set_option linter.unusedVariables false

/-- A byte that came in is a number below 256. -/
theorem u8_of {n : Int} (h : (Lit.int .u8 n).wf = true) : ∃ b : Nat, n = (b : Int) ∧ b < 256 := by
  have h2 := h
  simp [Lit.wf, IntKind.min, IntKind.max, IntKind.bits, IntKind.signed] at h2
  exact ⟨n.toNat, by omega, by omega⟩

theorem reads_u8s {w : World} {k : Nat} {cs : List Value} {l : List Int} (h : Open.Reads w (.sl k (.int .u8)) cs l) :
    ∃ (a : Option Addr) (cap : Nat) (L : List Nat), cs = [.slice a L.length cap] ∧ L.length = l.length ∧ By L ∧ Lies w w.heap.size a (u8s L) ∧ L.length ≤ cap ∧ (0 < k → cap ≤ 140737488351232) := by
  obtain ⟨a, cap, e, h1, h2, h3, h4⟩ := h
  refine ⟨a, cap, l.map Int.toNat, by rw [e, List.length_map], by rw [List.length_map], ?_, ?_, by rw [List.length_map]; exact h1, fun hk => Nat.le_trans (Nat.le_mul_of_pos_right _ hk) h2⟩
  · intro x hx
    obtain ⟨i, hi, rfl⟩ := List.mem_iff_getElem.1 hx
    rw [List.length_map] at hi
    obtain ⟨b, off, e1, e2, e3⟩ := h4 (by omega)
    obtain ⟨cs', q1, q2, q3⟩ := e3 i hi
    obtain ⟨y, hy, hy2⟩ := u8_of q3.2
    rw [List.getElem_map, hy]
    exact hy2
  · intro h0
    rw [u8s_length, List.length_map] at h0
    obtain ⟨b, off, e1, e2, e3⟩ := h4 h0
    refine ⟨b, off, e1, e2, fun j u hu => ?_⟩
    have hj : j < l.length := by
      have := (List.getElem?_eq_some_iff.1 hu).1
      rwa [u8s_length, List.length_map] at this
    obtain ⟨cs', q1, q2, q3⟩ := e3 j hj
    have h5 := q2 0 (by decide)
    rw [q3.1] at h5
    obtain ⟨y, hy, _⟩ := u8_of q3.2
    rw [u8s_get _ j (by rw [List.length_map]; exact hj), List.getElem_map] at hu
    simp only [Option.some.injEq] at hu
    rw [← hu]
    simpa [Open.Ty.size, hy] using h5
theorem reads_slice {w : World} {k : Nat} {a : Option Addr} {cap : Nat} {l : List Int} (h : Open.Reads w (.sl (k + 1) (.int .u8)) [.slice a l.length cap] l) :
    ∃ L : List Nat, L.length = l.length ∧ By L ∧ Lies w w.heap.size a (u8s L) ∧ L.length ≤ cap ∧ cap ≤ 140737488351232 := by
  obtain ⟨a', cap', L, e, h1, h2, h3, h4, h5⟩ := reads_u8s h
  simp only [List.cons.injEq, and_true, Value.slice.injEq] at e
  obtain ⟨rfl, _, rfl⟩ := e
  exact ⟨L, h1, h2, h3, h4, h5 (Nat.succ_pos k)⟩

/-- A slice's head: where, how long, what room. -/
abbrev Hd := Option Addr × Nat × Nat
def slv (t : Hd) : Value := .slice t.1 t.2.1 t.2.2
def slvs (ts : List Hd) : List Value := ts.map slv
theorem slvs_length (ts : List Hd) : (slvs ts).length = ts.length := by simp [slvs]
theorem slvs_get (ts : List Hd) (j : Nat) (h : j < ts.length) : (slvs ts)[j]? = some (slv ts[j]) := by simp [slvs, h]
/-- A list of polynomials. -/
structure Polys (w : World) (ts : List Hd) (ls : List (List Nat)) : Prop where
  len : ts.length = ls.length
  at_ : ∀ i (h : i < ts.length) (h2 : i < ls.length), ts[i].2.1 = ls[i].length ∧ ls[i].length ≤ ts[i].2.2 ∧ ts[i].2.2 ≤ 140737488351232 ∧ By ls[i] ∧ Lies w w.heap.size ts[i].1 (u8s ls[i])
theorem Polys.step {w w' : World} {ts : List Hd} {ls : List (List Nat)} (h : Polys w ts ls) (hb : Below w.heap.size w w') : Polys w' ts ls :=
  ⟨h.len, fun i h1 h2 => by obtain ⟨a, b, c, d, e⟩ := h.at_ i h1 h2; exact ⟨a, b, c, d, e.step hb⟩⟩

theorem reads_polys {w : World} {k : Nat} {a : Option Addr} {cap : Nat} {l : List (List Int)} (h : Open.Reads w (.sl (k + 1) (.sl 1 (.int .u8))) [.slice a l.length cap] l) :
    ∃ ts ls, ts.length = l.length ∧ Polys w ts ls ∧ Lies w w.heap.size a (slvs ts) ∧ ts.length ≤ cap ∧ cap ≤ 140737488351232 := by
  obtain ⟨a', cap', e, h1, h2, h3, h4⟩ := h
  simp only [List.cons.injEq, and_true, Value.slice.injEq] at e
  obtain ⟨rfl, _, rfl⟩ := e
  have hc : cap ≤ 140737488351232 := Nat.le_trans (Nat.le_mul_of_pos_right _ (Nat.succ_pos k)) h2
  have key : ∀ i (hi : i < l.length), ∃ (t : Hd) (L : List Nat), (t.2.1 = L.length ∧ L.length ≤ t.2.2 ∧ t.2.2 ≤ 140737488351232 ∧ By L ∧ Lies w w.heap.size t.1 (u8s L)) ∧ ∀ b off, a = some ⟨b, off, none⟩ → w.cell? ⟨b, off + i, none⟩ = some (slv t) := by
    intro i hi
    obtain ⟨b, off, e1, e2, e3⟩ := h4 (by omega)
    obtain ⟨cs', q1, q2, q3⟩ := e3 i hi
    obtain ⟨a2, cap2, L, g1, g2, g3, g4, g5, g6⟩ := reads_u8s q3
    refine ⟨(a2, L.length, cap2), L, ⟨rfl, g5, g6 (by omega), g3, g4⟩, fun b' off' e' => ?_⟩
    rw [e1] at e'
    cases e'
    have h5 := q2 0 (by decide)
    rw [g1] at h5
    simpa [Open.Ty.size, slv] using h5
  obtain ⟨f, hf⟩ : ∃ f : (i : Nat) → Hd × List Nat, ∀ i, i < l.length → ((f i).1.2.1 = (f i).2.length ∧ (f i).2.length ≤ (f i).1.2.2 ∧ (f i).1.2.2 ≤ 140737488351232 ∧ By (f i).2 ∧ Lies w w.heap.size (f i).1.1 (u8s (f i).2)) ∧ ∀ b off, a = some ⟨b, off, none⟩ → w.cell? ⟨b, off + i, none⟩ = some (slv (f i).1) := by
    refine ⟨fun i => if hi : i < l.length then (Classical.choose (key i hi), Classical.choose (Classical.choose_spec (key i hi))) else ((none, 0, 0), []), fun i hi => ?_⟩
    simp only [dif_pos hi]
    exact Classical.choose_spec (Classical.choose_spec (key i hi))
  refine ⟨(List.range l.length).map fun i => (f i).1, (List.range l.length).map fun i => (f i).2, by simp, ⟨by simp, fun i h1 h2 => ?_⟩, ?_, by simpa using h1, hc⟩
  · simp only [List.length_map, List.length_range] at h1
    simp only [List.getElem_map, List.getElem_range]
    exact (hf i h1).1
  · intro h0
    rw [slvs_length, List.length_map, List.length_range] at h0
    obtain ⟨b, off, e1, e2, _⟩ := h4 h0
    refine ⟨b, off, e1, e2, fun j u hu => ?_⟩
    have hj : j < l.length := by
      have := (List.getElem?_eq_some_iff.1 hu).1
      rwa [slvs_length, List.length_map, List.length_range] at this
    rw [slvs_get _ j (by simpa using hj)] at hu
    simp only [Option.some.injEq, List.getElem_map, List.getElem_range] at hu
    rw [← hu]
    exact (hf j hj).2 b off e1

/-- More than is played? -/
def greatB (ts : List Hd) : Bool := ts.any (fun t => decide (60 < t.2.1)) || decide (6 < ts.length)
theorem great_any (a : Option Addr) (cap : Nat) (ts : List Hd) (w : World) (hl : ts.length ≤ 140737488351232) (ht : ∀ t ∈ ts, t.2.1 ≤ 140737488351232) (hr : Lies w w.heap.size a (slvs ts)) :
    Calls Try.prog 5 #[.slice a ts.length cap] w fun e w' => e = .returned (.bool (greatB ts)) ∧ w = w' := by
  have HT := Lib.hid ht
  clear ht
  go_enter Try.func5, Try.ntmps5
  go_wp2
  go_loop [7] (fun i => ∃ k : Nat, k ≤ ts.length ∧ i = .int .i64 k ∧ ∀ j (h : j < ts.length), j < k → ts[j].2.1 ≤ 60) (fun i => ts.length - (intOf i).toNat)
  case atStart => exact ⟨0, Nat.zero_le _, rfl, fun j _ hj => absurd hj (by omega)⟩
  case round =>
    obtain ⟨k, hk, rfl, hz⟩ := hrel
    have HZ := Lib.hid hz
    clear hz
    by_cases hlt : k < ts.length
    · obtain ⟨b2, off, rfl, hbb, hc⟩ := hr (by rw [slvs_length]; omega)
      have hcell : w.cell? ⟨b2, off + k, none⟩ = some (.slice ts[k].1 ts[k].2.1 ts[k].2.2) := hc k _ (slvs_get ts k hlt)
      have hn := HT.out ts[k] (List.getElem_mem hlt)
      have hk1 : (k : Int) < ts.length := by omega
      obtain ⟨⟨q, n, c⟩, ht⟩ : ∃ t : Hd, ts[k] = t := ⟨_, rfl⟩
      rw [ht] at hcell hn
      simp only at hcell hn
      by_cases h60 : 60 < n
      · have HX : Hid (greatB ts = true) := Lib.hid (by
          unfold greatB
          rw [Bool.or_eq_true]
          exact Or.inl (List.any_eq_true.2 ⟨ts[k], List.getElem_mem hlt, by rw [ht]; simpa using h60⟩))
        have h61 : (60 : Int) < n := by omega
        clear hr hc ht
        go_wp2
        go_ret
        exact ⟨ret_bool HX.out.symm, rfl⟩
      · have HX : Hid (ts[k].2.1 ≤ 60) := Lib.hid (by rw [ht]; simp only; omega)
        have h61 : (n : Int) ≤ 60 := by omega
        clear hr hc ht
        go_wp2
        go_round
        case rel => exact ⟨k + 1, by omega, by go_num, fun j h hj => by
          by_cases e : j = k
          · subst e; exact HX.out
          · exact HZ.out j h (by omega)⟩
        case measure => simp [intOf]; omega
    · have HX : Hid (greatB ts = decide (6 < ts.length)) := Lib.hid (by
        unfold greatB
        rw [List.any_eq_false.2 fun t ht => by
          obtain ⟨i, hi, rfl⟩ := List.mem_iff_getElem.1 ht
          have := HZ.out i hi (by omega)
          simp; omega, Bool.false_or])
      clear hr
      go_wp2
      go_ret
      exact ⟨ret_bool (by rw [HX.out]; simp; omega), rfl⟩

/-- 'great' of one, and of two. -/
theorem great_one (q : Option Addr) (n c : Nat) (hn : n ≤ 140737488351232) (u : World) :
    Calls Try.prog 5 #[.slice (some ⟨u.heap.size, 0, none⟩) 1 1] (u.alloc (.cells #[.slice q n c] 22)) fun e w' => e = .returned (.bool (decide (60 < n))) ∧ Below u.heap.size u w' :=
  (great_any (some ⟨u.heap.size, 0, none⟩) 1 [(q, n, c)] _ (by simp) (by simpa using hn) (Lies.new [.slice q n c] u _)).mono fun e w' h => ⟨by rw [h.1]; simp [greatB], by rw [← h.2]; exact alloc_below _ _⟩
theorem great_two (q : Option Addr) (n c : Nat) (q2 : Option Addr) (n2 c2 : Nat) (hn : n ≤ 140737488351232) (hn2 : n2 ≤ 140737488351232) (u : World) :
    Calls Try.prog 5 #[.slice (some ⟨u.heap.size, 0, none⟩) 2 2] (u.alloc (.cells #[.slice q n c, .slice q2 n2 c2] 22)) fun e w' => e = .returned (.bool (decide (60 < n ∨ 60 < n2))) ∧ Below u.heap.size u w' :=
  (great_any (some ⟨u.heap.size, 0, none⟩) 2 [(q, n, c), (q2, n2, c2)] _ (by simp) (by simp; omega) (Lies.new [.slice q n c, .slice q2 n2 c2] u _)).mono fun e w' h => ⟨by rw [h.1]; simp [greatB], by rw [← h.2]; exact alloc_below _ _⟩

/-! Over a field that isn't there. -/
theorem pnil_add (v : Value) (w : World) : Calls Try.prog 19 #[.pointer none, v] w fun e w' => e = .returned (.slice none 0 0) ∧ w = w' := by
  go_enter Try.func19, Try.ntmps19
  go_wp2
  go_ret
  exact ⟨rfl, rfl⟩
theorem pnil_mul (v : Value) (w : World) : Calls Try.prog 20 #[.pointer none, v] w fun e w' => e = .returned (.slice none 0 0) ∧ w = w' := by
  go_enter Try.func20, Try.ntmps20
  go_wp2
  go_ret
  exact ⟨rfl, rfl⟩
theorem pnil_roots (v : Value) (w : World) : Calls Try.prog 13 #[.pointer none, v] w fun e w' => e = .returned (.slice none 0 0) ∧ w = w' := by
  go_enter Try.func13, Try.ntmps13
  go_wp2
  go_ret
  exact ⟨rfl, rfl⟩
theorem pnil_eval (v : Value) (x : Int) (w : World) : Calls Try.prog 11 #[.pointer none, v, .int .u8 x] w fun e w' => e = .returned (.int .u8 0) ∧ w = w' := by
  go_enter Try.func11, Try.ntmps11
  go_wp2
  go_ret
  exact ⟨rfl, rfl⟩
end Go.Proofs.Ytpkjannlndnfdaa
