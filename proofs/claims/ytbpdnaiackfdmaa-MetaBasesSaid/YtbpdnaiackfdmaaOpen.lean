/- Arguments of any plain type, opened: a description of the type, the plain data that it holds, and how they lie in the world. -/
import Derived.Deep.Slices
import Derived.SizedLaws
import Derived.OpenShut
import Derived.Below
import Derived.ChangeArms
import Derived.ChangeMaps5
import Derived.RowKit
namespace Go.Proofs.Ytbpdnaiackfdmaa.Open
open Go.RowKit

inductive Ty where
  | int (k : IntKind) | bool | str | unit
  | pair (a b : Ty)
  | arr (n : Nat) (e : Ty)
  | sl (bytes : Nat) (e : Ty)

def Ty.size : Ty → Nat
  | .int _ | .bool | .str | .sl _ _ => 1
  | .unit => 0
  | .pair a b => a.size + b.size
  | .arr n e => n * e.size

abbrev Ty.den : Ty → Type
  | .int _ => Int
  | .bool => Bool
  | .str => ByteArray
  | .unit => Unit
  | .pair a b => a.den × b.den
  | .arr _ e => List e.den
  | .sl _ e => List e.den

/-- The cells cs hold the data x. -/
def Reads (w : World) : (t : Ty) → List Value → t.den → Prop
  | .int k, cs, (x : Int) => cs = [.int k x] ∧ (Lit.int k x).wf = true
  | .bool, cs, (x : Bool) => cs = [.bool x]
  | .str, cs, (x : ByteArray) => cs = [.string x] ∧ x.size ≤ 140737488351232
  | .unit, cs, _ => cs = []
  | .pair a b, cs, x => Reads w a (cs.take a.size) x.1 ∧ Reads w b (cs.drop a.size) x.2
  | .arr n e, cs, (l : List e.den) => l.length = n ∧ cs.length = n * e.size ∧ ∀ i (h : i < l.length), Reads w e ((cs.drop (i * e.size)).take e.size) l[i]
  | .sl by_ e, cs, (l : List e.den) => ∃ a cap, cs = [.slice a l.length cap] ∧ l.length ≤ cap ∧ cap * by_ ≤ 140737488351232 ∧ cap ≤ 9223372036854775807 ∧
      (0 < l.length → ∃ b off, a = some ⟨b, off, none⟩ ∧ b < w.heap.size ∧ ∀ i (h : i < l.length), ∃ cs' : List Value, cs'.length = e.size ∧
        (∀ j, j < e.size → w.cell? ⟨b, off + (i * e.size + j), none⟩ = cs'[j]?) ∧ Reads w e cs' l[i])

theorem Reads.length {w : World} : ∀ {t : Ty} {cs : List Value} {x : t.den}, Reads w t cs x → cs.length = t.size
  | .int _, _, _, h => by rw [h.1]; rfl
  | .bool, cs, _, h => by have h : cs = _ := h; rw [h]; rfl
  | .str, _, _, h => by rw [h.1]; rfl
  | .unit, cs, _, h => by have h : cs = _ := h; rw [h]; rfl
  | .pair a b, cs, x, h => by
    have h1 := h.1.length
    have h2 := h.2.length
    rw [List.length_take] at h1
    rw [List.length_drop] at h2
    show cs.length = a.size + b.size
    omega
  | .arr n e, _, _, h => h.2.1
  | .sl _ _, _, _, h => by obtain ⟨a, cap, rfl, _⟩ := h; rfl

theorem Reads.below {w w' : World} (hb : Below w.heap.size w w') : ∀ {t : Ty} {cs : List Value} {x : t.den}, Reads w t cs x → Reads w' t cs x
  | .int _, _, _, h => h
  | .bool, _, _, h => h
  | .str, _, _, h => h
  | .unit, _, _, h => h
  | .pair _ _, _, _, h => ⟨h.1.below hb, h.2.below hb⟩
  | .arr _ _, _, _, h => ⟨h.1, h.2.1, fun i hi => (h.2.2 i hi).below hb⟩
  | .sl _ e, _, _, ⟨a, cap, h1, h2, h3, h4, h5⟩ => ⟨a, cap, h1, h2, h3, h4, fun hp => by
      obtain ⟨b, off, e1, e2, e3⟩ := h5 hp
      refine ⟨b, off, e1, Nat.lt_of_lt_of_le e2 hb.size, fun i hi => ?_⟩
      obtain ⟨cs', l1, l2, l3⟩ := e3 i hi
      exact ⟨cs', l1, fun j hj => (hb.cell (p := ⟨b, off + (i * e.size + j), none⟩) e2).trans (l2 j hj), l3.below hb⟩⟩

def kindEq (a b : IntKind) : Bool := match a, b with
  | .i8, .i8 | .i16, .i16 | .i32, .i32 | .i64, .i64 | .u8, .u8 | .u16, .u16 | .u32, .u32 | .u64, .u64 => true
  | _, _ => false
theorem kindEq_eq {a b : IntKind} (h : kindEq a b = true) : a = b := by
  cases a <;> cases b <;> first | rfl | (simp [kindEq] at h)

/-- Is type t (or: are the fields fs, from the cell at off on) as the description says? -/
def chk (P : Program) : Ty → Option TypeId → List Field → Nat → Bool
  | .int k, some t, _, _ => match P.underlying t with | some (.int k') => kindEq k' k | _ => false
  | .bool, some t, _, _ => match P.underlying t with | some .bool => true | _ => false
  | .str, some t, _, _ => match P.underlying t with | some .string => true | _ => false
  | .unit, none, fs, _ => fs.isEmpty
  | .pair a b, none, fs, off => match fs with
    | f :: r => Nat.beq f.offset off && Nat.beq (P.cellsOf f.type) a.size && chk P a (some f.type) [] 0 && chk P b none r (off + a.size)
    | [] => false
  | .pair a b, some t, _, _ => match P.underlying t with
    | some (.struct fs) => Nat.beq (P.cellsOf t) (a.size + b.size) && (match fs.toList with
      | f :: r => Nat.beq f.offset 0 && Nat.beq (P.cellsOf f.type) a.size && chk P a (some f.type) [] 0 && chk P b none r a.size
      | [] => false)
    | _ => false
  | .arr n e, some t, _, _ => match P.underlying t with | some (.array n' e') => Nat.beq n' n && Nat.beq (P.cellsOf t) (n * e.size) && Nat.beq (P.cellsOf e') e.size && chk P e (some e') [] 0 | _ => false
  | .sl by_ e, some t, _, _ => match P.underlying t with | some (.slice e') => Nat.beq (P.cellsOf e') e.size && Nat.blt 0 e.size && Nat.beq (P.bytesOf e') by_ && chk P e (some e') [] 0 | _ => false
  | _, _, _, _ => false

theorem reach_eq : reachBytes = 140737488351232 := rfl

section
variable {H : Type} {enc : TypeId × Value → H} {P : Program} {w : World} {spare : Nat → Bool} {held : Bool}

theorem weightsAll_mem {e : TypeId} : ∀ {ds : List (DataW H)} {d : DataW H} {n : Nat}, d ∈ ds → n ∈ d.weights P e → n ∈ DataW.weightsAll P e ds
  | d0 :: ds, d, n, hd, hn => by
    rw [DataW.weightsAll, List.mem_append]
    cases hd with
    | head => exact Or.inl hn
    | tail _ hd => exact Or.inr (weightsAll_mem hd hn)

theorem choose_list {α β : Type} (p : Nat → α → Prop) (l : Nat) (h : ∀ i, i < l → ∃ x, p i x) (_ : β) : ∃ xs : List α, xs.length = l ∧ ∀ i (hi : i < xs.length), p i xs[i] := by
  induction l with
  | zero => exact ⟨[], rfl, fun i hi => by simp at hi⟩
  | succ l ih =>
    obtain ⟨xs, h1, h2⟩ := ih fun i hi => h i (by omega)
    obtain ⟨x, hx⟩ := h l (by omega)
    refine ⟨xs ++ [x], by simp [h1], fun i hi => ?_⟩
    rw [List.getElem_append]
    split
    · exact h2 i (by assumption)
    · have : i = l := by simp [h1] at hi; omega
      subst this
      simpa using hx

theorem opens (hspare : ∀ b, spare b = true) : ∀ (ty : Ty),
    (∀ (t : TypeId) (fuel : Nat) (cs : List Value) (x : DataW H × List MemPlace), chk P ty (some t) [] 0 = true → DataW.trod enc P w 0 spare held fuel t cs = some x → (∀ n ∈ x.1.weights P t, n ≤ reachBytes) → ∃ d, Reads w ty cs d) ∧
    (∀ (fs : List Field) (off n : Nat) (cs : List Value) (xs : List (DataW H × List MemPlace)), chk P ty none fs off = true → cs.length = off + ty.size → xs.length = fs.length →
      (∀ (i : Nat) (f : Field), fs[i]? = some f → DataW.trod enc P w 0 spare held n f.type ((cs.drop f.offset).take (P.cellsOf f.type)) = xs[i]?) →
      (∀ n ∈ DataW.weightsEach P (fs.map (·.type)) (xs.map (·.1)), n ≤ reachBytes) → ∃ d, Reads w ty (cs.drop off) d)
  | .int k => by
    refine ⟨fun t fuel cs x hc h hw => ?_, fun fs off n cs xs hc => by simp [chk] at hc⟩
    simp only [chk] at hc
    split at hc
    · rename_i k' hu
      have := kindEq_eq hc
      subst this
      obtain ⟨m, rfl, rfl, hwf⟩ := DataW.trod_int hu h
      exact ⟨m, rfl, hwf⟩
    · cases hc
  | .bool => by
    refine ⟨fun t fuel cs x hc h hw => ?_, fun fs off n cs xs hc => by simp [chk] at hc⟩
    simp only [chk] at hc
    split at hc
    · rename_i hu
      obtain ⟨b, rfl, rfl⟩ := DataW.trod_bool hu h
      exact ⟨b, rfl⟩
    · cases hc
  | .str => by
    refine ⟨fun t fuel cs x hc h hw => ?_, fun fs off n cs xs hc => by simp [chk] at hc⟩
    simp only [chk] at hc
    split at hc
    · rename_i hu
      obtain ⟨s, rfl, rfl, _⟩ := DataW.trod_string hu h
      have := hw s.data.toList.length (by simp [DataW.weights])
      rw [reach_eq, Array.length_toList] at this
      exact ⟨s, rfl, this⟩
    · cases hc
  | .unit => by
    refine ⟨fun t fuel cs x hc => by simp [chk] at hc, fun fs off n cs xs hc hl _ _ _ => ?_⟩
    exact ⟨(), by
      show cs.drop off = []
      rw [List.drop_eq_nil_iff]
      have : cs.length = off + 0 := hl
      omega⟩
  | .pair a b => by
    have key : ∀ (fs : List Field) (off n : Nat) (cs : List Value) (xs : List (DataW H × List MemPlace)),
        (match fs with | f :: r => Nat.beq f.offset off && Nat.beq (P.cellsOf f.type) a.size && chk P a (some f.type) [] 0 && chk P b none r (off + a.size) | [] => false) = true →
        cs.length = off + (a.size + b.size) → xs.length = fs.length →
        (∀ (i : Nat) (f : Field), fs[i]? = some f → DataW.trod enc P w 0 spare held n f.type ((cs.drop f.offset).take (P.cellsOf f.type)) = xs[i]?) →
        (∀ n ∈ DataW.weightsEach P (fs.map (·.type)) (xs.map (·.1)), n ≤ reachBytes) → ∃ d, Reads w (.pair a b) (cs.drop off) d := by
      intro fs off n cs xs hc hl hx hr hw
      match fs, xs, hc, hx, hr, hw with
      | f :: r, x :: xs, hc, hx, hr, hw =>
        simp only [Bool.and_eq_true, Nat.beq_eq] at hc
        obtain ⟨⟨⟨h1, h2⟩, h3⟩, h4⟩ := hc
        simp only [List.map_cons, DataW.weightsEach, List.mem_append] at hw
        have r0 := hr 0 f rfl
        rw [h1, h2] at r0
        obtain ⟨d1, hd1⟩ := (opens hspare a).1 f.type n _ x h3 (by simpa using r0) fun m hm => hw m (Or.inl hm)
        obtain ⟨d2, hd2⟩ := (opens hspare b).2 r (off + a.size) n cs xs h4 (by omega) (by simpa using hx) (fun i g hg => by simpa using hr (i + 1) g (by simpa using hg)) fun m hm => hw m (Or.inr hm)
        refine ⟨(d1, d2), hd1, ?_⟩
        show Reads w b ((cs.drop off).drop a.size) d2
        rw [List.drop_drop]
        exact hd2
      | [], _, hc, _, _, _ => cases hc
    refine ⟨fun t fuel cs x hc h hw => ?_, fun fs off n cs xs hc hl hx hr hw => ?_⟩
    · simp only [chk] at hc
      split at hc
      · rename_i fs hu
        simp only [Bool.and_eq_true, Nat.beq_eq] at hc
        obtain ⟨xs, n, rfl, rfl, hl, hx, hr⟩ := DataW.trod_struct hu h
        have := key fs.toList 0 n cs xs (by simpa only [Nat.zero_add] using hc.2) (by rw [hl, hc.1]; omega) (by simpa using hx) (fun i f hf => hr i f (by simpa using hf)) (fun m hm => hw m (by simpa [DataW.weights, hu] using hm))
        simpa using this
      · cases hc
    · exact key fs off n cs xs (by simpa only [chk] using hc) hl hx hr hw
  | .arr m e => by
    refine ⟨fun t fuel cs x hc h hw => ?_, fun fs off n cs xs hc => by simp [chk] at hc⟩
    simp only [chk] at hc
    split at hc
    · rename_i n' e' hu
      simp only [Bool.and_eq_true, Nat.beq_eq] at hc
      obtain ⟨⟨⟨rfl, h1⟩, h2⟩, h3⟩ := hc
      obtain ⟨xs, n, rfl, rfl, hl, hx, hr⟩ := DataW.trod_array hu h
      rw [h2] at hr
      obtain ⟨ds, hd1, hd2⟩ := choose_list (α := e.den) (fun i d => Reads w e ((cs.drop (i * e.size)).take e.size) d) n' (fun i hi => by
        have hi2 : i < xs.length := by omega
        have := hr i hi
        rw [List.getElem?_eq_getElem hi2] at this
        refine (opens hspare e).1 e' n _ xs[i] h3 this fun k hk => hw k ?_
        simp only [DataW.weights, hu]
        exact weightsAll_mem (List.mem_map.2 ⟨xs[i], List.getElem_mem _, rfl⟩) hk) ()
      exact ⟨ds, hd1, by rw [hl, h1], hd2⟩
    · cases hc
  | .sl by_ e => by
    refine ⟨fun t fuel cs x hc h hw => ?_, fun fs off n cs xs hc => by simp [chk] at hc⟩
    simp only [chk] at hc
    split at hc
    · rename_i e' hu
      simp only [Bool.and_eq_true, Nat.beq_eq] at hc
      obtain ⟨⟨⟨h1, h2⟩, h3⟩, h4⟩ := hc
      have hpos : 0 < e.size := by simp [Nat.blt] at h2; omega
      rcases DataW.trod_slice hu h with ⟨rfl, rfl⟩ | ⟨a, len, cap, elems, rest, n, _, rfl, rfl, hb, hl, hm, hlen, hel, hsp, hns⟩
      · exact ⟨[], none, 0, rfl, by simp, by simp, by omega, fun h0 => by simp at h0⟩
      · rw [h1] at hel
        have hrl := (hsp (hspare _)).1
        have hcap : cap * by_ ≤ 140737488351232 := by
          have := hw ((elems.length + rest.length) * P.bytesOf e') (by simp [DataW.weights, hu])
          rw [hlen, hrl, h3, reach_eq, Nat.add_sub_cancel' hl] at this
          exact this
        have hm2 : cap ≤ 9223372036854775807 := hm
        have hcell : ∀ i, i < len → ∃ cs', cs'.length = e.size ∧ (∀ j, j < e.size → w.cell? ((a.add (i * e.size)).add j) = cs'[j]?) ∧ ∃ d, Reads w e cs' d := by
          intro i hi
          have hi2 : i < elems.length := by omega
          have := hel i hi
          rw [List.getElem?_eq_getElem hi2] at this
          obtain ⟨cs', q1, q2⟩ := Option.bind_eq_some_iff.1 this
          obtain ⟨_, q3, q4⟩ := World.cells?_some q1
          refine ⟨cs', q3, q4, (opens hspare e).1 e' n cs' elems[i] h4 q2 fun k hk => hw k ?_⟩
          simp only [DataW.weights, hu, List.mem_cons, List.mem_append]
          exact Or.inr (Or.inl (weightsAll_mem (List.mem_map.2 ⟨elems[i], List.getElem_mem _, rfl⟩) hk))
        obtain ⟨ds, hd1, hd2⟩ := choose_list (α := e.den) (fun i d => ∃ cs', cs'.length = e.size ∧ (∀ j, j < e.size → w.cell? ((a.add (i * e.size)).add j) = cs'[j]?) ∧ Reads w e cs' d) len (fun i hi => by
          obtain ⟨cs', q1, q2, d, q3⟩ := hcell i hi
          exact ⟨d, cs', q1, q2, q3⟩) ()
        refine ⟨ds, some a, cap, by rw [hd1], by omega, hcap, hm2, fun h0 => ?_⟩
        obtain ⟨b, off, spot⟩ := a
        have h00 : ∃ v, w.cell? ⟨b, off, spot⟩ = some v := by
          obtain ⟨cs', q1, q2, _⟩ := hd2 0 h0
          have := q2 0 hpos
          rw [List.getElem?_eq_getElem (by omega)] at this
          simp only [Nat.zero_mul, Addr.add, if_true] at this
          exact ⟨_, this⟩
        obtain ⟨v, hv⟩ := h00
        have hspot : spot = none := by simpa using World.cell?_spot hv
        subst hspot
        refine ⟨b, off, rfl, World.block_lt_of_cell? w _ hv, fun i hi => ?_⟩
        obtain ⟨cs', q1, q2, q3⟩ := hd2 i hi
        refine ⟨cs', q1, fun j hj => ?_, q3⟩
        have := q2 j hj
        rw [Addr.add_lit, Addr.add_lit] at this
        rw [← this, Nat.add_assoc]
    · cases hc
end
end Go.Proofs.Ytbpdnaiackfdmaa.Open
