/- The document's Solve: what its rows are while they are laid. -/
import Derived.Test.YtpoojlealcheaaaRsO
namespace Go.Proofs.Ytpoojlealcheaaa
open Go.RowKit GfMath PolyMath RsMath
set_option linter.unusedVariables false
set_option maxRecDepth 100000

theorem own_some {w : World} {base n : Nat} {e : TypeId} {v : Value} {xs : List Value} (h : w.ownsRow base e 1 v n xs) (hn : 0 < n) :
    ∃ g cap ys, v = .slice (some ⟨g, 0, none⟩) n cap ∧ n ≤ cap ∧ base ≤ g ∧ Row w g e (xs ++ ys) := by
  rcases h.2 with ⟨h1, h2⟩ | ⟨g, cap, cur, h1, h2, h3, h4, h5, h6, h7⟩
  · omega
  · subst h1
    obtain ⟨q1, ys, q2⟩ := own_row h
    exact ⟨g, cap, ys, rfl, h4, q1, q2⟩
theorem rs_take_set {w : World} {g : Nat} {l : List Nat} {ys : List Value} (h : Row w g 5 (u8s l ++ ys)) (k x : Nat) (hk : k < l.length) : Row (w.setCell ⟨g, k, none⟩ (.int .u8 (x : Int))) g 5 (u8s (l.set k x) ++ ys) := by
  have := h.set k (.int .u8 (x : Int))
  rwa [List.set_append_left _ _ (by rw [u8s_length]; omega), u8s_set] at this
theorem rs_lies {w : World} {g : Nat} {t : TypeId} {l ys : List Value} (h : Row w g t (l ++ ys)) : Lies w w.heap.size (some ⟨g, 0, none⟩) l := fun _ => ⟨g, 0, rfl, h.lt, fun j u hj => by
  rw [Nat.zero_add, h.cell, List.getElem?_append_left (List.getElem?_eq_some_iff.1 hj).1]; exact hj⟩

structure RwB (w : World) (B : Nat) (R : Value) (i m : Nat) (hb hc : Nat → Nat) (F : Nat → Nat → Nat) : Prop where
  own : w.ownsRow B 23 1 R i (heads i m hb hc)
  inner : ∀ r, r < i → ∃ zs, Row w (hb r) 3 (nats (tab (m + 1) (F r)) ++ zs)
  inj : ∀ r q, r < i → q < i → hb r = hb q → r = q
  ibase : ∀ r, r < i → B ≤ hb r
theorem RwB.step {w w' : World} {B : Nat} {R : Value} {i m : Nat} {hb hc : Nat → Nat} {F : Nat → Nat → Nat} (h : RwB w B R i m hb hc F) (hbw : Below w.heap.size w w') : RwB w' B R i m hb hc F :=
  ⟨own_below h.own hbw, fun r hr => by obtain ⟨zs, q⟩ := h.inner r hr; exact ⟨zs, q.step hbw⟩, h.inj, h.ibase⟩
theorem RwB.zero (w : World) (m : Nat) (F : Nat → Nat → Nat) : RwB (w.alloc (.cells #[] 23)) w.heap.size (.slice (some ⟨w.heap.size, 0, none⟩) 0 0) 0 m (fun _ => 0) (fun _ => 0) F :=
  ⟨own_zero w _, fun r hr => absurd hr (by omega), fun r q hr => absurd hr (by omega), fun r hr => absurd hr (by omega)⟩
theorem own_typed {w : World} {B n g : Nat} {e t : TypeId} {v : Value} {xs l : List Value} (h : w.ownsRow B e 1 v n xs) (hr : Row w g t l) (hne : t ≠ e) : v.ownBlock ≠ some g := by
  rcases h.2 with ⟨rfl, _⟩ | ⟨g', cap, cur, rfl, _, hg, _⟩
  · simp [Value.ownBlock]
  · intro e2
    simp only [Value.ownBlock, Option.some.injEq] at e2
    subst e2
    have := hg.symm.trans hr
    simp only [Option.some.injEq, Obj.cells.injEq] at this
    exact hne this.2.1.symm
/-- A row more. -/
theorem RwB.add {w w' : World} {B g1 c1 : Nat} {R R' : Value} {i m : Nat} {hb hc : Nat → Nat} {F : Nat → Nat → Nat} {ys : List Value} (h : RwB w B R i m hb hc F)
    (hrow : Row w g1 3 (nats (tab (m + 1) (F i)) ++ ys)) (hnew : ∀ r, r < i → hb r ≠ g1) (hB : B ≤ g1)
    (hown : w'.ownsRow B 23 1 R' (i + 1) (heads i m hb hc ++ [.slice (some ⟨g1, 0, none⟩) (m + 1) c1])) (hg : w.grownBy w' R.ownBlock) :
    RwB w' B R' (i + 1) m (fun r => if r = i then g1 else hb r) (fun r => if r = i then c1 else hc r) F := by
  have hl : ∀ {g : Nat} {l : List Value}, Row w g 3 l → Row w' g 3 l := fun {g l} q => (hg.block g q.lt (fun e => own_typed h.own q (by decide) e.symm)).trans q
  refine ⟨?_, fun r hr => ?_, fun r q hr hq e => ?_, fun r hr => ?_⟩
  · rw [heads_snoc, heads_congr (hb' := hb) (hc' := hc) (fun r hr => by simp [Nat.ne_of_lt hr])]
    simp only [if_pos]
    exact hown
  · by_cases e : r = i
    · subst e; simp only [if_pos]; exact ⟨ys, hl hrow⟩
    · simp only [if_neg e]
      obtain ⟨zs, q⟩ := h.inner r (by omega)
      exact ⟨zs, hl q⟩
  · by_cases e1 : r = i
    · by_cases e2 : q = i
      · omega
      · simp only [if_pos e1, if_neg e2] at e
        exact absurd e.symm (hnew q (by omega))
    · by_cases e2 : q = i
      · simp only [if_neg e1, if_pos e2] at e
        exact absurd e (hnew r (by omega))
      · simp only [if_neg e1, if_neg e2] at e
        exact h.inj r q (by omega) (by omega) e
  · by_cases e : r = i
    · simp only [if_pos e]; exact hB
    · simp only [if_neg e]; exact h.ibase r (by omega)
theorem RwB.mt {w : World} {B : Nat} {R : Value} {p m : Nat} {hb hc : Nat → Nat} {F : Nat → Nat → Nat} (h : RwB w B R p m hb hc F) (hp : 0 < p) : ∃ o co, R = .slice (some ⟨o, 0, none⟩) p co ∧ Mt w B o p m hb hc F := by
  obtain ⟨g, cap, ys, e, h1, h2, h3⟩ := own_some h.own hp
  exact ⟨g, cap, e, ⟨ys, h3⟩, h.inner, h.inj, h2, h.ibase⟩

theorem one_ints : One Try.prog 23 := One.of (by kernel_rfl)
/-- A list that lies in no block below B. -/
def FrB (B : Nat) (v : Value) : Prop := ∀ g o n c, v = .slice (some ⟨g, o, none⟩) n c → B ≤ g
/-- What Solve tells. -/
def SolP (B : Nat) (r : Option (List Nat)) (e : Ending) (w' : World) : Prop :=
  match r with
  | some D => ∃ v, e = .returned (.tuple #[v, .bool true]) ∧ Rd D v w' ∧ FrB B v
  | none => e = .returned (.tuple #[.slice none 0 0, .bool false])
end Go.Proofs.Ytpoojlealcheaaa
