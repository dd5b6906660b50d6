/- PolyFits: the walk. -/
import Derived.Test.YtpkjannlndnfdaaPolyZD
import Derived.Maps.OwnOps
namespace Go.Proofs.Ytpkjannlndnfdaa
open Go.RowKit GfMath PolyMath Go.Maps
set_option linter.unusedVariables false

theorem keyed_u8 : Keyed Try.prog 5 := int_keyed Try.underlying5
theorem zero_bool (w : World) : (zeroValue 4).run Try.prog w = .ok (.bool false) w := by kernel_rfl
theorem plain_inv {H : Type} {P : Program} {e : TypeId} (he : P.underlying e = some .bool) {v : Value} {z : DataW H × List MemPlace} (h : plainElem P e v = some z) : ∃ b, v = .bool b ∧ z.1 = .lit (.bool b) := by
  unfold plainElem at h
  rw [he] at h
  cases v <;> simp at h
  subst h
  exact ⟨_, rfl, rfl⟩
theorem u8_wf {x : Nat} (hx : x < 256) : (Lit.int .u8 (x : Int)).wf = true := by
  simp [Lit.wf, IntKind.min, IntKind.max, IntKind.bits, IntKind.signed]; omega
/-- The map of what was seen: its block, how many entries at most. -/
structure Seen (w : World) (B k : Nat) (S : List Nat) : Prop where
  own : ∃ D : DataW Unit, w.ownsMap Try.prog 5 (plainElem Try.prog 4) B k D ∧ ∀ y : Nat, y < 256 → D.atKey (.int .u8 (y : Int)) (.lit (.bool false)) = .lit (.bool (decide (y ∈ S)))
theorem Seen.below {w w' : World} {B k : Nat} {S : List Nat} (h : Seen w B k S) (hb : Below w.heap.size w w') : Seen w' B k S := by
  obtain ⟨D, ⟨es, clock, h1, h2⟩, h3⟩ := h.own
  exact ⟨D, ⟨es, clock, (hb.block B (Array.getElem?_eq_some_iff.1 h1).1).trans h1, h2⟩, h3⟩
theorem Seen.kept {w w' : World} {B k : Nat} {S : List Nat} {row : Option Nat} (h : Seen w B k S) (hg : w.grownBy w' row) (hne : some B ≠ row) : Seen w' B k S := by
  obtain ⟨D, h1, h2⟩ := h.own
  exact ⟨D, h1.kept hg hne, h2⟩
theorem Seen.look {w : World} {B k : Nat} {S : List Nat} (h : Seen w B k S) {x : Nat} (hx : x < 256) :
    (Instr.lookup 27 (.map (some B)) (.int .u8 (x : Int)) false).run Try.prog w = .ok (.bool (decide (x ∈ S))) w := by
  obtain ⟨D, h1, h2⟩ := h.own
  obtain ⟨v, ps, hr, hv⟩ := h1.lookup keyed_u8 Try.underlying27 (zero_bool w) (plainElem_bool Try.underlying4 false) (keyOf_int_mk Try.underlying5 (u8_wf hx))
  obtain ⟨b, rfl, hb⟩ := plain_inv Try.underlying4 hv
  simp only at hb
  rw [h2 x hx] at hb
  cases hb
  exact hr
theorem Seen.made (w : World) : Seen (w.alloc (.map #[] 0)) w.heap.size 0 [] :=
  ⟨.map [], World.ownsMap_made w _ _ _, fun y _ => by simp [DataW.atKey]⟩
theorem Seen.wpPut {ops : Array Oper} {rest : List Oper} {o : Oper} {a : Act} {w : World} {Q : Exit → Act → World → Prop} {B k : Nat} {S : List Nat} (h : Seen w B k S) {x : Nat} (hx : x < 256) (hk : k < 1000) (hg : o.guard = none) (m y v : Operand) (hop : o.op = Op.mapUpdate 27 m y v)
    (hm : a.eval m = .map (some B)) (hy : a.eval y = .int .u8 (x : Int)) (hv : a.eval v = .bool true)
    (hK : ∀ w', Seen w' B (k + 1) (S ++ [x]) → w.grownBy w' (some B) → wpList Try.prog ops Q rest (a.put o.dst undef) w') : wpList Try.prog ops Q (o :: rest) a w := by
  obtain ⟨D, h1, h2⟩ := h.own
  refine wpList_mapUpdate_own w hg m y v 27 hop 5 4 keyed_u8 Try.underlying27 _ B k D hm h1 (by unfold maxLen; omega) _ _ (.int .u8 (x : Int)) hy hv (keyOf_int_mk Try.underlying5 (u8_wf hx)) (.lit (.bool true)) [] (plainElem_bool Try.underlying4 true) fun w' h3 h4 => hK w' ⟨_, h3, fun z hz => ?_⟩ h4
  have hmap : IsMap D := by obtain ⟨es, clock, _, _, _, e⟩ := h1; exact ⟨_, e⟩
  by_cases e : z = x
  · subst e
    rw [atKey_put_same hmap (show WideAt.IsKeyLit (.int .u8 (z : Int)) from trivial)]
    simp
  · rw [atKey_put_other (fun e2 => e (by injection e2 with _ e3; omega)), h2 z hz]
    simp [e]

/-- Does a place stand there twice? -/
def twB (l : List Nat) : Bool := decide (¬ l.Nodup)
theorem twB_snoc (l : List Nat) (x : Nat) : twB (l ++ [x]) = (twB l || decide (x ∈ l)) := by
  have e : (l ++ [x]).Nodup ↔ l.Nodup ∧ x ∉ l := by
    rw [List.nodup_append]
    constructor
    · rintro ⟨h1, _, h2⟩
      exact ⟨h1, fun h => h2 x h x (by simp) rfl⟩
    · rintro ⟨h1, h2⟩
      refine ⟨h1, by simp, fun a ha b hb e => ?_⟩
      simp only [List.mem_singleton] at hb
      subst hb e
      exact h2 ha
  unfold twB
  rw [Bool.eq_iff_iff]
  by_cases h1 : l.Nodup <;> by_cases h2 : x ∈ l <;> simp [e, h1, h2]

end Go.Proofs.Ytpkjannlndnfdaa
