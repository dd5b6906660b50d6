/- Maps of the call's own from keys to true: what was seen. -/
import Derived.Test.YtlcmnpbbfnfcmaaGreatB5
import Derived.Maps.OwnOps
import Derived.Maps.OwnSet
import Derived.Maps.Range
namespace Go.Proofs.YtlcmnpbbfnfcmaaGreat
open Go.RowKit Go.Maps
set_option linter.unusedVariables false

theorem seen_plain {H : Type} {P : Program} {e : TypeId} (he : P.underlying e = some .bool) {v : Value} {z : DataW H × List MemPlace} (h : plainElem P e v = some z) : ∃ b, v = .bool b ∧ z.1 = .lit (.bool b) := by
  unfold plainElem at h
  rw [he] at h
  cases v <;> simp at h
  subst h
  exact ⟨_, rfl, rfl⟩
theorem size_put_new {H : Type} {D : DataW H} (hD : IsMap D) {k : Lit} (d : DataW H) (h : Maps.has D k = false) : Maps.size (D.put k d) = Maps.size D + 1 := by
  obtain ⟨es, rfl⟩ := hD
  rw [has_eq, List.any_eq_false] at h
  show (DataW.insert (k, d) (es.filter fun p => !p.1.sameKey k)).length = es.length + 1
  rw [length_insert, List.filter_eq_self.2 fun p hp => by simpa using h p hp]

theorem filter_off {H : Type} {k : Lit} : ∀ {es : List (Lit × DataW H)}, es.Pairwise (fun p q => p.1 ≠ q.1) → (∀ p ∈ es, WideAt.IsKeyLit p.1) → es.any (fun p => p.1.sameKey k) = true → (es.filter fun p => !p.1.sameKey k).length + 1 = es.length
  | [], _, _, h => by simp at h
  | p :: es, hp, hk, h => by
    obtain ⟨h1, h2⟩ := List.pairwise_cons.1 hp
    by_cases hs : p.1.sameKey k = true
    · have e := WideAt.sameKey_eq hs
      have hf : es.filter (fun p => !p.1.sameKey k) = es := List.filter_eq_self.2 fun q hq => by
        rw [sameKey_ne (fun e2 => h1 q hq (by rw [e, e2]))]; rfl
      rw [List.filter_cons_of_neg (by simp [hs]), hf]; rfl
    · have hs : p.1.sameKey k = false := by simpa using hs
      rw [List.any_cons, hs, Bool.false_or] at h
      rw [List.filter_cons_of_pos (by simp [hs]), List.length_cons, filter_off h2 (fun q hq => hk q (List.mem_cons_of_mem _ hq)) h, List.length_cons]
theorem size_put_old {H : Type} {D : DataW H} {es : List (Lit × DataW H)} (e : D = .map es) (hp : es.Pairwise (fun p q => p.1 ≠ q.1)) (hkl : ∀ p ∈ es, WideAt.IsKeyLit p.1) {k : Lit} (d : DataW H) (h : Maps.has D k = true) : Maps.size (D.put k d) = Maps.size D := by
  subst e
  rw [has_eq] at h
  show (DataW.insert (k, d) (es.filter fun p => !p.1.sameKey k)).length = es.length
  rw [length_insert, filter_off hp hkl h]
theorem owns_size {H : Type} {P : Program} {k : TypeId} {R : Value → Option (DataW H × List MemPlace)} {w : World} {b n m : Nat} {D : DataW H} (h : w.ownsMap P k R b n D) (hm : Maps.size D = m) : w.ownsMap P k R b m D := by
  obtain ⟨es, clock, hb, F, _, rfl⟩ := h
  refine ⟨es, clock, hb, F, ?_, rfl⟩
  rw [← hm]
  simp [Maps.size, length_sorted]

/-- How keys of a kind stand in a map: as values, and as literals. -/
structure KeyKind (P : Program) (T k e : TypeId) (ι : Type) where
  val : ι → Value
  lit : ι → Lit
  ok : ι → Prop
  keyed : Keyed P k
  typ : P.underlying T = some (.map k e)
  elem : P.underlying e = some .bool
  zero : ∀ w, (zeroValue e).run P w = .ok (.bool false) w
  key : ∀ i, ok i → keyOf P k (val i) = some (lit i)
  inj : ∀ i j, val i = val j → i = j
section
variable {P : Program} {T k e : TypeId} {ι : Type} (K : KeyKind P T k e ι)
theorem KeyKind.lit_inj {i j : ι} (hi : K.ok i) (hj : K.ok j) (h : K.lit i = K.lit j) : i = j :=
  K.inj i j (K.keyed.inj (K.key i hi) (by rw [h]; exact K.key j hj))
/-- Block B is a map of n entries: those keys of which S tells. -/
structure SeenG (w : World) (B n : Nat) (S : ι → Bool) : Prop where
  own : ∃ D : DataW Unit, w.ownsMap P k (plainElem P e) B n D ∧ Maps.size D = n ∧ ∀ i, K.ok i → D.atKey (K.lit i) (.lit (.bool false)) = .lit (.bool (S i)) ∧ Maps.has D (K.lit i) = S i
variable {K}
theorem SeenG.lt {w : World} {B n : Nat} {S : ι → Bool} (h : SeenG K w B n S) : B < w.heap.size := by
  obtain ⟨D, h1, _⟩ := h.own
  exact h1.lt
theorem SeenG.below {w w' : World} {B n : Nat} {S : ι → Bool} (h : SeenG K w B n S) (hb : Below w.heap.size w w') : SeenG K w' B n S := by
  obtain ⟨D, ⟨es, clock, h1, h2⟩, h3⟩ := h.own
  exact ⟨D, ⟨es, clock, (hb.block B (Array.getElem?_eq_some_iff.1 h1).1).trans h1, h2⟩, h3⟩
theorem SeenG.congr {w : World} {B n m : Nat} {S S' : ι → Bool} (h : SeenG K w B n S) (hn : n = m) (hS : ∀ i, K.ok i → S i = S' i) : SeenG K w B m S' := by
  subst hn
  obtain ⟨D, h1, h2, h3⟩ := h.own
  exact ⟨D, h1, h2, fun i hi => by rw [← hS i hi]; exact h3 i hi⟩
theorem SeenG.look {w : World} {B n : Nat} {S : ι → Bool} (h : SeenG K w B n S) {i : ι} (hi : K.ok i) : (Instr.lookup T (.map (some B)) (K.val i) false).run P w = .ok (.bool (S i)) w := by
  obtain ⟨D, h1, _, h2⟩ := h.own
  obtain ⟨v, ps, hr, hv⟩ := h1.lookup K.keyed K.typ (K.zero w) (plainElem_bool K.elem false) (K.key i hi)
  obtain ⟨b, rfl, hb⟩ := seen_plain K.elem hv
  simp only at hb
  rw [(h2 i hi).1] at hb
  cases hb
  exact hr
theorem SeenG.made (w : World) : SeenG K (w.alloc (.map #[] 0)) w.heap.size 0 (fun _ => false) :=
  ⟨.map [], World.ownsMap_made w _ _ _, rfl, fun i _ => ⟨by simp [DataW.atKey], rfl⟩⟩
theorem SeenG.len {w : World} {B n : Nat} {S : ι → Bool} (h : SeenG K w B n S) (ty : TypeId) : (Builtin.len_ #[T] ty #[.map (some B)]).run P w = .ok (.int .i64 (n : Int)) w := by
  obtain ⟨D, h1, h2, _⟩ := h.own
  rw [← h2]
  exact h1.len K.typ ty
theorem SeenG.wpPut [DecidableEq ι] {ops : Array Oper} {rest : List Oper} {o : Oper} {a : Act} {w : World} {Q : Exit → Act → World → Prop} {B n : Nat} {S : ι → Bool} (h : SeenG K w B n S) {i : ι} (hi : K.ok i) (hnew : S i = false) (hn : n < 100000) (hg : o.guard = none) (m y v : Operand) (hop : o.op = Op.mapUpdate T m y v)
    (hm : a.eval m = .map (some B)) (hy : a.eval y = K.val i) (hv : a.eval v = .bool true)
    (hK : ∀ w', SeenG K w' B (n + 1) (fun j => S j || decide (j = i)) → w.grownBy w' (some B) → wpList P ops Q rest (a.put o.dst undef) w') : wpList P ops Q (o :: rest) a w := by
  obtain ⟨D, h1, h0, h2⟩ := h.own
  refine wpList_mapUpdate_own w hg m y v T hop k e K.keyed K.typ _ B n D hm h1 (by unfold maxLen; omega) _ _ (K.lit i) hy hv (K.key i hi) (.lit (.bool true)) [] (plainElem_bool K.elem true) fun w' h3 h4 => hK w' ⟨_, h3, ?_, fun z hz => ?_⟩ h4
  · have hmap : IsMap D := by obtain ⟨es, clock, _, _, _, e⟩ := h1; exact ⟨_, e⟩
    rw [size_put_new hmap _ (by rw [(h2 i hi).2, hnew]), h0]
  · have hmap : IsMap D := by obtain ⟨es, clock, _, _, _, e⟩ := h1; exact ⟨_, e⟩
    by_cases e : z = i
    · subst e
      rw [atKey_put_same hmap (K.keyed.key (K.key z hz)), has_put_same hmap (K.keyed.key (K.key z hz))]
      simp
    · have hne : K.lit z ≠ K.lit i := fun e2 => e (K.lit_inj hz hi e2)
      rw [atKey_put_other hne, has_put_other hne, (h2 z hz).1, (h2 z hz).2]
      simp [e]
/-- m[i] = true, i seen before or not. -/
theorem SeenG.wpPutAny [DecidableEq ι] {ops : Array Oper} {rest : List Oper} {o : Oper} {a : Act} {w : World} {Q : Exit → Act → World → Prop} {B n : Nat} {S : ι → Bool} (h : SeenG K w B n S) {i : ι} (hi : K.ok i) (hn : n < 100000) (hg : o.guard = none) (m y v : Operand) (hop : o.op = Op.mapUpdate T m y v)
    (hm : a.eval m = .map (some B)) (hy : a.eval y = K.val i) (hv : a.eval v = .bool true)
    (hK : ∀ w', SeenG K w' B (if S i = true then n else n + 1) (fun j => S j || decide (j = i)) → w.grownBy w' (some B) → wpList P ops Q rest (a.put o.dst undef) w') : wpList P ops Q (o :: rest) a w := by
  cases hs : S i with
  | false => exact h.wpPut hi hs hn hg m y v hop hm hy hv fun w' h1 h2 => hK w' (by rw [hs]; exact h1) h2
  | true =>
    obtain ⟨D, h1, h0, h2⟩ := h.own
    refine wpList_mapUpdate_own w hg m y v T hop k e K.keyed K.typ _ B n D hm h1 (by unfold maxLen; omega) _ _ (K.lit i) hy hv (K.key i hi) (.lit (.bool true)) [] (plainElem_bool K.elem true) fun w' h3 h4 => hK w' ?_ h4
    rw [hs, if_pos rfl]
    obtain ⟨es, he, hp, hkl⟩ := h1.entries K.keyed
    have hsz : Maps.size (D.put (K.lit i) (.lit (.bool true))) = n := by rw [size_put_old he hp hkl _ (by rw [(h2 i hi).2, hs]), h0]
    refine ⟨_, owns_size h3 hsz, hsz, fun z hz => ?_⟩
    have hmap : IsMap D := ⟨es, he⟩
    by_cases e : z = i
    · subst e
      rw [atKey_put_same hmap (K.keyed.key (K.key z hz)), has_put_same hmap (K.keyed.key (K.key z hz))]
      simp
    · have hne : K.lit z ≠ K.lit i := fun e2 => e (K.lit_inj hz hi e2)
      rw [atKey_put_other hne, has_put_other hne, (h2 z hz).1, (h2 z hz).2]
      simp [e]
end
end Go.Proofs.YtlcmnpbbfnfcmaaGreat
