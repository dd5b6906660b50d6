/- The texts InvS, InvY, InvR, FlaL, InvG, Make, FlaN, FlaO, Open, FlaP, FlaQ, FlaR, FlaX, FlaY, TalMath, FlaZ, TalA, TalB, FlaT, FlaV, TalC, InvT, OpK, TalE, TalF, GeoMath, one behind the other. -/
import Derived.Test.YtcehdgdgjjecmaaShelf
import Derived.Lib.MakeNoZero
import Derived.Deep.Slices
import Derived.SizedLaws
import Derived.OpenShut
import Derived.Below
import Derived.ChangeArms
import Derived.ChangeMaps5
import Derived.RowKit
import Derived.PlainAid
import Derived.Test.YtcehdgdgjjecmaaB1
/- A region that draws its order and whose last operation writes into one of the call's blocks: all but some late ones (X: pure, of no world) stand ahead of it. -/
namespace Go.Proofs.Ytcehdgdgjjecmaa
open Go.RowKit

section
variable {P : Program} {ops : Array Oper} {Q : Exit → Act → World → Prop}

/-- Each operation waits for none behind it, as far as waiting binds. -/
def ordX (ops : Array Oper) : Bool := (List.range ops.size).all fun i => (ops[i]?.map fun o => o.after.all fun e => !Region.binds .any e || decide (e.on < i)).getD true

theorem all_listedX (hord : ordX ops = true) {listed : Array Bool} (hs : listed.size = ops.size) (h : Region.ready .any ops listed = []) : ∀ i, listed.getD i true = true := by
  intro i
  induction i using Nat.strongRecOn with
  | ind i ih =>
    cases hi : listed.getD i true with
    | true => rfl
    | false =>
      have hlt : i < ops.size := by
        rw [← hs]
        by_cases hl : i < listed.size
        · exact hl
        · simp [Array.getD, hl] at hi
      have : i ∈ Region.ready .any ops listed := by
        refine mem_ready.2 ⟨hlt, hi, _, Array.getElem?_eq_getElem hlt, fun e he hbd => ?_⟩
        unfold ordX at hord
        rw [List.all_eq_true] at hord
        have h1 := hord i (List.mem_range.2 hlt)
        rw [Array.getElem?_eq_getElem hlt] at h1
        simp only [Option.map_some, Option.getD_some, Array.all_eq_true_iff_forall_mem] at h1
        have h2 := h1 e (by simpa using he)
        have hlt2 : e.on < i := by simpa [hbd] using h2
        have h3 := ih e.on hlt2
        have hl : e.on < listed.size := by omega
        simpa [Array.getD, hl] using h3
      rw [h] at this
      cases this

/-- An operation that yields nothing leaves the frame. -/
theorem upon_none {o : Oper} {a : Act} {R : World → Prop} (hd : o.dst = none) (r : Result Next)
    (h : o.upon P a (fun a' w' => a'.defers = a.defers ∧ R w') Q r) : o.upon P a (fun a' w' => a' = a ∧ R w') Q r := by
  have hput : ∀ v, a.put o.dst v = a := fun v => by rw [hd]; rfl
  have hk : ∀ v w', (fun (a' : Act) (w' : World) => a'.defers = a.defers ∧ R w') (a.put o.dst v) w' → (fun (a' : Act) (w' : World) => a' = a ∧ R w') (a.put o.dst v) w' := fun v w' h => ⟨hput v, h.2⟩
  cases r with
  | ok n w' =>
    cases n with
    | value v => exact hk v w' h
    | skip => exact hk undef w' h
    | defer e =>
      simp only [Oper.upon, hd, Act.put] at h
      have := congrArg List.length h.1
      simp at this
    | enter f args =>
      simp only [Oper.upon] at h ⊢
      refine Calls.mono h fun e w'' he => ?_
      cases e with
      | returned v => exact hk v w'' he
      | panicked c => exact he
      | outgrown => exact he
    | row row args =>
      simp only [Oper.upon] at h ⊢
      exact Rows.mono h fun v w'' he => hk v w'' he
    | _ => exact h
  | halt x w' => cases x <;> exact h
theorem wpOp_none {i : Nat} {o : Oper} {a : Act} {w : World} {R : World → Prop} (ho : ops[i]? = some o) (hd : o.dst = none)
    (h : wpOp P ops Q i (fun a' w' => a'.defers = a.defers ∧ R w') a w) : wpOp P ops Q i (fun a' w' => a' = a ∧ R w') a w := by
  unfold wpOp at *
  rw [ho] at h ⊢
  simp only at h ⊢
  split at h
  · rename_i hw
    rw [if_pos hw]
    rcases h with h | h
    · exact Or.inl (upon_none hd _ h)
    · exact Or.inr h
  · rename_i hw
    rw [if_neg hw]
    refine ⟨by rw [hd]; rfl, h.2⟩

/-- As region_inv, where some edges bind in one of the two orders alone. -/
theorem region_invX {id : Nat} {a : Act} {w : World} (D : List (Nat × Nat)) (φ : Nat → Value → World → Prop) (G : World → Prop) (hm : P.follows .mixedOrders = true)
    (hord : ordX ops = true) (hD1 : D.map (·.1) = List.range ops.size) (hD2 : (D.map (·.2)).Nodup) (hD3 : (D.all fun p => (ops[p.1]?.bind (·.dst)) == some p.2) = true) (hD4 : (D.all fun p => Nat.blt p.2 a.tmps.size) = true)
    (hmono : ∀ i v w w', φ i v w → Below w.heap.size w w' → φ i v w') (hG : G w.drew)
    (step : ∀ p ∈ D, ∀ u w, G w → Came ops φ u w p.1 →
      wpOp P ops Q p.1 (fun a' w' => a'.defers = (puts D a u).defers ∧ φ p.1 (a'.tmps.getD p.2 undef) w' ∧ G w' ∧ Below w.heap.size w w') (puts D a u) w)
    (fin : ∀ u w, G w → (∀ p ∈ D, φ p.1 (u p.1) w) → Q .normal (puts D a u) w) : (Code.region id ops true).wp P Q a w := by
  refine wp_region_any hm ?_
  have hnd1 : (D.map (·.1)).Nodup := by rw [hD1]; exact List.nodup_range
  have key : ∀ (fuel : Nat) (listed : Array Bool) (w : World) (u : Nat → Value) (L : List Nat), listed.size = ops.size → L.length ≤ fuel → (∀ i, listed.getD i true = false → i ∈ L) → G w →
      (∀ i, i < ops.size → listed.getD i true = true → φ i (u i) w) → wpAny P .any ops Q fuel listed (puts D a u) w := by
    intro fuel
    induction fuel with
    | zero =>
      intro listed w u L hs hL hin hg hφ
      have hall : ∀ i, listed.getD i true = true := fun i => by
        cases hi : listed.getD i true with
        | true => rfl
        | false => have := hin i hi; rw [List.length_eq_zero_iff.1 (Nat.le_zero.1 hL)] at this; cases this
      refine ⟨?_, fin u w hg fun p hp => hφ p.1 ?_ (hall _)⟩
      · rw [List.eq_nil_iff_forall_not_mem]
        intro i hi
        have := (mem_ready.1 hi).2.1
        rw [hall i] at this
        cases this
      · have : p.1 ∈ D.map (·.1) := List.mem_map.2 ⟨p, hp, rfl⟩
        rw [hD1] at this
        exact List.mem_range.1 this
    | succ fuel ih =>
      intro listed w u L hs hL hin hg hφ
      refine ⟨fun hr => fin u w hg fun p hp => hφ p.1 ?_ (all_listedX hord hs hr _), fun i hi => ?_⟩
      · have : p.1 ∈ D.map (·.1) := List.mem_map.2 ⟨p, hp, rfl⟩
        rw [hD1] at this
        exact List.mem_range.1 this
      · obtain ⟨h1, h2, o, ho, h3⟩ := mem_ready.1 hi
        have hiD : i ∈ D.map (·.1) := by rw [hD1]; exact List.mem_range.2 h1
        obtain ⟨⟨i', d⟩, hp, rfl⟩ := List.mem_map.1 hiD
        have hst := step _ hp u w hg (fun o' ho' e he hb => by
          have heq : o' = o := Option.some.inj (ho'.symm.trans ho)
          subst heq
          have hl := h3 e he hb
          have hlt : e.on < ops.size := by
            rw [← hs]
            by_cases hl2 : e.on < listed.size
            · exact hl2
            · simp [Array.getD, hl2] at hl
          refine hφ e.on hlt ?_
          have hl2 : e.on < listed.size := by omega
          simpa [Array.getD, hl2] using hl)
        have hd3 := List.all_eq_true.1 hD3 _ hp
        have hd4 := List.all_eq_true.1 hD4 _ hp
        simp only [ho, Option.bind_some, beq_iff_eq] at hd3
        have hd5 : d < a.tmps.size := by simp [Nat.blt] at hd4; omega
        have hst2 := wpOp_value (R := fun v w' => φ i' v w' ∧ G w' ∧ Below w.heap.size w w') ho hd3 (by rw [puts_size]; exact hd5) hst
        clear hst
        refine wpOp_mono ?_ hst2
        rintro a' w' ⟨v, rfl, hv, hg', hb'⟩
        rw [puts_put u i' d v D a hnd1 hD2 hp]
        refine ih _ w' (upd u i' v) (L.erase i') (by simpa using hs) ?_ ?_ hg' ?_
        · rw [List.length_erase_of_mem (hin i' h2)]
          omega
        · intro j hj
          have hji : j ≠ i' := fun e => by
            subst e
            have : j < listed.size := by omega
            simp [Array.getD, this] at hj
          refine (List.mem_erase_of_ne hji).2 (hin j ?_)
          simp only [Array.getD] at hj ⊢
          split at hj
          · rename_i hl
            rw [Array.size_setIfInBounds] at hl
            rw [dif_pos hl]
            rwa [Array.getInternal_eq_getElem, Array.getElem_setIfInBounds_ne (h := Ne.symm hji)] at hj
          · cases hj
        · intro j hj hl
          by_cases hji : j = i'
          · subst hji
            simpa [upd] using hv
          · have e1 : upd u i' v j = u j := by simp [upd, hji]
            rw [e1]
            refine hmono j _ w w' (hφ j hj ?_) hb'
            have hl2 : j < listed.size := by omega
            simp only [Array.getD, Array.size_setIfInBounds, hl2, dif_pos, Array.getInternal_eq_getElem] at hl ⊢
            rwa [Array.getElem_setIfInBounds_ne (h := Ne.symm hji)] at hl
  have hu : ∃ u : Nat → Value, puts D a u = a := by
    refine ⟨fun i => ((D.find? fun p => p.1 == i).map fun p => a.tmps.getD p.2 undef).getD undef, puts_self _ _ _ fun p hp => ?_⟩
    have : D.find? (fun q => q.1 == p.1) = some p := by
      clear fin step hD2 hD1 hD3 hD4 key
      induction D with
      | nil => cases hp
      | cons q D ih =>
        rw [List.map_cons, List.nodup_cons] at hnd1
        rcases List.mem_cons.1 hp with rfl | hp
        · simp
        · have hne : (q.1 == p.1) = false := by
            rw [beq_eq_false_iff_ne]
            intro e
            exact hnd1.1 (List.mem_map.2 ⟨p, hp, e.symm⟩)
          rw [List.find?_cons, hne]
          exact ih hnd1.2 hp
    simp only [this, Option.map_some, Option.getD_some]
  obtain ⟨u, hu⟩ := hu
  have := key ops.size (Array.replicate ops.size false) w.drew u (List.range ops.size) (by simp) (by simp) (fun i hi => by
    rw [List.mem_range]
    by_cases hl : i < ops.size
    · exact hl
    · simp [Array.getD, hl] at hi) hG (fun i hi hl => by simp [Array.getD, hi] at hl)
  rw [hu] at this
  exact this

theorem getD_tf {l : Array Bool} {i : Nat} (h : i < l.size) : l.getD i true = l.getD i false := by simp [Array.getD, h]

theorem region_store {id : Nat} {a : Act} {w : World} (s : Nat) (X : List Nat) (D : List (Nat × Nat)) (φ : Nat → Value → World → Prop) (G H : World → Prop) (hm : P.follows .mixedOrders = true)
    (hsz : ops.size = s + 1) (hord : ordX ops = true) (hcl : ((List.range s).all fun j => X.contains j || reachB ops ops.size s j) = true)
    (hD1 : D.map (·.1) = List.range s) (hD2 : (D.map (·.2)).Nodup) (hD3 : (D.all fun p => (ops[p.1]?.bind (·.dst)) == some p.2) = true) (hD4 : (D.all fun p => Nat.blt p.2 a.tmps.size) = true)
    (hS : (ops[s]?.map (·.dst)) = some none) (hmono : ∀ i v w w', φ i v w → Below w.heap.size w w' → φ i v w') (hG : G w.drew)
    (step : ∀ p ∈ D, ∀ u w, G w → Came ops φ u w p.1 →
      wpOp P ops Q p.1 (fun a' w' => a'.defers = (puts D a u).defers ∧ φ p.1 (a'.tmps.getD p.2 undef) w' ∧ G w' ∧ Below w.heap.size w w') (puts D a u) w)
    (stepX : ∀ p ∈ D, p.1 ∈ X → ∀ u w, H w → Came ops (fun i v _ => ∃ w1, φ i v w1) u w p.1 →
      wpOp P ops Q p.1 (fun a' w' => a'.defers = (puts D a u).defers ∧ (∃ w1, φ p.1 (a'.tmps.getD p.2 undef) w1) ∧ H w') (puts D a u) w)
    (stepS : ∀ u w, G w → (∀ p ∈ D, p.1 ∉ X → φ p.1 (u p.1) w) → wpOp P ops Q s (fun a' w' => a'.defers = (puts D a u).defers ∧ H w') (puts D a u) w)
    (fin : ∀ u w, H w → (∀ p ∈ D, ∃ w1, φ p.1 (u p.1) w1) → Q .normal (puts D a u) w) : (Code.region id ops true).wp P Q a w := by
  refine wp_region_any hm ?_
  have hnd1 : (D.map (·.1)).Nodup := by rw [hD1]; exact List.nodup_range
  have hmemD : ∀ i, i < s → ∃ d, (i, d) ∈ D := fun i hi => by
    have : i ∈ D.map (·.1) := by rw [hD1]; exact List.mem_range.2 hi
    obtain ⟨⟨i', d⟩, hp, rfl⟩ := List.mem_map.1 this
    exact ⟨d, hp⟩
  have hltD : ∀ p ∈ D, p.1 < s := fun p hp => by
    have : p.1 ∈ D.map (·.1) := List.mem_map.2 ⟨p, hp, rfl⟩
    rw [hD1] at this
    exact List.mem_range.1 this
  have hclX : ∀ j, j < s → j ∉ X → reachB ops ops.size s j = true := fun j hj hx => by
    have := List.all_eq_true.1 hcl j (List.mem_range.2 hj)
    rw [Bool.or_eq_true] at this
    rcases this with h | h
    · exact absurd (by simpa using h) hx
    · exact h
  have hslot : ∀ p ∈ D, ∀ o, ops[p.1]? = some o → o.dst = some p.2 ∧ p.2 < a.tmps.size := fun p hp o ho => by
    have hd3 := List.all_eq_true.1 hD3 _ hp
    have hd4 := List.all_eq_true.1 hD4 _ hp
    simp only [ho, Option.bind_some, beq_iff_eq] at hd3
    exact ⟨hd3, by simp [Nat.blt] at hd4; omega⟩
  -- behind the write
  have keyB : ∀ (fuel : Nat) (listed : Array Bool) (w : World) (u : Nat → Value) (L : List Nat), listed.size = ops.size → L.length ≤ fuel → (∀ i, listed.getD i true = false → i ∈ L) → H w →
      (∀ i, listed.getD i true = false → i < s ∧ i ∈ X) → (∀ i, i < s → listed.getD i true = true → ∃ w1, φ i (u i) w1) → wpAny P .any ops Q fuel listed (puts D a u) w := by
    intro fuel
    induction fuel with
    | zero =>
      intro listed w u L hs hL hin hh hX hφ
      have hall : ∀ i, listed.getD i true = true := fun i => by
        cases hi : listed.getD i true with
        | true => rfl
        | false => have := hin i hi; rw [List.length_eq_zero_iff.1 (Nat.le_zero.1 hL)] at this; cases this
      refine ⟨?_, fin u w hh fun p hp => hφ p.1 (hltD p hp) (hall _)⟩
      rw [List.eq_nil_iff_forall_not_mem]
      intro i hi
      have := (mem_ready.1 hi).2.1
      rw [hall i] at this
      cases this
    | succ fuel ih =>
      intro listed w u L hs hL hin hh hX hφ
      refine ⟨fun hr => fin u w hh fun p hp => hφ p.1 (hltD p hp) (all_listedX hord hs hr _), fun i hi => ?_⟩
      obtain ⟨h1, h2, o, ho, h3⟩ := mem_ready.1 hi
      obtain ⟨his, hiX⟩ := hX i h2
      obtain ⟨d, hp⟩ := hmemD i his
      have hst := stepX _ hp hiX u w hh (fun o' ho' e he hb => by
        obtain rfl := Option.some.inj (ho'.symm.trans ho)
        have hl := h3 e he hb
        have hlt : e.on < ops.size := by
          rw [← hs]
          by_cases hl2 : e.on < listed.size
          · exact hl2
          · simp [Array.getD, hl2] at hl
        have hes : e.on < s := by
          unfold ordX at hord
          have h4 := List.all_eq_true.1 hord i (List.mem_range.2 h1)
          rw [ho] at h4
          simp only [Option.map_some, Option.getD_some, Array.all_eq_true_iff_forall_mem] at h4
          have h5 := h4 e (by simpa using he)
          have h6 : e.on < i := by simpa [hb] using h5
          omega
        refine hφ e.on hes ?_
        rw [getD_tf (by omega)]
        exact hl)
      obtain ⟨hd3, hd5⟩ := hslot _ hp o ho
      have hst2 := wpOp_value (R := fun v w' => (∃ w1, φ i v w1) ∧ H w') ho hd3 (by rw [puts_size]; exact hd5) hst
      refine wpOp_mono ?_ hst2
      rintro a' w' ⟨v, rfl, hv, hh'⟩
      rw [puts_put u i d v D a hnd1 hD2 hp]
      refine ih _ w' (upd u i v) (L.erase i) (by simpa using hs) ?_ ?_ hh' ?_ ?_
      · rw [List.length_erase_of_mem (hin i h2)]
        omega
      · intro j hj
        have hji : j ≠ i := fun e => by
          subst e
          have : j < listed.size := by omega
          simp [Array.getD, this] at hj
        rw [getD_set_other (Ne.symm hji)] at hj
        exact (List.mem_erase_of_ne hji).2 (hin j hj)
      · intro j hj
        have hji : j ≠ i := fun e => by
          subst e
          have : j < listed.size := by omega
          simp [Array.getD, this] at hj
        rw [getD_set_other (Ne.symm hji)] at hj
        exact hX j hj
      · intro j hj hl
        by_cases hji : j = i
        · subst hji
          simpa [upd] using hv
        · have e1 : upd u i v j = u j := by simp [upd, hji]
          rw [e1]
          rw [getD_set_other (Ne.symm hji)] at hl
          exact hφ j hj hl
  -- ahead of the write
  have keyA : ∀ (fuel : Nat) (listed : Array Bool) (w : World) (u : Nat → Value) (L : List Nat), listed.size = ops.size → L.length ≤ fuel → (∀ i, listed.getD i true = false → i ∈ L) → listed.getD s true = false → Anc ops listed → G w →
      (∀ i, i < s → listed.getD i true = true → φ i (u i) w) → wpAny P .any ops Q fuel listed (puts D a u) w := by
    intro fuel
    induction fuel with
    | zero =>
      intro listed w u L hs hL hin hns _ hg hφ
      have := hin s hns
      rw [List.length_eq_zero_iff.1 (Nat.le_zero.1 hL)] at this
      cases this
    | succ fuel ih =>
      intro listed w u L hs hL hin hns hanc hg hφ
      refine ⟨fun hr => ?_, fun i hi => ?_⟩
      · have := all_listedX hord hs hr s
        rw [hns] at this
        cases this
      · obtain ⟨h1, h2, o, ho, h3⟩ := mem_ready.1 hi
        have hancn : Anc ops (listed.setIfInBounds i true) := by
          intro j o' ho' hl e he hb
          by_cases ej : i = j
          · subst ej
            obtain rfl := Option.some.inj (ho'.symm.trans ho)
            have := h3 e he hb
            by_cases e2 : i = e.on
            · rw [← e2, getD_set_self (by omega)]
            · rw [getD_set_other e2]; exact this
          · rw [getD_set_other ej] at hl
            have := hanc j o' ho' hl e he hb
            by_cases e2 : i = e.on
            · rw [← e2, getD_set_self (by omega)]
            · rw [getD_set_other e2]; exact this
        by_cases his : i = s
        · subst his
          have hall : ∀ j, j < i → j ∉ X → listed.getD j false = true := fun j hj hx =>
            reach_listed hanc ops.size i j (fun o' ho' e he hb => by
              obtain rfl := Option.some.inj (ho'.symm.trans ho)
              exact h3 e he hb) (hclX j hj hx)
          have hod : o.dst = none := by
            rw [ho] at hS
            simpa using hS
          refine wpOp_mono ?_ (wpOp_none ho hod (stepS u w hg fun p hp hx => hφ p.1 (hltD p hp) (by rw [getD_tf (by have := hltD p hp; omega)]; exact hall p.1 (hltD p hp) hx)))
          rintro a' w' ⟨rfl, hh⟩
          refine keyB fuel _ w' u (L.erase i) (by simpa using hs) ?_ ?_ hh ?_ ?_
          · rw [List.length_erase_of_mem (hin i h2)]
            omega
          · intro j hj
            have hji : j ≠ i := fun e => by
              subst e
              have : j < listed.size := by omega
              simp [Array.getD, this] at hj
            rw [getD_set_other (Ne.symm hji)] at hj
            exact (List.mem_erase_of_ne hji).2 (hin j hj)
          · intro j hj
            have hji : j ≠ i := fun e => by
              subst e
              have : j < listed.size := by omega
              simp [Array.getD, this] at hj
            rw [getD_set_other (Ne.symm hji)] at hj
            have hjl : j < listed.size := by
              by_cases hl : j < listed.size
              · exact hl
              · simp [Array.getD, hl] at hj
            refine ⟨by omega, Classical.byContradiction fun hx => ?_⟩
            have := hall j (by omega) hx
            rw [← getD_tf hjl, hj] at this
            cases this
          · intro j hj hl
            have hji : i ≠ j := by omega
            rw [getD_set_other hji] at hl
            exact ⟨w, hφ j hj hl⟩
        · have his2 : i < s := by omega
          obtain ⟨d, hp⟩ := hmemD i his2
          have hst := step _ hp u w hg (fun o' ho' e he hb => by
            obtain rfl := Option.some.inj (ho'.symm.trans ho)
            have hl := h3 e he hb
            have hlt : e.on < listed.size := by
              by_cases hl2 : e.on < listed.size
              · exact hl2
              · simp [Array.getD, hl2] at hl
            have hes : e.on < s := by
              unfold ordX at hord
              have h4 := List.all_eq_true.1 hord i (List.mem_range.2 h1)
              rw [ho] at h4
              simp only [Option.map_some, Option.getD_some, Array.all_eq_true_iff_forall_mem] at h4
              have h5 := h4 e (by simpa using he)
              have h6 : e.on < i := by simpa [hb] using h5
              omega
            refine hφ e.on hes ?_
            rw [getD_tf hlt]
            exact hl)
          obtain ⟨hd3, hd5⟩ := hslot _ hp o ho
          have hst2 := wpOp_value (R := fun v w' => φ i v w' ∧ G w' ∧ Below w.heap.size w w') ho hd3 (by rw [puts_size]; exact hd5) hst
          refine wpOp_mono ?_ hst2
          rintro a' w' ⟨v, rfl, hv, hg', hb'⟩
          rw [puts_put u i d v D a hnd1 hD2 hp]
          refine ih _ w' (upd u i v) (L.erase i) (by simpa using hs) ?_ ?_ (by rw [getD_set_other his]; exact hns) hancn hg' ?_
          · rw [List.length_erase_of_mem (hin i h2)]
            omega
          · intro j hj
            have hji : j ≠ i := fun e => by
              subst e
              have : j < listed.size := by omega
              simp [Array.getD, this] at hj
            rw [getD_set_other (Ne.symm hji)] at hj
            exact (List.mem_erase_of_ne hji).2 (hin j hj)
          · intro j hj hl
            by_cases hji : j = i
            · subst hji
              simpa [upd] using hv
            · have e1 : upd u i v j = u j := by simp [upd, hji]
              rw [e1]
              rw [getD_set_other (Ne.symm hji)] at hl
              exact hmono j _ w w' (hφ j hj hl) hb'
  have hu : ∃ u : Nat → Value, puts D a u = a := by
    refine ⟨fun i => ((D.find? fun p => p.1 == i).map fun p => a.tmps.getD p.2 undef).getD undef, puts_self _ _ _ fun p hp => ?_⟩
    have : D.find? (fun q => q.1 == p.1) = some p := by
      clear fin step stepX stepS hD2 hD1 hD3 hD4 keyA keyB hmemD hltD hslot
      induction D with
      | nil => cases hp
      | cons q D ih =>
        rw [List.map_cons, List.nodup_cons] at hnd1
        rcases List.mem_cons.1 hp with rfl | hp
        · simp
        · have hne : (q.1 == p.1) = false := by
            rw [beq_eq_false_iff_ne]
            intro e
            exact hnd1.1 (List.mem_map.2 ⟨p, hp, e.symm⟩)
          rw [List.find?_cons, hne]
          exact ih hnd1.2 hp
    simp only [this, Option.map_some, Option.getD_some]
  obtain ⟨u, hu⟩ := hu
  have hfF : ∀ i, (Array.replicate ops.size false).getD i false = false := fun i => by
    by_cases h : i < ops.size <;> simp [Array.getD, h]
  have := keyA ops.size (Array.replicate ops.size false) w.drew u (List.range ops.size) (by simp) (by simp) (fun i hi => by
    rw [List.mem_range]
    by_cases hl : i < ops.size
    · exact hl
    · simp [Array.getD, hl] at hi) (by simp [Array.getD, hsz]) (fun i o _ hl => by rw [hfF] at hl; cases hl) hG (fun i hi hl => by
    have : i < ops.size := by omega
    simp [Array.getD, this] at hl)
  rw [hu] at this
  exact this
end

end Go.Proofs.Ytcehdgdgjjecmaa

/- A region that draws its order and writes again a slot that it reads. -/
namespace Go.Proofs.Ytcehdgdgjjecmaa
open Go.RowKit

section
variable {P : Program} {ops : Array Oper} {Q : Exit → Act → World → Prop}

theorem getD_tf' {l : Array Bool} {i : Nat} (h : i < l.size) : l.getD i true = l.getD i false := by simp [Array.getD, h]
/-- As region_invX; what an operation that waits for this one is to write still holds what it held. -/
theorem region_invY {id : Nat} {a : Act} {w : World} (D : List (Nat × Nat)) (φ : Nat → Value → World → Prop) (G : World → Prop) (hm : P.follows .mixedOrders = true)
    (hord : ordX ops = true) (hD1 : D.map (·.1) = List.range ops.size) (hD2 : (D.map (·.2)).Nodup) (hD3 : (D.all fun p => (ops[p.1]?.bind (·.dst)) == some p.2) = true) (hD4 : (D.all fun p => Nat.blt p.2 a.tmps.size) = true)
    (hmono : ∀ i v w w', φ i v w → Below w.heap.size w w' → φ i v w') (hG : G w.drew)
    (step : ∀ p ∈ D, ∀ u w, G w → Came ops φ u w p.1 → (∀ p' ∈ D, reachB ops ops.size p'.1 p.1 = true → u p'.1 = a.tmps.getD p'.2 undef) →
      wpOp P ops Q p.1 (fun a' w' => a'.defers = (puts D a u).defers ∧ φ p.1 (a'.tmps.getD p.2 undef) w' ∧ G w' ∧ Below w.heap.size w w') (puts D a u) w)
    (fin : ∀ u w, G w → (∀ p ∈ D, φ p.1 (u p.1) w) → Q .normal (puts D a u) w) : (Code.region id ops true).wp P Q a w := by
  refine wp_region_any hm ?_
  have hnd1 : (D.map (·.1)).Nodup := by rw [hD1]; exact List.nodup_range
  have key : ∀ (fuel : Nat) (listed : Array Bool) (w : World) (u : Nat → Value) (L : List Nat), listed.size = ops.size → L.length ≤ fuel → (∀ i, listed.getD i true = false → i ∈ L) → Anc ops listed → (∀ p ∈ D, listed.getD p.1 false = false → u p.1 = a.tmps.getD p.2 undef) → G w →
      (∀ i, i < ops.size → listed.getD i true = true → φ i (u i) w) → wpAny P .any ops Q fuel listed (puts D a u) w := by
    intro fuel
    induction fuel with
    | zero =>
      intro listed w u L hs hL hin hanc hold hg hφ
      have hall : ∀ i, listed.getD i true = true := fun i => by
        cases hi : listed.getD i true with
        | true => rfl
        | false => have := hin i hi; rw [List.length_eq_zero_iff.1 (Nat.le_zero.1 hL)] at this; cases this
      refine ⟨?_, fin u w hg fun p hp => hφ p.1 ?_ (hall _)⟩
      · rw [List.eq_nil_iff_forall_not_mem]
        intro i hi
        have := (mem_ready.1 hi).2.1
        rw [hall i] at this
        cases this
      · have : p.1 ∈ D.map (·.1) := List.mem_map.2 ⟨p, hp, rfl⟩
        rw [hD1] at this
        exact List.mem_range.1 this
    | succ fuel ih =>
      intro listed w u L hs hL hin hanc hold hg hφ
      refine ⟨fun hr => fin u w hg fun p hp => hφ p.1 ?_ (all_listedX hord hs hr _), fun i hi => ?_⟩
      · have : p.1 ∈ D.map (·.1) := List.mem_map.2 ⟨p, hp, rfl⟩
        rw [hD1] at this
        exact List.mem_range.1 this
      · obtain ⟨h1, h2, o, ho, h3⟩ := mem_ready.1 hi
        have hiD : i ∈ D.map (·.1) := by rw [hD1]; exact List.mem_range.2 h1
        obtain ⟨⟨i', d⟩, hp, rfl⟩ := List.mem_map.1 hiD
        have hst := step _ hp u w hg (fun o' ho' e he hb => by
          have heq : o' = o := Option.some.inj (ho'.symm.trans ho)
          subst heq
          have hl := h3 e he hb
          have hlt : e.on < ops.size := by
            rw [← hs]
            by_cases hl2 : e.on < listed.size
            · exact hl2
            · simp [Array.getD, hl2] at hl
          refine hφ e.on hlt ?_
          have hl2 : e.on < listed.size := by omega
          simpa [Array.getD, hl2] using hl) (fun p' hp' hr => by
            refine hold p' hp' ?_
            cases hl : listed.getD p'.1 false with
            | false => rfl
            | true =>
              have := reach_listed hanc ops.size p'.1 i' (fun o' ho' e he hb => hanc p'.1 o' ho' hl e he hb) hr
              have hii : i' < listed.size := by omega
              rw [← getD_tf' hii, h2] at this
              cases this)
        have hd3 := List.all_eq_true.1 hD3 _ hp
        have hd4 := List.all_eq_true.1 hD4 _ hp
        simp only [ho, Option.bind_some, beq_iff_eq] at hd3
        have hd5 : d < a.tmps.size := by simp [Nat.blt] at hd4; omega
        have hst2 := wpOp_value (R := fun v w' => φ i' v w' ∧ G w' ∧ Below w.heap.size w w') ho hd3 (by rw [puts_size]; exact hd5) hst
        clear hst
        refine wpOp_mono ?_ hst2
        rintro a' w' ⟨v, rfl, hv, hg', hb'⟩
        rw [puts_put u i' d v D a hnd1 hD2 hp]
        refine ih _ w' (upd u i' v) (L.erase i') (by simpa using hs) ?_ ?_ ?_ ?_ hg' ?_
        · rw [List.length_erase_of_mem (hin i' h2)]
          omega
        · intro j hj
          have hji : j ≠ i' := fun e => by
            subst e
            have : j < listed.size := by omega
            simp [Array.getD, this] at hj
          refine (List.mem_erase_of_ne hji).2 (hin j ?_)
          simp only [Array.getD] at hj ⊢
          split at hj
          · rename_i hl
            rw [Array.size_setIfInBounds] at hl
            rw [dif_pos hl]
            rwa [Array.getInternal_eq_getElem, Array.getElem_setIfInBounds_ne (h := Ne.symm hji)] at hj
          · cases hj
        · intro j o' ho' hl e he hb
          by_cases ej : i' = j
          · subst ej
            obtain rfl := Option.some.inj (ho'.symm.trans ho)
            have := h3 e he hb
            by_cases e2 : i' = e.on
            · rw [← e2, getD_set_self (by omega)]
            · rw [getD_set_other e2]; exact this
          · rw [getD_set_other ej] at hl
            have := hanc j o' ho' hl e he hb
            by_cases e2 : i' = e.on
            · rw [← e2, getD_set_self (by omega)]
            · rw [getD_set_other e2]; exact this
        · intro p' hp' hl
          have hne : i' ≠ p'.1 := fun e => by
            rw [← e, getD_set_self (by omega)] at hl
            cases hl
          rw [getD_set_other hne] at hl
          have e1 : upd u i' v p'.1 = u p'.1 := by simp [upd, Ne.symm hne]
          rw [e1]
          exact hold p' hp' hl
        · intro j hj hl
          by_cases hji : j = i'
          · subst hji
            simpa [upd] using hv
          · have e1 : upd u i' v j = u j := by simp [upd, hji]
            rw [e1]
            refine hmono j _ w w' (hφ j hj ?_) hb'
            have hl2 : j < listed.size := by omega
            simp only [Array.getD, Array.size_setIfInBounds, hl2, dif_pos, Array.getInternal_eq_getElem] at hl ⊢
            rwa [Array.getElem_setIfInBounds_ne (h := Ne.symm hji)] at hl
  have hu : ∃ u : Nat → Value, (∀ p ∈ D, u p.1 = a.tmps.getD p.2 undef) ∧ puts D a u = a := by
    suffices hsf : ∃ u : Nat → Value, ∀ p ∈ D, u p.1 = a.tmps.getD p.2 undef by
      obtain ⟨u, hu⟩ := hsf
      exact ⟨u, hu, puts_self u a D hu⟩
    refine ⟨fun i => ((D.find? fun p => p.1 == i).map fun p => a.tmps.getD p.2 undef).getD undef, fun p hp => ?_⟩
    have : D.find? (fun q => q.1 == p.1) = some p := by
      clear fin step hD2 hD1 hD3 hD4 key
      induction D with
      | nil => cases hp
      | cons q D ih =>
        rw [List.map_cons, List.nodup_cons] at hnd1
        rcases List.mem_cons.1 hp with rfl | hp
        · simp
        · have hne : (q.1 == p.1) = false := by
            rw [beq_eq_false_iff_ne]
            intro e
            exact hnd1.1 (List.mem_map.2 ⟨p, hp, e.symm⟩)
          rw [List.find?_cons, hne]
          exact ih hnd1.2 hp
    simp only [this, Option.map_some, Option.getD_some]
  obtain ⟨u, hu0, hu⟩ := hu
  have := key ops.size (Array.replicate ops.size false) w.drew u (List.range ops.size) (by simp) (by simp) (fun i hi => by
    rw [List.mem_range]
    by_cases hl : i < ops.size
    · exact hl
    · simp [Array.getD, hl] at hi) (fun i o _ hl => by
    have hfF : ∀ i, (Array.replicate ops.size false).getD i false = false := fun i => by
      by_cases h : i < ops.size <;> simp [Array.getD, h]
    rw [hfF] at hl; cases hl) (fun p hp _ => hu0 p hp) hG (fun i hi hl => by simp [Array.getD, hi] at hl)
  rw [hu] at this
  exact this

end

end Go.Proofs.Ytcehdgdgjjecmaa

/- As region_invY, with another relation of worlds. -/
namespace Go.Proofs.Ytcehdgdgjjecmaa
open Go.RowKit
section
variable {P : Program} {ops : Array Oper} {Q : Exit → Act → World → Prop}
theorem region_invR (R : World → World → Prop) {id : Nat} {a : Act} {w : World} (D : List (Nat × Nat)) (φ : Nat → Value → World → Prop) (G : World → Prop) (hm : P.follows .mixedOrders = true)
    (hord : ordX ops = true) (hD1 : D.map (·.1) = List.range ops.size) (hD2 : (D.map (·.2)).Nodup) (hD3 : (D.all fun p => (ops[p.1]?.bind (·.dst)) == some p.2) = true) (hD4 : (D.all fun p => Nat.blt p.2 a.tmps.size) = true)
    (hmono : ∀ i v w w', φ i v w → R w w' → φ i v w') (hG : G w.drew)
    (step : ∀ p ∈ D, ∀ u w, G w → Came ops φ u w p.1 → (∀ p' ∈ D, reachB ops ops.size p'.1 p.1 = true → u p'.1 = a.tmps.getD p'.2 undef) →
      wpOp P ops Q p.1 (fun a' w' => a'.defers = (puts D a u).defers ∧ φ p.1 (a'.tmps.getD p.2 undef) w' ∧ G w' ∧ R w w') (puts D a u) w)
    (fin : ∀ u w, G w → (∀ p ∈ D, φ p.1 (u p.1) w) → Q .normal (puts D a u) w) : (Code.region id ops true).wp P Q a w := by
  refine wp_region_any hm ?_
  have hnd1 : (D.map (·.1)).Nodup := by rw [hD1]; exact List.nodup_range
  have key : ∀ (fuel : Nat) (listed : Array Bool) (w : World) (u : Nat → Value) (L : List Nat), listed.size = ops.size → L.length ≤ fuel → (∀ i, listed.getD i true = false → i ∈ L) → Anc ops listed → (∀ p ∈ D, listed.getD p.1 false = false → u p.1 = a.tmps.getD p.2 undef) → G w →
      (∀ i, i < ops.size → listed.getD i true = true → φ i (u i) w) → wpAny P .any ops Q fuel listed (puts D a u) w := by
    intro fuel
    induction fuel with
    | zero =>
      intro listed w u L hs hL hin hanc hold hg hφ
      have hall : ∀ i, listed.getD i true = true := fun i => by
        cases hi : listed.getD i true with
        | true => rfl
        | false => have := hin i hi; rw [List.length_eq_zero_iff.1 (Nat.le_zero.1 hL)] at this; cases this
      refine ⟨?_, fin u w hg fun p hp => hφ p.1 ?_ (hall _)⟩
      · rw [List.eq_nil_iff_forall_not_mem]
        intro i hi
        have := (mem_ready.1 hi).2.1
        rw [hall i] at this
        cases this
      · have : p.1 ∈ D.map (·.1) := List.mem_map.2 ⟨p, hp, rfl⟩
        rw [hD1] at this
        exact List.mem_range.1 this
    | succ fuel ih =>
      intro listed w u L hs hL hin hanc hold hg hφ
      refine ⟨fun hr => fin u w hg fun p hp => hφ p.1 ?_ (all_listedX hord hs hr _), fun i hi => ?_⟩
      · have : p.1 ∈ D.map (·.1) := List.mem_map.2 ⟨p, hp, rfl⟩
        rw [hD1] at this
        exact List.mem_range.1 this
      · obtain ⟨h1, h2, o, ho, h3⟩ := mem_ready.1 hi
        have hiD : i ∈ D.map (·.1) := by rw [hD1]; exact List.mem_range.2 h1
        obtain ⟨⟨i', d⟩, hp, rfl⟩ := List.mem_map.1 hiD
        have hst := step _ hp u w hg (fun o' ho' e he hb => by
          have heq : o' = o := Option.some.inj (ho'.symm.trans ho)
          subst heq
          have hl := h3 e he hb
          have hlt : e.on < ops.size := by
            rw [← hs]
            by_cases hl2 : e.on < listed.size
            · exact hl2
            · simp [Array.getD, hl2] at hl
          refine hφ e.on hlt ?_
          have hl2 : e.on < listed.size := by omega
          simpa [Array.getD, hl2] using hl) (fun p' hp' hr => by
            refine hold p' hp' ?_
            cases hl : listed.getD p'.1 false with
            | false => rfl
            | true =>
              have := reach_listed hanc ops.size p'.1 i' (fun o' ho' e he hb => hanc p'.1 o' ho' hl e he hb) hr
              have hii : i' < listed.size := by omega
              rw [← getD_tf' hii, h2] at this
              cases this)
        have hd3 := List.all_eq_true.1 hD3 _ hp
        have hd4 := List.all_eq_true.1 hD4 _ hp
        simp only [ho, Option.bind_some, beq_iff_eq] at hd3
        have hd5 : d < a.tmps.size := by simp [Nat.blt] at hd4; omega
        have hst2 := wpOp_value (R := fun v w' => φ i' v w' ∧ G w' ∧ R w w') ho hd3 (by rw [puts_size]; exact hd5) hst
        clear hst
        refine wpOp_mono ?_ hst2
        rintro a' w' ⟨v, rfl, hv, hg', hb'⟩
        rw [puts_put u i' d v D a hnd1 hD2 hp]
        refine ih _ w' (upd u i' v) (L.erase i') (by simpa using hs) ?_ ?_ ?_ ?_ hg' ?_
        · rw [List.length_erase_of_mem (hin i' h2)]
          omega
        · intro j hj
          have hji : j ≠ i' := fun e => by
            subst e
            have : j < listed.size := by omega
            simp [Array.getD, this] at hj
          refine (List.mem_erase_of_ne hji).2 (hin j ?_)
          simp only [Array.getD] at hj ⊢
          split at hj
          · rename_i hl
            rw [Array.size_setIfInBounds] at hl
            rw [dif_pos hl]
            rwa [Array.getInternal_eq_getElem, Array.getElem_setIfInBounds_ne (h := Ne.symm hji)] at hj
          · cases hj
        · intro j o' ho' hl e he hb
          by_cases ej : i' = j
          · subst ej
            obtain rfl := Option.some.inj (ho'.symm.trans ho)
            have := h3 e he hb
            by_cases e2 : i' = e.on
            · rw [← e2, getD_set_self (by omega)]
            · rw [getD_set_other e2]; exact this
          · rw [getD_set_other ej] at hl
            have := hanc j o' ho' hl e he hb
            by_cases e2 : i' = e.on
            · rw [← e2, getD_set_self (by omega)]
            · rw [getD_set_other e2]; exact this
        · intro p' hp' hl
          have hne : i' ≠ p'.1 := fun e => by
            rw [← e, getD_set_self (by omega)] at hl
            cases hl
          rw [getD_set_other hne] at hl
          have e1 : upd u i' v p'.1 = u p'.1 := by simp [upd, Ne.symm hne]
          rw [e1]
          exact hold p' hp' hl
        · intro j hj hl
          by_cases hji : j = i'
          · subst hji
            simpa [upd] using hv
          · have e1 : upd u i' v j = u j := by simp [upd, hji]
            rw [e1]
            refine hmono j _ w w' (hφ j hj ?_) hb'
            have hl2 : j < listed.size := by omega
            simp only [Array.getD, Array.size_setIfInBounds, hl2, dif_pos, Array.getInternal_eq_getElem] at hl ⊢
            rwa [Array.getElem_setIfInBounds_ne (h := Ne.symm hji)] at hl
  have hu : ∃ u : Nat → Value, (∀ p ∈ D, u p.1 = a.tmps.getD p.2 undef) ∧ puts D a u = a := by
    suffices hsf : ∃ u : Nat → Value, ∀ p ∈ D, u p.1 = a.tmps.getD p.2 undef by
      obtain ⟨u, hu⟩ := hsf
      exact ⟨u, hu, puts_self u a D hu⟩
    refine ⟨fun i => ((D.find? fun p => p.1 == i).map fun p => a.tmps.getD p.2 undef).getD undef, fun p hp => ?_⟩
    have : D.find? (fun q => q.1 == p.1) = some p := by
      clear fin step hD2 hD1 hD3 hD4 key
      induction D with
      | nil => cases hp
      | cons q D ih =>
        rw [List.map_cons, List.nodup_cons] at hnd1
        rcases List.mem_cons.1 hp with rfl | hp
        · simp
        · have hne : (q.1 == p.1) = false := by
            rw [beq_eq_false_iff_ne]
            intro e
            exact hnd1.1 (List.mem_map.2 ⟨p, hp, e.symm⟩)
          rw [List.find?_cons, hne]
          exact ih hnd1.2 hp
    simp only [this, Option.map_some, Option.getD_some]
  obtain ⟨u, hu0, hu⟩ := hu
  have := key ops.size (Array.replicate ops.size false) w.drew u (List.range ops.size) (by simp) (by simp) (fun i hi => by
    rw [List.mem_range]
    by_cases hl : i < ops.size
    · exact hl
    · simp [Array.getD, hl] at hi) (fun i o _ hl => by
    have hfF : ∀ i, (Array.replicate ops.size false).getD i false = false := fun i => by
      by_cases h : i < ops.size <;> simp [Array.getD, h]
    rw [hfF] at hl; cases hl) (fun p hp _ => hu0 p hp) hG (fun i hi hl => by simp [Array.getD, hi] at hl)
  rw [hu] at this
  exact this

end

end Go.Proofs.Ytcehdgdgjjecmaa

/- Contract of bytes.Repeat, of one byte. (gen_fla_rep.py) -/
namespace Go.Proofs.Ytcehdgdgjjecmaa
open Go.RowKit FlaMath
set_option linter.unusedVariables false
set_option maxRecDepth 100000

def rep (n : Nat) (x : Nat) : List Value := List.replicate n (.int .u8 (x : Int))
theorem rep_length (n x : Nat) : (rep n x).length = n := by simp [rep]
theorem rep_add (n m x : Nat) : rep (n + m) x = rep n x ++ rep m x := by simp [rep, List.replicate_append_replicate]
theorem rep_get (n x j : Nat) (h : j < n) : (rep n x)[j]? = some (.int .u8 (x : Int)) := by simp [rep, h]
theorem fone_byte : One Try.prog 5 := One.of (by kernel_rfl)
/-- A block of tot cells whose first k are x. -/
def St (g x tot k : Nat) (w : World) : Prop := ∃ z, Row w g 5 (rep k x ++ z) ∧ k + z.length = tot
theorem St.less {g x tot k m : Nat} {w : World} (h : St g x tot (k + m) w) : St g x tot k w := by
  obtain ⟨z, h1, h2⟩ := h
  exact ⟨rep m x ++ z, by rw [← List.append_assoc, ← rep_add]; exact h1, by rw [List.length_append, rep_length]; omega⟩
theorem St.step {g x tot k : Nat} {w w' : World} (h : St g x tot k w) (hb : Below w.heap.size w w') : St g x tot k w' := by
  obtain ⟨z, h1, h2⟩ := h
  exact ⟨z, h1.step hb, h2⟩
theorem copy_run (g x tot b c d m cap1 cap2 : Nat) (w : World) (h : St g x tot b w) (hm : m = Nat.min c d) (hcb : m ≤ b) (hbt : b + m ≤ tot) (ty : TypeId) :
    ∃ w', (Builtin.copy_ #[57, 57] ty #[.slice (some ⟨g, b, none⟩) d cap1, .slice (some ⟨g, 0, none⟩) c cap2]).run Try.prog w = .ok (.int .i64 (m : Int)) w' ∧ St g x tot (b + m) w' ∧ Only g w w' := by
  obtain ⟨z, h1, h2⟩ := h
  have hr := run_copy_row (P := Try.prog) w 57 57 ty 5 g b d cap1 ⟨g, 0, none⟩ c cap2 (rep b x ++ z).toArray 5 (rep m x) Try.underlying57 finfo_byte h1 (by rw [rep_length]; exact hm)
    (fun j v hj => by
      have hj2 : j < m := by
        rcases Nat.lt_or_ge j m with h | h
        · exact h
        · rw [List.getElem?_eq_none (by rw [rep_length]; exact h)] at hj; cases hj
      rw [rep_get m x j hj2] at hj
      rw [Addr.add_lit, Nat.zero_add, h1.cell, List.getElem?_append_left (by rw [rep_length]; omega), rep_get b x j (by omega)]
      exact hj) (by simp only [List.size_toArray, List.length_append, rep_length]; omega) (fun v hv => by simp [rep] at hv; rw [hv.2]; rfl)
  refine ⟨_, by rw [hr, rep_length]; rfl, ⟨z.drop m, ?_, by rw [List.length_drop]; omega⟩, (Only.refl g w).putRow g _ (Or.inl rfl)⟩
  have e : ((rep b x ++ z).toArray.toList.take b ++ rep m x ++ (rep b x ++ z).toArray.toList.drop (b + m)) = rep (b + m) x ++ z.drop m := by
    rw [rep_add]
    show (rep b x ++ z).take b ++ rep m x ++ (rep b x ++ z).drop (b + m) = _
    rw [List.take_left' (rep_length b x), ← List.drop_drop, List.drop_left' (rep_length b x)]
  rw [e]
  exact h1.put _
theorem made (n : Nat) (w : World) (hn : n ≤ 281474976710656) :
    ∃ cs w1, (callFunc 49 #[.int .i64 (n : Int)]).run Try.prog w = .ok (.value (.slice (some ⟨w.heap.size, 0, none⟩) n cs)) w1 ∧ (∃ l : List Value, Row w1 w.heap.size 5 l ∧ l.length = cs) ∧ Below w.heap.size w w1 ∧ n ≤ cs := by
  obtain ⟨cs, hrun, hle, _⟩ := Lib.run_makeNoZero (P := Try.prog) w #[3] 57 5 Try.underlying57 n hn
  have hb0 : Below w.heap.size w w.drew.drew := ((Below.refl w.heap.size w).drew).drew
  refine ⟨cs.size, w.drew.drew.alloc (.cells cs 5), ?_, ⟨cs.toList, ?_, by simp⟩, hb0.alloc (Nat.le_refl _) _, hle⟩
  · rw [run_callFunc_extern Try.func49 (by kernel_rfl) (by kernel_rfl) (by kernel_rfl) (e := Extern.BytealgMakeNoZero.makeNoZero #[3] #[57]) (by kernel_rfl), hrun]
    rfl
  · have := Row.new w.drew.drew 5 cs.toList
    simpa using this

set_option maxHeartbeats 1000000 in
theorem brepeat_small (q x n : Nat) (w : World) (h1 : 1 ≤ n) (hn : n ≤ 32768) (hcc : n ≤ 8192) (hs : Lies w w.heap.size (some ⟨q, 0, none⟩) [.int .u8 (x : Int)]) :
    Calls Try.prog 40 #[.slice (some ⟨q, 0, none⟩) 1 1, .int .i64 (n : Int)] w fun e w' => ∃ g tot, e = .returned (.slice (some ⟨g, 0, none⟩) n n) ∧ w.heap.size ≤ g ∧ St g x tot n w' ∧ Below w.heap.size w w' := by
  have hMul := Try.bits_Mul 1 n (by omega) (by omega) w
  rw [show 1 * n / 18446744073709551616 = 0 by omega, show 1 * n % 18446744073709551616 = n by omega] at hMul
  have HMU : Hid (Calls Try.prog 48 #[.int .u64 1, .int .u64 (n : Int)] w fun e w' => e = .returned (.tuple #[.int .u64 0, .int .u64 (n : Int)]) ∧ w = w') := Lib.hid (Calls.mono hMul fun e w' h => ⟨h.1, h.2.symm⟩)
  obtain ⟨cs, w1, hcall, ⟨l, hl1, hl2⟩, hb1, hle⟩ := made n w (by omega)
  obtain ⟨B, hB⟩ : ∃ B, w.heap.size = B := ⟨_, rfl⟩
  rw [hB] at hcall hl1
  have HB := Lib.hid hB
  clear hB
  obtain ⟨y, zl, rfl⟩ : ∃ y zl, l = y :: zl := by
    cases l with
    | nil => simp at hl2; omega
    | cons y zl => exact ⟨y, zl, rfl⟩
  have R1 : Hid (Row w1 B 5 ([] ++ [y] ++ zl)) := Lib.hid hl1
  have HS1 : Hid (Lies w1 w1.heap.size (some ⟨q, 0, none⟩) [.int .u8 (x : Int)]) := Lib.hid (hs.step hb1)
  have B1 := Lib.hid hb1
  have HL2 : Hid (1 + zl.length = cs) := Lib.hid (by rw [← hl2, List.length_cons]; omega)
  have k1 : (1 : Int) ≤ n := by omega
  have k2 : (n : Int) ≤ 32768 := by omega
  have k3 : (n : Int) ≤ cs := by omega
  have k4 : ((n : Int) == 0) = false := beq_eq_false_iff_ne.2 (by omega)
  have k5 : IntKind.u64.wrap (n : Int) = n := by rw [IntKind.wrap_u64]; omega
  have k6 : IntKind.u64.wrap 1 = 1 := by decide
  have k7 : wrap64 (n : Int) = n := by unfold wrap64; omega
  have k8 : ¬ (9223372036854775807 : Int) < n := by omega
  have k9 : ¬ (8192 : Int) < n := by omega
  have HA1 : Hid (([] : List Value).length = 0) := Lib.hid rfl
  have HA2 : Hid (([.int .u8 (x : Int)] : List Value).length = 1) := Lib.hid rfl
  have HA3 : Hid (0 < 1) := Lib.hid (by decide)
  have HA4 : Hid ([y].length = 1) := Lib.hid rfl
  have HA5 : Hid ([Value.int .u8 (x : Int)].all (·.oneCell') = true) := Lib.hid rfl
  have HN := Lib.hid hn
  have HH1 := Lib.hid h1
  have HCC := Lib.hid hcc
  clear hMul hs hl1 hl2 hb1 hn h1 hcc
  go_enter Try.func40, Try.ntmps40
  go_wp2_with (first
    | (go_at_call 48; (with_reducible refine HMU.out.mono ?_); rintro e u1 ⟨rfl, rfl⟩)
    | ((with_reducible refine R1.out.wpCopyLK HA1.out 57 n 1 Try.underlying57 fone_byte HS1.out HA2.out HA3.out HH1.out HA4.out HA5.out ?_ ?_); rfl; intro w2 r2 o2 s2; have R2 := Lib.hid r2; have O2 := Lib.hid o2; have S2 := Lib.hid s2; clear r2 o2 s2))
  have HST0 : Hid (St B x cs 1 w2) := Lib.hid ⟨zl, R2.out, HL2.out⟩
  have HO0 : Hid (Onl [] w w2) := Lib.hid ((Onl.of_below B1.out).only O2.out (Or.inr (Nat.le_of_eq HB.out)))
  clear R1 hcall
  go_loopw [10] (fun v wr => ∃ b : Nat, 1 ≤ b ∧ b ≤ n ∧ v = .int .i64 b ∧ St B x cs b wr ∧ Onl [] w wr) (fun v _ => n - (intOf v).toNat)
  case atStart => exact ⟨1, Nat.le_refl _, HH1.out, rfl, HST0.out, HO0.out⟩
  case round =>
    obtain ⟨b, hb1, hb2, rfl, hst, ho⟩ := hrel
    by_cases hlt : b < n
    · obtain ⟨c, hc⟩ : ∃ c, (if n < b then n else b) = c := ⟨_, rfl⟩
      have hc1 : 1 ≤ c ∧ c ≤ b := by
        have := HH1.out
        split at hc <;> omega
      have hmin : ∀ (ts : Array TypeId) (t : TypeId) (W : World), (Builtin.min_ ts t #[.int .i64 (b : Int), .int .i64 ((n : Int))]).run Try.prog W = .ok (.int .i64 (c : Int)) W := fun ts t W => by
        by_cases hq : n < b
        · have hcq : c = n := by rw [if_pos hq] at hc; exact hc.symm
          simp [Builtin.min_, Builtin.min2, hq, hcq]
        · have hcq : c = b := by rw [if_neg hq] at hc; exact hc.symm
          simp [Builtin.min_, Builtin.min2, hq, hcq]
      obtain ⟨m, hm⟩ : ∃ m, m = Nat.min c (n - b) := ⟨_, rfl⟩
      have hm1 : 1 ≤ m ∧ m ≤ c ∧ m ≤ n - b := by
        refine ⟨?_, by rw [hm]; exact Nat.min_le_left _ _, by rw [hm]; exact Nat.min_le_right _ _⟩
        rw [hm]
        exact Nat.le_min.2 ⟨hc1.1, by omega⟩
      have HMM := Lib.hid hm
      have HMB : Hid (m ≤ b) := Lib.hid (by omega)
      have HMB1 : Hid (1 ≤ m) := Lib.hid hm1.1
      have HMN : Hid (b + m ≤ n) := Lib.hid (by omega)
      have HMT : Hid (b + m ≤ cs) := Lib.hid (by omega)
      have HG : Hid (w.heap.size ≤ B) := Lib.hid (Nat.le_of_eq HB.out)
      have HST := Lib.hid hst
      have HO := Lib.hid ho
      have e1 : (b : Int) < n := by omega
      have e2 : (b : Int) ≤ n := by omega
      have e3 : ¬ n - b = 0 := by omega
      have e4 : ¬ (n : Int) - b = 0 := by omega
      have e5 : ¬ n = b := by omega
      have e6 : ¬ n ≤ b := by omega
      have e7 : (c : Int) ≤ n := by omega
      have e8 : 0 ≤ (c : Int) := by omega
      have e9 : b ≤ n := by omega
      have e10 : c ≤ n := by omega
      have ew : wrap64 ((b : Int) + m) = (b : Int) + m := by have := HN.out; unfold wrap64; omega
      have ew2 : IntKind.i64.wrap ((b : Int) + m) = (b : Int) + m := by rw [IntKind.wrap_i64]; unfold wrap64 at ew; exact ew
      clear hst ho hm hm1 hc hc1 hb1 hb2 k5 k6 k7 k8
      go_wp2
      refine region_invR (fun w1 w2 => St B x cs (b + m) w1 → St B x cs (b + m) w2) [(0, 67), (1, 68), (2, 69), (3, 70), (4, 71), (5, 72), (6, 73), (7, 74), (8, 75), (9, 10)]
        (fun i => [Is (.int .i64 (b : Int)), Is (.slice (some ⟨B, 0, none⟩) n n), Is (.int .i64 (b : Int)), Is (.slice (some ⟨B, b, none⟩) (n - b) (n - b)), Is (.slice (some ⟨B, 0, none⟩) n n), Is (.int .i64 (c : Int)), Is (.slice (some ⟨B, 0, none⟩) c n),
          (fun v wx => v = .int .i64 (m : Int) ∧ St B x cs (b + m) wx), Is (.int .i64 ((b : Int) + m)), Is (.int .i64 ((b : Int) + m))].getD i (Is undef))
        (fun wx => St B x cs b wx ∧ Onl [] w wx) (by kernel_rfl) (by kernel_rfl) (by decide) (by decide) (by kernel_rfl) rfl ?mono ⟨HST.out.step ((Below.refl _ _).drew), HO.out.step ((Below.refl _ _).drew)⟩ ?step ?fin
      case mono =>
        intro i
        match i with
        | 7 => exact fun v w1 w2 ⟨h1, h2⟩ hr => ⟨h1, hr h2⟩
        | 0 | 1 | 2 | 3 | 4 | 5 | 6 | 8 | 9 => exact fun v w1 w2 h _ => h
        | _ + 10 => exact fun v w1 w2 h _ => h
      case step =>
        refine List.forall_mem_cons.2 ⟨?s0, List.forall_mem_cons.2 ⟨?s1, List.forall_mem_cons.2 ⟨?s2, List.forall_mem_cons.2 ⟨?s3, List.forall_mem_cons.2 ⟨?s4, List.forall_mem_cons.2 ⟨?s5, List.forall_mem_cons.2 ⟨?s6, List.forall_mem_cons.2 ⟨?s7, List.forall_mem_cons.2 ⟨?s8, List.forall_mem_cons.2 ⟨?s9, (fun p hp => absurd hp (by simp))⟩⟩⟩⟩⟩⟩⟩⟩⟩⟩
        case s0 =>
          intro u wx hg hC hOld
          have hO9 : u 9 = .int .i64 (b : Int) := hOld (9, 10) (by decide) (by kernel_rfl)
          clear hC hOld
          refine wpOp_step rfl (fun K hK => ?_)
          simp only [puts, List.foldl]
          go_simp
          exact hK _ _ ⟨rfl, rfl, hg, id⟩
        case s1 =>
          intro u wx hg hC hOld
          clear hC hOld
          refine wpOp_step rfl (fun K hK => ?_)
          simp only [puts, List.foldl]
          go_simp
          exact hK _ _ ⟨rfl, rfl, hg, id⟩
        case s2 =>
          intro u wx hg hC hOld
          have hO9 : u 9 = .int .i64 (b : Int) := hOld (9, 10) (by decide) (by kernel_rfl)
          clear hC hOld
          refine wpOp_step rfl (fun K hK => ?_)
          simp only [puts, List.foldl]
          go_simp
          exact hK _ _ ⟨rfl, rfl, hg, id⟩
        case s3 =>
          intro u wx hg hC hOld
          have h1 : u 1 = .slice (some ⟨B, 0, none⟩) n n := hC.at 1 (by kernel_rfl)
          have h2 : u 2 = .int .i64 (b : Int) := hC.at 2 (by kernel_rfl)
          clear hC hOld
          refine wpOp_step rfl (fun K hK => ?_)
          simp only [puts, List.foldl]
          go_simp
          exact hK _ _ ⟨rfl, rfl, hg, id⟩
        case s4 =>
          intro u wx hg hC hOld
          clear hC hOld
          refine wpOp_step rfl (fun K hK => ?_)
          simp only [puts, List.foldl]
          go_simp
          exact hK _ _ ⟨rfl, rfl, hg, id⟩
        case s5 =>
          intro u wx hg hC hOld
          clear hC hOld
          refine wpOp_step rfl (fun K hK => ?_)
          simp only [puts, List.foldl]
          go_simp
          exact hK _ _ ⟨rfl, rfl, hg, id⟩
        case s6 =>
          intro u wx hg hC hOld
          have h4 : u 4 = .slice (some ⟨B, 0, none⟩) n n := hC.at 4 (by kernel_rfl)
          have h5 : u 5 = .int .i64 (c : Int) := hC.at 5 (by kernel_rfl)
          clear hC hOld
          refine wpOp_step rfl (fun K hK => ?_)
          simp only [puts, List.foldl]
          go_simp
          exact hK _ _ ⟨rfl, rfl, hg, id⟩
        case s7 =>
          intro u wx hg hC hOld
          have h3 : u 3 = .slice (some ⟨B, b, none⟩) (n - b) (n - b) := hC.at 3 (by kernel_rfl)
          have h6 : u 6 = .slice (some ⟨B, 0, none⟩) c n := hC.at 6 (by kernel_rfl)
          obtain ⟨wy, hrun, hst, hon⟩ := copy_run B x cs b c (n - b) m (n - b) n wx hg.1 HMM.out HMB.out HMT.out 3
          clear hC hOld
          refine wpOp_step rfl (fun K hK => ?_)
          simp only [puts, List.foldl]
          go_simp
          exact hK _ _ ⟨rfl, ⟨rfl, hst⟩, ⟨hst.less, hg.2.only hon (Or.inr HG.out)⟩, fun _ => hst⟩
        case s8 =>
          intro u wx hg hC hOld
          have h0 : u 0 = .int .i64 (b : Int) := hC.at 0 (by kernel_rfl)
          obtain ⟨h7, hst⟩ : u 7 = .int .i64 (m : Int) ∧ St B x cs (b + m) wx := hC.at 7 (by kernel_rfl)
          clear hC hOld
          refine wpOp_step rfl (fun K hK => ?_)
          simp only [puts, List.foldl]
          go_simp
          exact hK _ _ ⟨rfl, rfl, hg, id⟩
        case s9 =>
          intro u wx hg hC hOld
          have h8 : u 8 = .int .i64 ((b : Int) + m) := hC.at 8 (by kernel_rfl)
          clear hC hOld
          refine wpOp_step rfl (fun K hK => ?_)
          simp only [puts, List.foldl]
          go_simp
          exact hK _ _ ⟨rfl, rfl, hg, id⟩
      case fin =>
        intro u wx hg hφ
        have h9 : u 9 = .int .i64 ((b : Int) + m) := hφ (9, 10) (by decide)
        obtain ⟨h7, hst⟩ : u 7 = .int .i64 (m : Int) ∧ St B x cs (b + m) wx := hφ (7, 74) (by decide)
        have HST2 := Lib.hid hst
        have HO2 := Lib.hid hg.2
        clear hφ hst hg
        simp only [puts, List.foldl]
        go_simp
        go_wp2
        go_roundw
        case rel => exact ⟨b + m, by have := HMB1.out; omega, by have := HMN.out; omega, by simp, HST2.out, HO2.out⟩
        case measure => have := HMN.out; have := HMB1.out; simp [intOf]; omega
    · have eb : b = n := by omega
      subst eb
      have HST := Lib.hid hst
      have HO := Lib.hid ho
      clear hst ho
      go_wp2
      go_ret
      exact ⟨B, cs, rfl, Nat.le_of_eq HB.out, HST.out, HO.out.below (by simp) (Nat.le_refl _)⟩

set_option maxHeartbeats 1000000 in
theorem brepeat_great (q x n : Nat) (w : World) (h1 : 1 ≤ n) (hn : n ≤ 32768) (hcc : 8192 < n) (hs : Lies w w.heap.size (some ⟨q, 0, none⟩) [.int .u8 (x : Int)]) :
    Calls Try.prog 40 #[.slice (some ⟨q, 0, none⟩) 1 1, .int .i64 (n : Int)] w fun e w' => ∃ g tot, e = .returned (.slice (some ⟨g, 0, none⟩) n n) ∧ w.heap.size ≤ g ∧ St g x tot n w' ∧ Below w.heap.size w w' := by
  have hMul := Try.bits_Mul 1 n (by omega) (by omega) w
  rw [show 1 * n / 18446744073709551616 = 0 by omega, show 1 * n % 18446744073709551616 = n by omega] at hMul
  have HMU : Hid (Calls Try.prog 48 #[.int .u64 1, .int .u64 (n : Int)] w fun e w' => e = .returned (.tuple #[.int .u64 0, .int .u64 (n : Int)]) ∧ w = w') := Lib.hid (Calls.mono hMul fun e w' h => ⟨h.1, h.2.symm⟩)
  obtain ⟨cs, w1, hcall, ⟨l, hl1, hl2⟩, hb1, hle⟩ := made n w (by omega)
  obtain ⟨B, hB⟩ : ∃ B, w.heap.size = B := ⟨_, rfl⟩
  rw [hB] at hcall hl1
  have HB := Lib.hid hB
  clear hB
  obtain ⟨y, zl, rfl⟩ : ∃ y zl, l = y :: zl := by
    cases l with
    | nil => simp at hl2; omega
    | cons y zl => exact ⟨y, zl, rfl⟩
  have R1 : Hid (Row w1 B 5 ([] ++ [y] ++ zl)) := Lib.hid hl1
  have HS1 : Hid (Lies w1 w1.heap.size (some ⟨q, 0, none⟩) [.int .u8 (x : Int)]) := Lib.hid (hs.step hb1)
  have B1 := Lib.hid hb1
  have HL2 : Hid (1 + zl.length = cs) := Lib.hid (by rw [← hl2, List.length_cons]; omega)
  have k1 : (1 : Int) ≤ n := by omega
  have k2 : (n : Int) ≤ 32768 := by omega
  have k3 : (n : Int) ≤ cs := by omega
  have k4 : ((n : Int) == 0) = false := beq_eq_false_iff_ne.2 (by omega)
  have k5 : IntKind.u64.wrap (n : Int) = n := by rw [IntKind.wrap_u64]; omega
  have k6 : IntKind.u64.wrap 1 = 1 := by decide
  have k7 : wrap64 (n : Int) = n := by unfold wrap64; omega
  have k8 : ¬ (9223372036854775807 : Int) < n := by omega
  have k9 : (8192 : Int) < n := by omega
  have HA1 : Hid (([] : List Value).length = 0) := Lib.hid rfl
  have HA2 : Hid (([.int .u8 (x : Int)] : List Value).length = 1) := Lib.hid rfl
  have HA3 : Hid (0 < 1) := Lib.hid (by decide)
  have HA4 : Hid ([y].length = 1) := Lib.hid rfl
  have HA5 : Hid ([Value.int .u8 (x : Int)].all (·.oneCell') = true) := Lib.hid rfl
  have HN := Lib.hid hn
  have HH1 := Lib.hid h1
  have HCC := Lib.hid hcc
  clear hMul hs hl1 hl2 hb1 hn h1 hcc
  go_enter Try.func40, Try.ntmps40
  go_wp2_with (first
    | (go_at_call 48; (with_reducible refine HMU.out.mono ?_); rintro e u1 ⟨rfl, rfl⟩)
    | ((with_reducible refine R1.out.wpCopyLK HA1.out 57 n 1 Try.underlying57 fone_byte HS1.out HA2.out HA3.out HH1.out HA4.out HA5.out ?_ ?_); rfl; intro w2 r2 o2 s2; have R2 := Lib.hid r2; have O2 := Lib.hid o2; have S2 := Lib.hid s2; clear r2 o2 s2))
  have HST0 : Hid (St B x cs 1 w2) := Lib.hid ⟨zl, R2.out, HL2.out⟩
  have HO0 : Hid (Onl [] w w2) := Lib.hid ((Onl.of_below B1.out).only O2.out (Or.inr (Nat.le_of_eq HB.out)))
  clear R1 hcall
  go_loopw [10] (fun v wr => ∃ b : Nat, 1 ≤ b ∧ b ≤ n ∧ v = .int .i64 b ∧ St B x cs b wr ∧ Onl [] w wr) (fun v _ => n - (intOf v).toNat)
  case atStart => exact ⟨1, Nat.le_refl _, HH1.out, rfl, HST0.out, HO0.out⟩
  case round =>
    obtain ⟨b, hb1, hb2, rfl, hst, ho⟩ := hrel
    by_cases hlt : b < n
    · obtain ⟨c, hc⟩ : ∃ c, (if 8192 < b then 8192 else b) = c := ⟨_, rfl⟩
      have hc1 : 1 ≤ c ∧ c ≤ b := by
        have := HH1.out
        split at hc <;> omega
      have hmin : ∀ (ts : Array TypeId) (t : TypeId) (W : World), (Builtin.min_ ts t #[.int .i64 (b : Int), .int .i64 ((8192 : Int))]).run Try.prog W = .ok (.int .i64 (c : Int)) W := fun ts t W => by
        by_cases hq : 8192 < b
        · have hcq : c = 8192 := by rw [if_pos hq] at hc; exact hc.symm
          have hq2 : (8192 : Int) < (b : Int) := by omega
          simp [Builtin.min_, Builtin.min2, hq2, hcq]
        · have hcq : c = b := by rw [if_neg hq] at hc; exact hc.symm
          have hq2 : ¬ (8192 : Int) < (b : Int) := by omega
          simp [Builtin.min_, Builtin.min2, hq2, hcq]
      obtain ⟨m, hm⟩ : ∃ m, m = Nat.min c (n - b) := ⟨_, rfl⟩
      have hm1 : 1 ≤ m ∧ m ≤ c ∧ m ≤ n - b := by
        refine ⟨?_, by rw [hm]; exact Nat.min_le_left _ _, by rw [hm]; exact Nat.min_le_right _ _⟩
        rw [hm]
        exact Nat.le_min.2 ⟨hc1.1, by omega⟩
      have HMM := Lib.hid hm
      have HMB : Hid (m ≤ b) := Lib.hid (by omega)
      have HMB1 : Hid (1 ≤ m) := Lib.hid hm1.1
      have HMN : Hid (b + m ≤ n) := Lib.hid (by omega)
      have HMT : Hid (b + m ≤ cs) := Lib.hid (by omega)
      have HG : Hid (w.heap.size ≤ B) := Lib.hid (Nat.le_of_eq HB.out)
      have HST := Lib.hid hst
      have HO := Lib.hid ho
      have e1 : (b : Int) < n := by omega
      have e2 : (b : Int) ≤ n := by omega
      have e3 : ¬ n - b = 0 := by omega
      have e4 : ¬ (n : Int) - b = 0 := by omega
      have e5 : ¬ n = b := by omega
      have e6 : ¬ n ≤ b := by omega
      have e7 : (c : Int) ≤ n := by omega
      have e8 : 0 ≤ (c : Int) := by omega
      have e9 : b ≤ n := by omega
      have e10 : c ≤ n := by omega
      have ew : wrap64 ((b : Int) + m) = (b : Int) + m := by have := HN.out; unfold wrap64; omega
      have ew2 : IntKind.i64.wrap ((b : Int) + m) = (b : Int) + m := by rw [IntKind.wrap_i64]; unfold wrap64 at ew; exact ew
      clear hst ho hm hm1 hc hc1 hb1 hb2 k5 k6 k7 k8
      go_wp2
      refine region_invR (fun w1 w2 => St B x cs (b + m) w1 → St B x cs (b + m) w2) [(0, 67), (1, 68), (2, 69), (3, 70), (4, 71), (5, 72), (6, 73), (7, 74), (8, 75), (9, 10)]
        (fun i => [Is (.int .i64 (b : Int)), Is (.slice (some ⟨B, 0, none⟩) n n), Is (.int .i64 (b : Int)), Is (.slice (some ⟨B, b, none⟩) (n - b) (n - b)), Is (.slice (some ⟨B, 0, none⟩) n n), Is (.int .i64 (c : Int)), Is (.slice (some ⟨B, 0, none⟩) c n),
          (fun v wx => v = .int .i64 (m : Int) ∧ St B x cs (b + m) wx), Is (.int .i64 ((b : Int) + m)), Is (.int .i64 ((b : Int) + m))].getD i (Is undef))
        (fun wx => St B x cs b wx ∧ Onl [] w wx) (by kernel_rfl) (by kernel_rfl) (by decide) (by decide) (by kernel_rfl) rfl ?mono ⟨HST.out.step ((Below.refl _ _).drew), HO.out.step ((Below.refl _ _).drew)⟩ ?step ?fin
      case mono =>
        intro i
        match i with
        | 7 => exact fun v w1 w2 ⟨h1, h2⟩ hr => ⟨h1, hr h2⟩
        | 0 | 1 | 2 | 3 | 4 | 5 | 6 | 8 | 9 => exact fun v w1 w2 h _ => h
        | _ + 10 => exact fun v w1 w2 h _ => h
      case step =>
        refine List.forall_mem_cons.2 ⟨?s0, List.forall_mem_cons.2 ⟨?s1, List.forall_mem_cons.2 ⟨?s2, List.forall_mem_cons.2 ⟨?s3, List.forall_mem_cons.2 ⟨?s4, List.forall_mem_cons.2 ⟨?s5, List.forall_mem_cons.2 ⟨?s6, List.forall_mem_cons.2 ⟨?s7, List.forall_mem_cons.2 ⟨?s8, List.forall_mem_cons.2 ⟨?s9, (fun p hp => absurd hp (by simp))⟩⟩⟩⟩⟩⟩⟩⟩⟩⟩
        case s0 =>
          intro u wx hg hC hOld
          have hO9 : u 9 = .int .i64 (b : Int) := hOld (9, 10) (by decide) (by kernel_rfl)
          clear hC hOld
          refine wpOp_step rfl (fun K hK => ?_)
          simp only [puts, List.foldl]
          go_simp
          exact hK _ _ ⟨rfl, rfl, hg, id⟩
        case s1 =>
          intro u wx hg hC hOld
          clear hC hOld
          refine wpOp_step rfl (fun K hK => ?_)
          simp only [puts, List.foldl]
          go_simp
          exact hK _ _ ⟨rfl, rfl, hg, id⟩
        case s2 =>
          intro u wx hg hC hOld
          have hO9 : u 9 = .int .i64 (b : Int) := hOld (9, 10) (by decide) (by kernel_rfl)
          clear hC hOld
          refine wpOp_step rfl (fun K hK => ?_)
          simp only [puts, List.foldl]
          go_simp
          exact hK _ _ ⟨rfl, rfl, hg, id⟩
        case s3 =>
          intro u wx hg hC hOld
          have h1 : u 1 = .slice (some ⟨B, 0, none⟩) n n := hC.at 1 (by kernel_rfl)
          have h2 : u 2 = .int .i64 (b : Int) := hC.at 2 (by kernel_rfl)
          clear hC hOld
          refine wpOp_step rfl (fun K hK => ?_)
          simp only [puts, List.foldl]
          go_simp
          exact hK _ _ ⟨rfl, rfl, hg, id⟩
        case s4 =>
          intro u wx hg hC hOld
          clear hC hOld
          refine wpOp_step rfl (fun K hK => ?_)
          simp only [puts, List.foldl]
          go_simp
          exact hK _ _ ⟨rfl, rfl, hg, id⟩
        case s5 =>
          intro u wx hg hC hOld
          clear hC hOld
          refine wpOp_step rfl (fun K hK => ?_)
          simp only [puts, List.foldl]
          go_simp
          exact hK _ _ ⟨rfl, rfl, hg, id⟩
        case s6 =>
          intro u wx hg hC hOld
          have h4 : u 4 = .slice (some ⟨B, 0, none⟩) n n := hC.at 4 (by kernel_rfl)
          have h5 : u 5 = .int .i64 (c : Int) := hC.at 5 (by kernel_rfl)
          clear hC hOld
          refine wpOp_step rfl (fun K hK => ?_)
          simp only [puts, List.foldl]
          go_simp
          exact hK _ _ ⟨rfl, rfl, hg, id⟩
        case s7 =>
          intro u wx hg hC hOld
          have h3 : u 3 = .slice (some ⟨B, b, none⟩) (n - b) (n - b) := hC.at 3 (by kernel_rfl)
          have h6 : u 6 = .slice (some ⟨B, 0, none⟩) c n := hC.at 6 (by kernel_rfl)
          obtain ⟨wy, hrun, hst, hon⟩ := copy_run B x cs b c (n - b) m (n - b) n wx hg.1 HMM.out HMB.out HMT.out 3
          clear hC hOld
          refine wpOp_step rfl (fun K hK => ?_)
          simp only [puts, List.foldl]
          go_simp
          exact hK _ _ ⟨rfl, ⟨rfl, hst⟩, ⟨hst.less, hg.2.only hon (Or.inr HG.out)⟩, fun _ => hst⟩
        case s8 =>
          intro u wx hg hC hOld
          have h0 : u 0 = .int .i64 (b : Int) := hC.at 0 (by kernel_rfl)
          obtain ⟨h7, hst⟩ : u 7 = .int .i64 (m : Int) ∧ St B x cs (b + m) wx := hC.at 7 (by kernel_rfl)
          clear hC hOld
          refine wpOp_step rfl (fun K hK => ?_)
          simp only [puts, List.foldl]
          go_simp
          exact hK _ _ ⟨rfl, rfl, hg, id⟩
        case s9 =>
          intro u wx hg hC hOld
          have h8 : u 8 = .int .i64 ((b : Int) + m) := hC.at 8 (by kernel_rfl)
          clear hC hOld
          refine wpOp_step rfl (fun K hK => ?_)
          simp only [puts, List.foldl]
          go_simp
          exact hK _ _ ⟨rfl, rfl, hg, id⟩
      case fin =>
        intro u wx hg hφ
        have h9 : u 9 = .int .i64 ((b : Int) + m) := hφ (9, 10) (by decide)
        obtain ⟨h7, hst⟩ : u 7 = .int .i64 (m : Int) ∧ St B x cs (b + m) wx := hφ (7, 74) (by decide)
        have HST2 := Lib.hid hst
        have HO2 := Lib.hid hg.2
        clear hφ hst hg
        simp only [puts, List.foldl]
        go_simp
        go_wp2
        go_roundw
        case rel => exact ⟨b + m, by have := HMB1.out; omega, by have := HMN.out; omega, by simp, HST2.out, HO2.out⟩
        case measure => have := HMN.out; have := HMB1.out; simp [intOf]; omega
    · have eb : b = n := by omega
      subst eb
      have HST := Lib.hid hst
      have HO := Lib.hid ho
      clear hst ho
      go_wp2
      go_ret
      exact ⟨B, cs, rfl, Nat.le_of_eq HB.out, HST.out, HO.out.below (by simp) (Nat.le_refl _)⟩

theorem brepeat_any (q x n : Nat) (w : World) (h1 : 1 ≤ n) (hn : n ≤ 32768) (hs : Lies w w.heap.size (some ⟨q, 0, none⟩) [.int .u8 (x : Int)]) :
    Calls Try.prog 40 #[.slice (some ⟨q, 0, none⟩) 1 1, .int .i64 (n : Int)] w fun e w' => ∃ g tot, e = .returned (.slice (some ⟨g, 0, none⟩) n n) ∧ w.heap.size ≤ g ∧ St g x tot n w' ∧ Below w.heap.size w w' := by
  rcases Nat.lt_or_ge 8192 n with h | h
  · exact brepeat_great q x n w h1 hn h hs
  · exact brepeat_small q x n w h1 hn h hs
end Go.Proofs.Ytcehdgdgjjecmaa

/- A guarded operation whose guard holds, in a region that draws its order (for region_inv's steps). -/
namespace Go.Proofs.Ytcehdgdgjjecmaa
open Go.RowKit
section
variable {P : Program} {ops : Array Oper} {Q : Exit → Act → World → Prop}
theorem put_get (a : Act) (d : Nat) (v : Value) (hs : d < a.tmps.size) : (a.put (some d) v).tmps.getD d undef = v := by simp [Act.put, hs]
theorem put_get_ne (a : Act) (d e : Nat) (v : Value) (h : e ≠ d) : (a.put (some d) v).tmps.getD e undef = a.tmps.getD e undef := by
  simp only [Act.put, Array.getD_eq_getD_getElem?, Array.getElem?_setIfInBounds]
  rw [if_neg (fun e' => h e'.symm)]
theorem puts_get_out (u : Nat → Value) : ∀ (D : List (Nat × Nat)) (a : Act) (d : Nat), (∀ p ∈ D, p.2 ≠ d) → (puts D a u).tmps.getD d undef = a.tmps.getD d undef
  | [], _, _, _ => rfl
  | p :: D, a, d, h => by
    show (puts D (a.put (some p.2) (u p.1)) u).tmps.getD d undef = _
    rw [puts_get_out u D _ d fun q hq => h q (List.mem_cons_of_mem _ hq), put_get_ne _ _ _ _ (fun e => h p (List.mem_cons_self ..) e.symm)]
theorem puts_get (u : Nat → Value) (i d : Nat) : ∀ (D : List (Nat × Nat)) (a : Act), (D.map (·.2)).Nodup → (i, d) ∈ D → Nat.blt d a.tmps.size = true → (puts D a u).tmps.getD d undef = u i
  | p :: D, a, hn, hm, hs0 => by
    have hs : d < a.tmps.size := Nat.blt_eq ▸ hs0
    rw [List.map_cons, List.nodup_cons] at hn
    show (puts D (a.put (some p.2) (u p.1)) u).tmps.getD d undef = _
    rcases List.mem_cons.1 hm with rfl | hm
    · rw [puts_get_out u D _ d fun q hq e => hn.1 (List.mem_map.2 ⟨q, hq, e⟩), put_get _ _ _ hs]
    · exact puts_get u i d D _ hn.2 hm (by simpa [Act.put] using hs0)
theorem puts_room (u : Nat → Value) {D : List (Nat × Nat)} {a : Act} {d : Nat} (h : Nat.blt d a.tmps.size = true) : d < (puts D a u).tmps.size := by rw [puts_size]; exact Nat.blt_eq ▸ h
theorem wpOp_guard {i : Nat} {o : Oper} {a : Act} {w : World} {K : Act → World → Prop} (ho : ops[i]? = some o) (j d : Nat) (b : Bool) (hgd : o.guard = some (j, b)) (hd : (ops[j]?).bind (·.dst) = some d) (hs : d < a.tmps.size) (hv : a.tmps.getD d undef = .bool b)
    (h : ∀ K' : Act → World → Prop, (∀ a w, K a w → K' a w) → o.wp P a w K' Q) : wpOp P ops Q i K a w := by
  have hy : yielded ops a.tmps j = some b := by
    unfold yielded
    rw [hd]
    have : a.tmps[d]? = some (.bool b) := by
      rw [Array.getD_eq_getD_getElem?] at hv
      rw [Array.getElem?_eq_getElem hs] at hv ⊢
      simpa using hv
    simp [this]
  unfold wpOp
  rw [ho]
  show if Region.wanted o (yielded ops a.tmps) = true then _ else _
  rw [if_pos (by unfold Region.wanted; rw [hgd]; simp [hy])]
  exact .inl (h K fun _ _ h => h)
theorem wpOp_skip {i : Nat} {o : Oper} {a : Act} {w : World} {K : Act → World → Prop} (ho : ops[i]? = some o) (j d : Nat) (b : Bool) (hgd : o.guard = some (j, b)) (hd : (ops[j]?).bind (·.dst) = some d) (hs : d < a.tmps.size) (hv : a.tmps.getD d undef = .bool !b)
    (h : K (a.put o.dst undef) w) : wpOp P ops Q i K a w := by
  have hy : yielded ops a.tmps j = some !b := by
    unfold yielded
    rw [hd]
    have : a.tmps[d]? = some (.bool !b) := by
      rw [Array.getD_eq_getD_getElem?] at hv
      rw [Array.getElem?_eq_getElem hs] at hv ⊢
      simpa using hv
    simp [this]
  unfold wpOp
  rw [ho]
  show if Region.wanted o (yielded ops a.tmps) = true then _ else _
  rw [if_neg (by unfold Region.wanted; rw [hgd]; cases b <;> simp [hy])]
  exact h
end
end Go.Proofs.Ytcehdgdgjjecmaa

/- make in a region that draws its order. -/
namespace Go.Proofs.Ytcehdgdgjjecmaa
open Go.RowKit
set_option linter.unusedVariables false
theorem opMake {P : Program} {o : Oper} {a : Act} {w : World} {K : Act → World → Prop} {Q : Exit → Act → World → Prop} (T e : TypeId) (zv : Value) (n c : Nat) (hT : P.underlying T = some (.slice e)) (hz : (P.info? e).map (fun i => (i.zero, i.size, i.bytes)) = some (some zv, 1, 8) ∨ (P.info? e).map (fun i => (i.zero, i.size, i.bytes)) = some (some zv, 1, 1)) (hzc : zv.cells = #[zv])
    (hn : n ≤ c) (hc : c ≤ 1099511627776) (ho : makeOf o a = some (T, .int .i64 (n : Int), .int .i64 (c : Int)))
    (k : ∀ w', Row w' w.heap.size e (List.replicate c zv) → Below w.heap.size w w' → w'.heap.size = w.heap.size + 1 → K (a.put o.dst (.slice (some ⟨w.heap.size, 0, none⟩) n c)) w') : o.wp P a w K Q := by
  obtain ⟨hg, x, y, hop, hx, hy⟩ := makeOf_spec ho
  cases hq : P.info? e with
  | none => rw [hq] at hz; rcases hz with h | h <;> cases h
  | some i =>
    rw [hq] at hz
    have hi : i.zero = some zv ∧ i.size = 1 ∧ i.bytes ≤ 8 := by
      rcases hz with h | h <;> simp only [Option.map_some, Option.some.injEq, Prod.mk.injEq] at h <;> exact ⟨h.1, h.2.1, by omega⟩
    have hb : (i.bytes : Int) * (c : Int) ≤ 281474976710656 := by
      have h1 : i.bytes * c ≤ 8 * 1099511627776 := Nat.mul_le_mul hi.2.2 hc
      have h2 : ((i.bytes * c : Nat) : Int) ≤ 281474976710656 := by omega
      rwa [Int.natCast_mul] at h2
    have hr := run_make (P := P) w T e i zv hT hq hi.1 .i64 .i64 (n : Int) (c : Int) (by omega) (by omega) hb (by omega)
    rw [Int.toNat_natCast, Int.toNat_natCast, hi.2.1, Nat.mul_one, hzc] at hr
    have hm : madeCells #[zv] c = (List.replicate c zv).toArray := by
      apply Array.ext'
      rw [toList_madeCells_one]
    rw [hm] at hr
    unfold Oper.wp execOp
    simp only [hop, hx, hy, Sem.run_bind, hr, Result.andThen_ok]
    exact k _ (Row.new w e _) ((Below.refl _ _).alloc (Nat.le_refl _) _) (by simp)
theorem opMakeK {P : Program} {o : Oper} {A : Act} {wx : World} {K : Act → World → Prop} {Q : Exit → Act → World → Prop} {φ : Value → World → Prop} {G : World → Prop} (d : Nat) (hd : o.dst = some d) (hs : d < A.tmps.size)
    (hK : ∀ a' w', (a'.defers = A.defers ∧ φ (a'.tmps.getD d undef) w' ∧ G w' ∧ Below wx.heap.size wx w') → K a' w')
    (T e : TypeId) (zv : Value) (n c : Nat) (hT : P.underlying T = some (.slice e)) (hz : (P.info? e).map (fun i => (i.zero, i.size, i.bytes)) = some (some zv, 1, 8) ∨ (P.info? e).map (fun i => (i.zero, i.size, i.bytes)) = some (some zv, 1, 1)) (hzc : zv.cells = #[zv])
    (hn : n ≤ c) (hc : c ≤ 1099511627776) (ho : makeOf o A = some (T, .int .i64 (n : Int), .int .i64 (c : Int)))
    (k : ∀ w', Row w' wx.heap.size e (List.replicate c zv) → Below wx.heap.size wx w' → φ (.slice (some ⟨wx.heap.size, 0, none⟩) n c) w' ∧ G w') : o.wp P A wx K Q :=
  opMake T e zv n c hT hz hzc hn hc ho fun w' h1 h2 _ => hK _ _ ⟨by rw [hd]; rfl, by rw [hd, put_get A d _ hs]; exact (k w' h1 h2).1, (k w' h1 h2).2, h2⟩
theorem makeOf_tmp {o : Oper} {a : Act} (T : TypeId) (k : Nat) {v : Value} (hg : o.guard = none) (hop : o.op = .makeSlice T (.tmp k) (.tmp k)) (h : a.tmps.getD k undef = v) : makeOf o a = some (T, v, v) := by
  unfold makeOf
  rw [hg, hop]
  show some (T, a.eval (.tmp k), a.eval (.tmp k)) = _
  rw [show a.eval (.tmp k) = a.tmps.getD k undef from rfl, h]
end Go.Proofs.Ytcehdgdgjjecmaa

/- Contract of flash.New. (gen_fla_new.py) -/
namespace Go.Proofs.Ytcehdgdgjjecmaa
open Go.RowKit FlaMath
set_option linter.unusedVariables false
set_option maxRecDepth 100000

/-- A new device. -/
def D0 (n : Nat) : Dv := ⟨0, 0, false, 0, List.replicate (n * 64) 255, List.replicate n false, List.replicate n 0, 0, false⟩
def Stv (B n : Nat) : Value → World → Prop := fun v w => ∃ g tot, v = .slice (some ⟨g, 0, none⟩) n n ∧ B ≤ g ∧ St g 255 tot n w
theorem Stv.monot (B n : Nat) : Monot (Stv B n) := fun _ _ _ ⟨g, t, h1, h2, h3⟩ hb => ⟨g, t, h1, h2, h3.step hb⟩
def Mk (B n : Nat) (t : TypeId) (z : Value) : Value → World → Prop := fun v w => ∃ g, v = .slice (some ⟨g, 0, none⟩) n n ∧ B ≤ g ∧ Row w g t (List.replicate n z)
theorem Mk.monot (B n : Nat) (t : TypeId) (z : Value) : Monot (Mk B n t z) := fun _ _ _ ⟨g, h1, h2, h3⟩ hb => ⟨g, h1, h2, h3.step hb⟩
theorem row_ne {w : World} {a b : Nat} {t t' : TypeId} {l l' : List Value} (h : Row w a t l) (h' : Row w b t' l') (hne : t ≠ t') : a ≠ b := by
  intro e
  subst e
  have : some (Obj.cells l.toArray t (0, 0)) = some (Obj.cells l'.toArray t' (0, 0)) := h.symm.trans h'
  injection this with this
  injection this with h1 h2 h3
  exact hne h2
theorem fmk_bool : (Try.prog.info? 4).map (fun i => (i.zero, i.size, i.bytes)) = some (some (.bool false), 1, 8) ∨ (Try.prog.info? 4).map (fun i => (i.zero, i.size, i.bytes)) = some (some (.bool false), 1, 1) := Or.inr (by kernel_rfl)
theorem fmk_int : (Try.prog.info? 3).map (fun i => (i.zero, i.size, i.bytes)) = some (some (.int .i64 0), 1, 8) ∨ (Try.prog.info? 3).map (fun i => (i.zero, i.size, i.bytes)) = some (some (.int .i64 0), 1, 1) := Or.inl (by kernel_rfl)
theorem D0_ok (n : Nat) (h1 : 1 ≤ n) (h2 : n ≤ 512) : (D0 n).Ok := ⟨by simp [D0]; omega, by simp [D0]; omega, by simp [D0]; omega, by simp [D0]⟩
theorem rep_bytes (n : Nat) : rep n 255 = bytes (List.replicate n 255) := by simp [rep, bytes]

theorem flnew_bad (n : Int) (w : World) (h : n < 1 ∨ 512 < n) : Calls Try.prog 26 #[.int .i64 n] w fun e w' => e = .returned (.tuple #[.pointer none, .int .i64 1]) ∧ w = w' := by
  by_cases h1 : n < 1
  · clear h
    go_enter Try.func26, Try.ntmps26
    go_wp2
    go_ret2
    exact ⟨rfl, rfl⟩
  · have h2 : 512 < n := by omega
    clear h
    go_enter Try.func26, Try.ntmps26
    go_wp2
    go_ret2
    exact ⟨rfl, rfl⟩

set_option maxHeartbeats 1000000 in
theorem flnew_any (n : Nat) (w : World) (h1 : 1 ≤ n) (h2 : n ≤ 512) :
    Calls Try.prog 26 #[.int .i64 (n : Int)] w fun e w' => ∃ s : Sh, e = .returned (.tuple #[.pointer (some ⟨s.b, 0, none⟩), .int .i64 0]) ∧ Dev w' s (D0 n) ∧ (∀ k ∈ s.S, w.heap.size ≤ k) ∧ Below w.heap.size w w' := by
  obtain ⟨N, hN⟩ : ∃ N, n * 64 = N := ⟨_, rfl⟩
  have HN := Lib.hid hN
  have H1 := Lib.hid h1
  have H2 := Lib.hid h2
  have HR : Hid (∀ wx q, Lies wx wx.heap.size (some ⟨q, 0, none⟩) [.int .u8 255] → Calls Try.prog 40 #[.slice (some ⟨q, 0, none⟩) 1 1, .int .i64 (N : Int)] wx fun e w' => ∃ g tot, e = .returned (.slice (some ⟨g, 0, none⟩) N N) ∧ wx.heap.size ≤ g ∧ St g 255 tot N w' ∧ Below wx.heap.size wx w') := Lib.hid fun wx q h => brepeat_any q 255 N wx (by omega) (by omega) h
  have k1 : (n : Int) ≤ 512 := by omega
  have k2 : 1 ≤ (n : Int) := by omega
  have ew2 : IntKind.i64.wrap ((n : Int) * 64) = (N : Int) := by rw [IntKind.wrap_i64]; omega
  have ew : wrap64 ((n : Int) * 64) = (N : Int) := by rw [← hN]; unfold wrap64; omega
  clear hN h1 h2
  go_enter Try.func26, Try.ntmps26
  go_wp2
  refine region_tail 8 [(0, 10), (1, 11), (2, 12), (3, 13), (4, 14), (5, 15), (6, 16), (7, 17)]
    (fun ii => [New [.int .u8 255], Is (.int .i64 (n : Int)), Is (.int .i64 (N : Int)), Stv w.heap.size N, Is (.int .i64 (n : Int)), Mk w.heap.size n 4 (.bool false), Is (.int .i64 (n : Int)), Mk w.heap.size n 3 (.int .i64 0)].getD ii (Is undef))
    (fun w' => Below w.heap.size w w') (by kernel_rfl) (by decide) (by kernel_rfl) (by kernel_rfl) (by kernel_rfl) (by decide) (by decide) (by kernel_rfl) rfl ?mono ((Below.refl _ _).drew) ?step ?fin
  case mono =>
    intro i
    match i with
    | 0 => exact New.monot _
    | 3 => exact Stv.monot _ _
    | 5 | 7 => exact Mk.monot _ _ _ _
    | 1 | 2 | 4 | 6 => exact Is.monot _
    | _ + 8 => exact Is.monot _
  case step =>
    refine List.forall_mem_cons.2 ⟨?s0, List.forall_mem_cons.2 ⟨?s1, List.forall_mem_cons.2 ⟨?s2, List.forall_mem_cons.2 ⟨?s3, List.forall_mem_cons.2 ⟨?s4, List.forall_mem_cons.2 ⟨?s5, List.forall_mem_cons.2 ⟨?s6, List.forall_mem_cons.2 ⟨?s7, List.forall_mem_nil _⟩⟩⟩⟩⟩⟩⟩⟩
    case s0 =>
      intro u wx hg hC
      clear hC
      refine wpOp_step rfl (fun K hK => ?_)
      simp only [puts, List.foldl]
      go_simp
      exact hK _ _ ⟨rfl, ⟨wx.heap.size, rfl, Lies.new [_] _ _⟩, hg.alloc hg.size _, alloc_below _ _⟩
    case s1 =>
      intro u wx hg hC
      clear hC
      refine wpOp_step rfl (fun K hK => ?_)
      simp only [puts, List.foldl]
      go_simp
      exact hK _ _ ⟨rfl, rfl, hg, Below.refl _ _⟩
    case s2 =>
      intro u wx hg hC
      have h1 : u 1 = .int .i64 (n : Int) := hC.at 1 (by kernel_rfl)
      clear hC
      refine wpOp_step rfl (fun K hK => ?_)
      simp only [puts, List.foldl]
      go_simp
      exact hK _ _ ⟨rfl, rfl, hg, Below.refl _ _⟩
    case s3 =>
      intro u wx hg hC
      obtain ⟨q, h0, hl⟩ : New [.int .u8 255] (u 0) wx := hC.at 0 (by kernel_rfl)
      simp only [List.length_singleton] at h0
      have h2 : u 2 = .int .i64 (N : Int) := hC.at 2 (by kernel_rfl)
      clear hC
      refine wpOp_step rfl (fun K hK => ?_)
      simp only [puts, List.foldl]
      go_simp
      refine (HR.out wx q hl).mono ?_
      rintro e w' ⟨g, tot, rfl, hg1, hst, hb'⟩
      exact hK _ _ ⟨rfl, ⟨g, tot, rfl, Nat.le_trans hg.size hg1, hst⟩, hg.next hb', hb'⟩
    case s4 =>
      intro u wx hg hC
      clear hC
      refine wpOp_step rfl (fun K hK => ?_)
      simp only [puts, List.foldl]
      go_simp
      exact hK _ _ ⟨rfl, rfl, hg, Below.refl _ _⟩
    case s5 =>
      intro u wx hg hC
      have hJ : u 4 = .int .i64 (n : Int) := hC.at 4 (by kernel_rfl)
      clear hC
      refine wpOp_step rfl (fun K hK => ?_)
      generalize hA : puts [(0, 10), (1, 11), (2, 12), (3, 13), (4, 14), (5, 15), (6, 16), (7, 17)] _ u = A at hK ⊢
      have hs : A.tmps.getD 14 undef = .int .i64 (n : Int) := by rw [← hA, ← hJ]; exact puts_get u 4 14 _ _ (by decide) (by decide) (by kernel_rfl)
      have hsz : 15 < A.tmps.size := by rw [← hA]; exact puts_room u (by kernel_rfl)
      clear hA hJ
      refine opMakeK (φ := Mk w.heap.size n 4 (.bool false)) (G := fun w' => Below w.heap.size w w') 15 ?_ ?_ ?_ 58 4 (.bool false) n n ?_ ?_ ?_ ?_ ?_ ?_ ?_
      · rfl
      · exact hsz
      · exact hK
      · exact Try.underlying58
      · exact fmk_bool
      · rfl
      · exact Nat.le_refl _
      · have := H2.out; omega
      · exact makeOf_tmp 58 14 rfl rfl hs
      · exact fun w' r' b' => ⟨⟨wx.heap.size, rfl, hg.size, r'⟩, hg.next b'⟩
    case s6 =>
      intro u wx hg hC
      clear hC
      refine wpOp_step rfl (fun K hK => ?_)
      simp only [puts, List.foldl]
      go_simp
      exact hK _ _ ⟨rfl, rfl, hg, Below.refl _ _⟩
    case s7 =>
      intro u wx hg hC
      have hJ : u 6 = .int .i64 (n : Int) := hC.at 6 (by kernel_rfl)
      clear hC
      refine wpOp_step rfl (fun K hK => ?_)
      generalize hA : puts [(0, 10), (1, 11), (2, 12), (3, 13), (4, 14), (5, 15), (6, 16), (7, 17)] _ u = A at hK ⊢
      have hs : A.tmps.getD 16 undef = .int .i64 (n : Int) := by rw [← hA, ← hJ]; exact puts_get u 6 16 _ _ (by decide) (by decide) (by kernel_rfl)
      have hsz : 17 < A.tmps.size := by rw [← hA]; exact puts_room u (by kernel_rfl)
      clear hA hJ
      refine opMakeK (φ := Mk w.heap.size n 3 (.int .i64 0)) (G := fun w' => Below w.heap.size w w') 17 ?_ ?_ ?_ 59 3 (.int .i64 0) n n ?_ ?_ ?_ ?_ ?_ ?_ ?_
      · rfl
      · exact hsz
      · exact hK
      · exact Try.underlying59
      · exact fmk_int
      · rfl
      · exact Nat.le_refl _
      · have := H2.out; omega
      · exact makeOf_tmp 59 16 rfl rfl hs
      · exact fun w' r' b' => ⟨⟨wx.heap.size, rfl, hg.size, r'⟩, hg.next b'⟩
  case fin =>
    intro u w4 hb4 hφ
    obtain ⟨g1, tot, e3, hg1, z, hr1, ht1⟩ : Stv w.heap.size N (u 3) w4 := hφ (3, 13) (by decide)
    obtain ⟨g2, e5, hg2, hr2⟩ : Mk w.heap.size n 4 (.bool false) (u 5) w4 := hφ (5, 15) (by decide)
    obtain ⟨g3, e7, hg3, hr3⟩ : Mk w.heap.size n 3 (.int .i64 0) (u 7) w4 := hφ (7, 17) (by decide)
    clear hφ
    have n12 := row_ne hr1 hr2 (by decide)
    have n13 := row_ne hr1 hr3 (by decide)
    have n23 := row_ne hr2 hr3 (by decide)
    have R1 := Lib.hid hr1
    have R2 := Lib.hid hr2
    have R3 := Lib.hid hr3
    have B4 := Lib.hid hb4
    have HG := Lib.hid (And.intro hg1 (And.intro hg2 hg3))
    have HNE := Lib.hid (And.intro n12 (And.intro n13 n23))
    simp only [puts, List.foldl]
    go_simp
    clear hb4 hr1 hr2 hr3 hg1 hg2 hg3 n12 n13 n23 ht1 e3 e5 e7
    go_wp2_with ((with_reducible refine wpBoxK [Value.int .i64 0, .int .u8 0, .bool false, .int .i64 0, .slice (some ⟨g1, 0, none⟩) N N, .slice (some ⟨g2, 0, none⟩) n n, .slice (some ⟨g3, 0, none⟩) n n, .int .i64 0, .bool false] 61 ?_ ?_); rfl; intro w5 r5 b5 s5; have R5 := Lib.hid r5; have B5 := Lib.hid b5; clear r5 b5 s5)
    go_ret2
    refine ⟨⟨w4.heap.size, g1, N, z, g2, n, [], g3, n, []⟩, rfl, ⟨?_, ?_, ?_, ?_, ?_, ?_, ?_, D0_ok n H1.out H2.out⟩, ?_, B4.out.next B5.out⟩
    · have e : devL ⟨w4.heap.size, g1, N, z, g2, n, [], g3, n, []⟩ (D0 n) = [Value.int .i64 0, .int .u8 0, .bool false, .int .i64 0, .slice (some ⟨g1, 0, none⟩) N N, .slice (some ⟨g2, 0, none⟩) n n, .slice (some ⟨g3, 0, none⟩) n n, .int .i64 0, .bool false] := by
        simp [devL, D0, HN.out]
      rw [e]; exact R5.out
    · have e : bytes (D0 n).C = rep N 255 := by rw [rep_bytes, ← HN.out]; rfl
      show Row _ g1 _ (bytes (D0 n).C ++ z)
      rw [e]; exact R1.out.step B5.out
    · show Row _ g2 _ (fbools (List.replicate n false) ++ [])
      rw [List.append_nil, show fbools (List.replicate n false) = List.replicate n (.bool false) by simp [fbools]]; exact R2.out.step B5.out
    · show Row _ g3 _ (ints (List.replicate n 0) ++ [])
      rw [List.append_nil, show ints (List.replicate n 0) = List.replicate n (.int .i64 0) by simp [ints]]; exact R3.out.step B5.out
    · have q1 := R1.out.lt
      have q2 := R2.out.lt
      have q3 := R3.out.lt
      obtain ⟨a1, a2, a3⟩ := HNE.out
      simp only [Sh.S, List.nodup_cons, List.mem_cons, List.not_mem_nil, or_false, not_or, not_false_eq_true, List.nodup_nil, and_true]
      exact ⟨⟨by omega, by omega, by omega⟩, ⟨a1, a2⟩, a3⟩
    · show (List.replicate (n * 64) (255 : UInt8)).length ≤ N
      rw [List.length_replicate, HN.out]; exact Nat.le_refl _
    · show N ≤ _
      have := H2.out; have := HN.out; omega
    · intro k hk
      obtain ⟨a1, a2, a3⟩ := HG.out
      have := B4.out.size
      simp only [Sh.S, List.mem_cons, List.not_mem_nil, or_false] at hk
      rcases hk with rfl | rfl | rfl | rfl
      · exact this
      · exact a1
      · exact a2
      · exact a3
end Go.Proofs.Ytcehdgdgjjecmaa

/- The document's example: awake. -/
namespace Go.Proofs.Ytcehdgdgjjecmaa
open Go.RowKit FlaMath
set_option linter.unusedVariables false
set_option maxRecDepth 100000

def l15 : List UInt8 := List.replicate 16 15
def l60 : List UInt8 := List.replicate 16 60
theorem aw1 : programE (D0 2) 16 l15 = 0 := by kernel_rfl
theorem aw2 : programE (programD (D0 2) 16 l15) 16 l60 = 0 := by kernel_rfl
theorem aw3 : readE (programD (programD (D0 2) 16 l15) 16 l60) 16 16 = 0 := by kernel_rfl
theorem aw4 : readS (programD (programD (D0 2) 16 l15) 16 l60) 16 16 = List.replicate 16 12 := by kernel_rfl
end Go.Proofs.Ytcehdgdgjjecmaa

/- Arguments of any plain type, opened: a description of the type, the plain data that it holds, and how they lie in the world. -/
namespace Go.Proofs.Ytcehdgdgjjecmaa.Open
open Go.RowKit

inductive Ty where
  | int (k : IntKind) | bool | str | unit
  | pair (a b : Ty)
  | arr (n : Nat) (e : Ty)
  | sl (bytes : Nat) (e : Ty)

def Ty.size : Ty → Nat
  | .int _ | .bool | .str | .sl _ _ => 1
  | .unit => 0
  | .pair a b => a.size + b.size
  | .arr n e => n * e.size

abbrev Ty.den : Ty → Type
  | .int _ => Int
  | .bool => Bool
  | .str => ByteArray
  | .unit => Unit
  | .pair a b => a.den × b.den
  | .arr _ e => List e.den
  | .sl _ e => List e.den

/-- The cells cs hold the data x. -/
def Reads (w : World) : (t : Ty) → List Value → t.den → Prop
  | .int k, cs, (x : Int) => cs = [.int k x] ∧ (Lit.int k x).wf = true
  | .bool, cs, (x : Bool) => cs = [.bool x]
  | .str, cs, (x : ByteArray) => cs = [.string x] ∧ x.size ≤ 140737488351232
  | .unit, cs, _ => cs = []
  | .pair a b, cs, x => Reads w a (cs.take a.size) x.1 ∧ Reads w b (cs.drop a.size) x.2
  | .arr n e, cs, (l : List e.den) => l.length = n ∧ cs.length = n * e.size ∧ ∀ i (h : i < l.length), Reads w e ((cs.drop (i * e.size)).take e.size) l[i]
  | .sl by_ e, cs, (l : List e.den) => ∃ a cap, cs = [.slice a l.length cap] ∧ l.length ≤ cap ∧ cap * by_ ≤ 140737488351232 ∧ cap ≤ 9223372036854775807 ∧
      (0 < l.length → ∃ b off, a = some ⟨b, off, none⟩ ∧ b < w.heap.size ∧ ∀ i (h : i < l.length), ∃ cs' : List Value, cs'.length = e.size ∧
        (∀ j, j < e.size → w.cell? ⟨b, off + (i * e.size + j), none⟩ = cs'[j]?) ∧ Reads w e cs' l[i])

theorem Reads.length {w : World} : ∀ {t : Ty} {cs : List Value} {x : t.den}, Reads w t cs x → cs.length = t.size
  | .int _, _, _, h => by rw [h.1]; rfl
  | .bool, cs, _, h => by have h : cs = _ := h; rw [h]; rfl
  | .str, _, _, h => by rw [h.1]; rfl
  | .unit, cs, _, h => by have h : cs = _ := h; rw [h]; rfl
  | .pair a b, cs, x, h => by
    have h1 := h.1.length
    have h2 := h.2.length
    rw [List.length_take] at h1
    rw [List.length_drop] at h2
    show cs.length = a.size + b.size
    omega
  | .arr n e, _, _, h => h.2.1
  | .sl _ _, _, _, h => by obtain ⟨a, cap, rfl, _⟩ := h; rfl

theorem Reads.below {w w' : World} (hb : Below w.heap.size w w') : ∀ {t : Ty} {cs : List Value} {x : t.den}, Reads w t cs x → Reads w' t cs x
  | .int _, _, _, h => h
  | .bool, _, _, h => h
  | .str, _, _, h => h
  | .unit, _, _, h => h
  | .pair _ _, _, _, h => ⟨h.1.below hb, h.2.below hb⟩
  | .arr _ _, _, _, h => ⟨h.1, h.2.1, fun i hi => (h.2.2 i hi).below hb⟩
  | .sl _ e, _, _, ⟨a, cap, h1, h2, h3, h4, h5⟩ => ⟨a, cap, h1, h2, h3, h4, fun hp => by
      obtain ⟨b, off, e1, e2, e3⟩ := h5 hp
      refine ⟨b, off, e1, Nat.lt_of_lt_of_le e2 hb.size, fun i hi => ?_⟩
      obtain ⟨cs', l1, l2, l3⟩ := e3 i hi
      exact ⟨cs', l1, fun j hj => (hb.cell (p := ⟨b, off + (i * e.size + j), none⟩) e2).trans (l2 j hj), l3.below hb⟩⟩

def kindEq (a b : IntKind) : Bool := match a, b with
  | .i8, .i8 | .i16, .i16 | .i32, .i32 | .i64, .i64 | .u8, .u8 | .u16, .u16 | .u32, .u32 | .u64, .u64 => true
  | _, _ => false
theorem kindEq_eq {a b : IntKind} (h : kindEq a b = true) : a = b := by
  cases a <;> cases b <;> first | rfl | (simp [kindEq] at h)

/-- Is type t (or: are the fields fs, from the cell at off on) as the description says? -/
def chk (P : Program) : Ty → Option TypeId → List Field → Nat → Bool
  | .int k, some t, _, _ => match P.underlying t with | some (.int k') => kindEq k' k | _ => false
  | .bool, some t, _, _ => match P.underlying t with | some .bool => true | _ => false
  | .str, some t, _, _ => match P.underlying t with | some .string => true | _ => false
  | .unit, none, fs, _ => fs.isEmpty
  | .pair a b, none, fs, off => match fs with
    | f :: r => Nat.beq f.offset off && Nat.beq (P.cellsOf f.type) a.size && chk P a (some f.type) [] 0 && chk P b none r (off + a.size)
    | [] => false
  | .pair a b, some t, _, _ => match P.underlying t with
    | some (.struct fs) => Nat.beq (P.cellsOf t) (a.size + b.size) && (match fs.toList with
      | f :: r => Nat.beq f.offset 0 && Nat.beq (P.cellsOf f.type) a.size && chk P a (some f.type) [] 0 && chk P b none r a.size
      | [] => false)
    | _ => false
  | .arr n e, some t, _, _ => match P.underlying t with | some (.array n' e') => Nat.beq n' n && Nat.beq (P.cellsOf t) (n * e.size) && Nat.beq (P.cellsOf e') e.size && chk P e (some e') [] 0 | _ => false
  | .sl by_ e, some t, _, _ => match P.underlying t with | some (.slice e') => Nat.beq (P.cellsOf e') e.size && Nat.blt 0 e.size && Nat.beq (P.bytesOf e') by_ && chk P e (some e') [] 0 | _ => false
  | _, _, _, _ => false

theorem reach_eq : reachBytes = 140737488351232 := rfl

section
variable {H : Type} {enc : TypeId × Value → H} {P : Program} {w : World} {spare : Nat → Bool} {held : Bool}

theorem weightsAll_mem {e : TypeId} : ∀ {ds : List (DataW H)} {d : DataW H} {n : Nat}, d ∈ ds → n ∈ d.weights P e → n ∈ DataW.weightsAll P e ds
  | d0 :: ds, d, n, hd, hn => by
    rw [DataW.weightsAll, List.mem_append]
    cases hd with
    | head => exact Or.inl hn
    | tail _ hd => exact Or.inr (weightsAll_mem hd hn)

theorem choose_list {α β : Type} (p : Nat → α → Prop) (l : Nat) (h : ∀ i, i < l → ∃ x, p i x) (_ : β) : ∃ xs : List α, xs.length = l ∧ ∀ i (hi : i < xs.length), p i xs[i] := by
  induction l with
  | zero => exact ⟨[], rfl, fun i hi => by simp at hi⟩
  | succ l ih =>
    obtain ⟨xs, h1, h2⟩ := ih fun i hi => h i (by omega)
    obtain ⟨x, hx⟩ := h l (by omega)
    refine ⟨xs ++ [x], by simp [h1], fun i hi => ?_⟩
    rw [List.getElem_append]
    split
    · exact h2 i (by assumption)
    · have : i = l := by simp [h1] at hi; omega
      subst this
      simpa using hx

theorem opens (hspare : ∀ b, spare b = true) : ∀ (ty : Ty),
    (∀ (t : TypeId) (fuel : Nat) (cs : List Value) (x : DataW H × List MemPlace), chk P ty (some t) [] 0 = true → DataW.trod enc P w 0 spare held fuel t cs = some x → (∀ n ∈ x.1.weights P t, n ≤ reachBytes) → ∃ d, Reads w ty cs d) ∧
    (∀ (fs : List Field) (off n : Nat) (cs : List Value) (xs : List (DataW H × List MemPlace)), chk P ty none fs off = true → cs.length = off + ty.size → xs.length = fs.length →
      (∀ (i : Nat) (f : Field), fs[i]? = some f → DataW.trod enc P w 0 spare held n f.type ((cs.drop f.offset).take (P.cellsOf f.type)) = xs[i]?) →
      (∀ n ∈ DataW.weightsEach P (fs.map (·.type)) (xs.map (·.1)), n ≤ reachBytes) → ∃ d, Reads w ty (cs.drop off) d)
  | .int k => by
    refine ⟨fun t fuel cs x hc h hw => ?_, fun fs off n cs xs hc => by simp [chk] at hc⟩
    simp only [chk] at hc
    split at hc
    · rename_i k' hu
      have := kindEq_eq hc
      subst this
      obtain ⟨m, rfl, rfl, hwf⟩ := DataW.trod_int hu h
      exact ⟨m, rfl, hwf⟩
    · cases hc
  | .bool => by
    refine ⟨fun t fuel cs x hc h hw => ?_, fun fs off n cs xs hc => by simp [chk] at hc⟩
    simp only [chk] at hc
    split at hc
    · rename_i hu
      obtain ⟨b, rfl, rfl⟩ := DataW.trod_bool hu h
      exact ⟨b, rfl⟩
    · cases hc
  | .str => by
    refine ⟨fun t fuel cs x hc h hw => ?_, fun fs off n cs xs hc => by simp [chk] at hc⟩
    simp only [chk] at hc
    split at hc
    · rename_i hu
      obtain ⟨s, rfl, rfl, _⟩ := DataW.trod_string hu h
      have := hw s.data.toList.length (by simp [DataW.weights])
      rw [reach_eq, Array.length_toList] at this
      exact ⟨s, rfl, this⟩
    · cases hc
  | .unit => by
    refine ⟨fun t fuel cs x hc => by simp [chk] at hc, fun fs off n cs xs hc hl _ _ _ => ?_⟩
    exact ⟨(), by
      show cs.drop off = []
      rw [List.drop_eq_nil_iff]
      have : cs.length = off + 0 := hl
      omega⟩
  | .pair a b => by
    have key : ∀ (fs : List Field) (off n : Nat) (cs : List Value) (xs : List (DataW H × List MemPlace)),
        (match fs with | f :: r => Nat.beq f.offset off && Nat.beq (P.cellsOf f.type) a.size && chk P a (some f.type) [] 0 && chk P b none r (off + a.size) | [] => false) = true →
        cs.length = off + (a.size + b.size) → xs.length = fs.length →
        (∀ (i : Nat) (f : Field), fs[i]? = some f → DataW.trod enc P w 0 spare held n f.type ((cs.drop f.offset).take (P.cellsOf f.type)) = xs[i]?) →
        (∀ n ∈ DataW.weightsEach P (fs.map (·.type)) (xs.map (·.1)), n ≤ reachBytes) → ∃ d, Reads w (.pair a b) (cs.drop off) d := by
      intro fs off n cs xs hc hl hx hr hw
      match fs, xs, hc, hx, hr, hw with
      | f :: r, x :: xs, hc, hx, hr, hw =>
        simp only [Bool.and_eq_true, Nat.beq_eq] at hc
        obtain ⟨⟨⟨h1, h2⟩, h3⟩, h4⟩ := hc
        simp only [List.map_cons, DataW.weightsEach, List.mem_append] at hw
        have r0 := hr 0 f rfl
        rw [h1, h2] at r0
        obtain ⟨d1, hd1⟩ := (opens hspare a).1 f.type n _ x h3 (by simpa using r0) fun m hm => hw m (Or.inl hm)
        obtain ⟨d2, hd2⟩ := (opens hspare b).2 r (off + a.size) n cs xs h4 (by omega) (by simpa using hx) (fun i g hg => by simpa using hr (i + 1) g (by simpa using hg)) fun m hm => hw m (Or.inr hm)
        refine ⟨(d1, d2), hd1, ?_⟩
        show Reads w b ((cs.drop off).drop a.size) d2
        rw [List.drop_drop]
        exact hd2
      | [], _, hc, _, _, _ => cases hc
    refine ⟨fun t fuel cs x hc h hw => ?_, fun fs off n cs xs hc hl hx hr hw => ?_⟩
    · simp only [chk] at hc
      split at hc
      · rename_i fs hu
        simp only [Bool.and_eq_true, Nat.beq_eq] at hc
        obtain ⟨xs, n, rfl, rfl, hl, hx, hr⟩ := DataW.trod_struct hu h
        have := key fs.toList 0 n cs xs (by simpa only [Nat.zero_add] using hc.2) (by rw [hl, hc.1]; omega) (by simpa using hx) (fun i f hf => hr i f (by simpa using hf)) (fun m hm => hw m (by simpa [DataW.weights, hu] using hm))
        simpa using this
      · cases hc
    · exact key fs off n cs xs (by simpa only [chk] using hc) hl hx hr hw
  | .arr m e => by
    refine ⟨fun t fuel cs x hc h hw => ?_, fun fs off n cs xs hc => by simp [chk] at hc⟩
    simp only [chk] at hc
    split at hc
    · rename_i n' e' hu
      simp only [Bool.and_eq_true, Nat.beq_eq] at hc
      obtain ⟨⟨⟨rfl, h1⟩, h2⟩, h3⟩ := hc
      obtain ⟨xs, n, rfl, rfl, hl, hx, hr⟩ := DataW.trod_array hu h
      rw [h2] at hr
      obtain ⟨ds, hd1, hd2⟩ := choose_list (α := e.den) (fun i d => Reads w e ((cs.drop (i * e.size)).take e.size) d) n' (fun i hi => by
        have hi2 : i < xs.length := by omega
        have := hr i hi
        rw [List.getElem?_eq_getElem hi2] at this
        refine (opens hspare e).1 e' n _ xs[i] h3 this fun k hk => hw k ?_
        simp only [DataW.weights, hu]
        exact weightsAll_mem (List.mem_map.2 ⟨xs[i], List.getElem_mem _, rfl⟩) hk) ()
      exact ⟨ds, hd1, by rw [hl, h1], hd2⟩
    · cases hc
  | .sl by_ e => by
    refine ⟨fun t fuel cs x hc h hw => ?_, fun fs off n cs xs hc => by simp [chk] at hc⟩
    simp only [chk] at hc
    split at hc
    · rename_i e' hu
      simp only [Bool.and_eq_true, Nat.beq_eq] at hc
      obtain ⟨⟨⟨h1, h2⟩, h3⟩, h4⟩ := hc
      have hpos : 0 < e.size := by simp [Nat.blt] at h2; omega
      rcases DataW.trod_slice hu h with ⟨rfl, rfl⟩ | ⟨a, len, cap, elems, rest, n, _, rfl, rfl, hb, hl, hm, hlen, hel, hsp, hns⟩
      · exact ⟨[], none, 0, rfl, by simp, by simp, by omega, fun h0 => by simp at h0⟩
      · rw [h1] at hel
        have hrl := (hsp (hspare _)).1
        have hcap : cap * by_ ≤ 140737488351232 := by
          have := hw ((elems.length + rest.length) * P.bytesOf e') (by simp [DataW.weights, hu])
          rw [hlen, hrl, h3, reach_eq, Nat.add_sub_cancel' hl] at this
          exact this
        have hm2 : cap ≤ 9223372036854775807 := hm
        have hcell : ∀ i, i < len → ∃ cs', cs'.length = e.size ∧ (∀ j, j < e.size → w.cell? ((a.add (i * e.size)).add j) = cs'[j]?) ∧ ∃ d, Reads w e cs' d := by
          intro i hi
          have hi2 : i < elems.length := by omega
          have := hel i hi
          rw [List.getElem?_eq_getElem hi2] at this
          obtain ⟨cs', q1, q2⟩ := Option.bind_eq_some_iff.1 this
          obtain ⟨_, q3, q4⟩ := World.cells?_some q1
          refine ⟨cs', q3, q4, (opens hspare e).1 e' n cs' elems[i] h4 q2 fun k hk => hw k ?_⟩
          simp only [DataW.weights, hu, List.mem_cons, List.mem_append]
          exact Or.inr (Or.inl (weightsAll_mem (List.mem_map.2 ⟨elems[i], List.getElem_mem _, rfl⟩) hk))
        obtain ⟨ds, hd1, hd2⟩ := choose_list (α := e.den) (fun i d => ∃ cs', cs'.length = e.size ∧ (∀ j, j < e.size → w.cell? ((a.add (i * e.size)).add j) = cs'[j]?) ∧ Reads w e cs' d) len (fun i hi => by
          obtain ⟨cs', q1, q2, d, q3⟩ := hcell i hi
          exact ⟨d, cs', q1, q2, q3⟩) ()
        refine ⟨ds, some a, cap, by rw [hd1], by omega, hcap, hm2, fun h0 => ?_⟩
        obtain ⟨b, off, spot⟩ := a
        have h00 : ∃ v, w.cell? ⟨b, off, spot⟩ = some v := by
          obtain ⟨cs', q1, q2, _⟩ := hd2 0 h0
          have := q2 0 hpos
          rw [List.getElem?_eq_getElem (by omega)] at this
          simp only [Nat.zero_mul, Addr.add, if_true] at this
          exact ⟨_, this⟩
        obtain ⟨v, hv⟩ := h00
        have hspot : spot = none := by simpa using World.cell?_spot hv
        subst hspot
        refine ⟨b, off, rfl, World.block_lt_of_cell? w _ hv, fun i hi => ?_⟩
        obtain ⟨cs', q1, q2, q3⟩ := hd2 i hi
        refine ⟨cs', q1, fun j hj => ?_, q3⟩
        have := q2 j hj
        rw [Addr.add_lit, Addr.add_lit] at this
        rw [← this, Nat.add_assoc]
    · cases hc
end
end Go.Proofs.Ytcehdgdgjjecmaa.Open

/- Lists of calls that came in; great. -/
namespace Go.Proofs.Ytcehdgdgjjecmaa
open Go.RowKit FlaMath
set_option linter.unusedVariables false
set_option maxRecDepth 100000

structure OpV where
  k : Int
  at_ : Int
  n : Int
  s : ByteArray
  fb : Int
  fm : UInt8
def opL (o : OpV) : List Value := [.int .i64 o.k, .int .i64 o.at_, .int .i64 o.n, .string o.s, .int .i64 o.fb, .int .u8 (o.fm.toNat : Int)]
structure OpV.In (o : OpV) : Prop where
  hk : -9223372036854775808 ≤ o.k ∧ o.k < 9223372036854775808
  ha : -9223372036854775808 ≤ o.at_ ∧ o.at_ < 9223372036854775808
  hn : -9223372036854775808 ≤ o.n ∧ o.n < 9223372036854775808
  hs : o.s.size ≤ 140737488351232
def TT : Open.Ty := .pair (.int .i64) (.pair (.int .u8) .unit)
def TO : Open.Ty := .pair (.int .i64) (.pair (.int .i64) (.pair (.int .i64) (.pair .str (.pair TT .unit))))
theorem fwf_int {n : Int} (h : (Lit.int .i64 n).wf = true) : -9223372036854775808 ≤ n ∧ n < 9223372036854775808 := by
  have h2 := h
  simp [Lit.wf, IntKind.min, IntKind.max, IntKind.bits, IntKind.signed] at h2
  omega
theorem fwf_byte {n : Int} (h : (Lit.int .u8 n).wf = true) : ∃ b : UInt8, n = (b.toNat : Int) := by
  have h2 := h
  simp [Lit.wf, IntKind.min, IntKind.max, IntKind.bits, IntKind.signed] at h2
  refine ⟨UInt8.ofNat n.toNat, ?_⟩
  rw [UInt8.toNat_ofNat', Nat.mod_eq_of_lt (by omega)]
  omega
theorem reads_torn {w : World} {cs : List Value} {x : TT.den} (h : Open.Reads w TT cs x) : ∃ (fb : Int) (m : UInt8), cs = [.int .i64 fb, .int .u8 (m.toNat : Int)] := by
  have hl : cs.length = 2 := h.length
  match cs, hl with
  | [s, t], _ =>
    obtain ⟨⟨h1, _⟩, ⟨h2, h3⟩, _⟩ := h
    obtain ⟨b, hb⟩ := fwf_byte h3
    have e1 : s = .int .i64 x.1 := by simpa [Open.Ty.size] using h1
    have e2 : t = .int .u8 x.2.1 := by simpa [Open.Ty.size] using h2
    exact ⟨x.1, b, by rw [e1, e2, hb]⟩
theorem reads_op {w : World} {cs : List Value} {x : TO.den} (h : Open.Reads w TO cs x) : ∃ o : OpV, cs = opL o ∧ o.In := by
  have hl : cs.length = 6 := h.length
  match cs, hl with
  | [a, b, c, d, e, f], _ =>
    obtain ⟨⟨h1, g1⟩, ⟨h2, g2⟩, ⟨h3, g3⟩, ⟨h4, g4⟩, h5, _⟩ := h
    have e1 : a = .int .i64 x.1 := by simpa [Open.Ty.size] using h1
    have e2 : b = .int .i64 x.2.1 := by simpa [Open.Ty.size] using h2
    have e3 : c = .int .i64 x.2.2.1 := by simpa [Open.Ty.size] using h3
    have e4 : d = .string x.2.2.2.1 := by simpa [Open.Ty.size] using h4
    obtain ⟨fb, m, e5⟩ := reads_torn h5
    have e6 : e = .int .i64 fb ∧ f = .int .u8 (m.toNat : Int) := by simpa [Open.Ty.size, TT] using e5
    exact ⟨⟨x.1, x.2.1, x.2.2.1, x.2.2.2.1, fb, m⟩, by rw [e1, e2, e3, e4, e6.1, e6.2]; rfl, fwf_int g1, fwf_int g2, fwf_int g3, g4⟩
/-- The calls L lie at a. -/
def OpsAt (w : World) (a : Option Addr) (L : List OpV) : Prop :=
  0 < L.length → ∃ bl off, a = some ⟨bl, off, none⟩ ∧ bl < w.heap.size ∧ ∀ i (h : i < L.length), w.rangeAt bl (off + i * 6) (opL L[i])
theorem OpsAt.step {w w' : World} {a : Option Addr} {L : List OpV} (h : OpsAt w a L) (hb : Below w.heap.size w w') : OpsAt w' a L := by
  intro hp
  obtain ⟨bl, off, e, hl, hc⟩ := h hp
  exact ⟨bl, off, e, Nat.lt_of_lt_of_le hl hb.size, fun i hi j v hj => (hb.cell (p := ⟨bl, off + i * 6 + j, none⟩) hl).trans (hc i hi j v hj)⟩
theorem reads_ops {w : World} {by_ : Nat} {a : Option Addr} {cap : Nat} {l : List TO.den} (h : Open.Reads w (.sl by_ TO) [.slice a l.length cap] l) :
    ∃ L : List OpV, L.length = l.length ∧ (∀ o ∈ L, o.In) ∧ OpsAt w a L ∧ L.length ≤ 9223372036854775807 := by
  obtain ⟨a', cap', e, h1, h2, h3, h4⟩ := h
  have ea : a = a' := by simp only [List.cons.injEq, Value.slice.injEq] at e; exact e.1.1
  subst ea
  by_cases hp : 0 < l.length
  · obtain ⟨bl, off, e1, e2, e3⟩ := h4 hp
    obtain ⟨L, hL, hc⟩ := Open.choose_list (fun i (o : OpV) => w.rangeAt bl (off + i * 6) (opL o) ∧ o.In) l.length (fun i hi => by
      obtain ⟨cs', l1, l2, l3⟩ := e3 i hi
      obtain ⟨o, e4, e5⟩ := reads_op l3
      refine ⟨o, fun j v hj => ?_, e5⟩
      have hj6 : j < TO.size := by
        rw [← l1, e4]
        exact (List.getElem?_eq_some_iff.1 hj).1
      have := l2 j hj6
      rw [e4, hj] at this
      rw [← this, show off + i * 6 + j = off + (i * TO.size + j) from by show off + i * 6 + j = off + (i * 6 + j); omega]) ()
    exact ⟨L, hL, fun o ho => by
      obtain ⟨i, hi, rfl⟩ := List.mem_iff_getElem.1 ho
      exact (hc i hi).2, fun _ => ⟨bl, off, e1, e2, fun i hi => (hc i hi).1⟩, by omega⟩
  · exact ⟨[], by simp; omega, by simp, fun h => absurd h (by simp), by simp⟩

section
variable {P : Program}
theorem wpLoadAtK {ops : Array Oper} {rest : List Oper} {o : Oper} {a : Act} {w : World} {Q : Exit → Act → World → Prop} {g i : Nat} {y : List Value} (hy : w.rangeAt g i y) (ty : TypeId) {n : Nat} (hf : Fits P ty n) (hl : y.length = n)
    (ho : loadOf o a = some (ty, .pointer (some ⟨g, i, none⟩))) (k : wpList P ops Q rest (a.put o.dst (.agg y.toArray)) w) : wpList P ops Q (o :: rest) a w := by
  obtain ⟨hg, x, ho, hx⟩ := loadOf_spec ho
  obtain ⟨d, hu, hd⟩ := hf.row
  exact wpList_load_mid hg ty x ho g i hx y d hy hu hd (by rw [hl]; exact hf.size) k
end
def op0 : List Value := [.int .i64 0, .int .i64 0, .int .i64 0, .string { data := #[] }, .int .i64 0, .int .u8 0]
def gr (L : List OpV) : Bool := decide (150 < L.length) || L.any fun o => decide (1000 < o.s.size)
end Go.Proofs.Ytcehdgdgjjecmaa

/- FlashNone's walk. -/
namespace Go.Proofs.Ytcehdgdgjjecmaa
open Go.RowKit FlaMath
set_option linter.unusedVariables false
set_option maxRecDepth 100000

theorem OpsAt.one (o : OpV) (w : World) (t : TypeId) : OpsAt (w.alloc (.cells (opL o).toArray t)) (some ⟨w.heap.size, 0, none⟩) [o] := by
  intro _
  refine ⟨_, _, rfl, by simp, fun i hi => ?_⟩
  have h0 : i = 0 := by simp at hi; exact hi
  subst h0
  intro j v hj
  have := (Row.new w t (opL o)).cell j
  rw [show (opL o)[j]? = some v from hj] at this
  simpa using this
end Go.Proofs.Ytcehdgdgjjecmaa

/- What calls leave of a device: FlashKeeps' mathematics. -/
namespace Go.Proofs.Ytcehdgdgjjecmaa
open Go.RowKit FlaMath
set_option linter.unusedVariables false
set_option maxRecDepth 100000

theorem FlaMath_dump_eq (D : Dv) (a : Nat) (h : a < D.L.length) : dump D (a : Int) = sec D.C a := by
  rw [dump, if_pos (by omega), Int.toNat_natCast]
theorem sec_same {C C' : List UInt8} (h : C'.length = C.length) (i : Nat) (he : ∀ j (hj : j < C.length), i * 64 ≤ j → j < i * 64 + 64 → C'[j]'(by rw [h]; exact hj) = C[j]) : sec C' i = sec C i := by
  apply List.ext_getElem (by simp [sec, h])
  intro j h1 h2
  simp [sec] at h1 h2 ⊢
  exact he (i * 64 + j) (by omega) (by omega) (by omega)
theorem work_out (C : List UInt8) (o n r : Nat) (f g : Nat → UInt8 → UInt8) (hr : r ≤ n) (j : Nat) (hj : j < C.length) (ho : ¬ (o ≤ j ∧ j < o + n)) : (FlaMath.work C o n r f g)[j]'(by rw [work_length]; exact hj) = C[j] := by
  rw [work_get _ _ _ _ _ _ _ hj, if_neg (by omega), if_neg (by omega)]
theorem sec_work (C : List UInt8) (o n r : Nat) (f g : Nat → UInt8 → UInt8) (hr : r ≤ n) (i : Nat) (h : o + n ≤ i * 64 ∨ i * 64 + 64 ≤ o) : sec (FlaMath.work C o n r f g) i = sec C i :=
  sec_same (work_length _ _ _ _ _ _) i fun j hj h1 h2 => work_out C o n r f g hr j hj (by omega)
theorem done_le (b : Bool) (fb : Int) (n : Nat) : (if b then reach fb n else n) ≤ n := by
  split
  · exact reach_le _ _
  · exact Nat.le_refl _
theorem workD_C (D : Dv) (o n : Nat) (f g : Nat → UInt8 → UInt8) : ∃ r, r ≤ n ∧ (workD D o n f g).C = FlaMath.work D.C o n r f g := ⟨_, done_le _ _ _, rfl⟩
theorem workD_L (D : Dv) (o n : Nat) (f g : Nat → UInt8 → UInt8) : (workD D o n f g).L = D.L := burned_L D
theorem workD_E (D : Dv) (o n : Nat) (f g : Nat → UInt8 → UInt8) : (workD D o n f g).E = D.E := burned_E D
theorem eraseD_L (D : Dv) (i : Int) : (eraseD D i).L = D.L := by
  unfold eraseD
  split
  · rw [workD_L]; rfl
  · rfl
theorem programD_L (D : Dv) (x : Int) (l : List UInt8) : (programD D x l).L = D.L := by
  unfold programD
  split
  · rw [workD_L]
  · rfl
theorem programD_E (D : Dv) (x : Int) (l : List UInt8) : (programD D x l).E = D.E := by
  unfold programD
  split
  · rw [workD_E]
  · rfl
theorem readD_C (D : Dv) (x y op : Int) : (D.readD x y op).C = D.C ∧ (D.readD x y op).L = D.L ∧ (D.readD x y op).E = D.E := by
  unfold Dv.readD
  split <;> exact ⟨rfl, rfl, rfl⟩

/-- What FlashKeeps holds through its rounds. -/
structure Kept (n a : Nat) (W : List UInt8) (D : Dv) : Prop where
  len : D.L.length = n
  lk : D.L.getD a false = true
  sec : sec D.C a = W
theorem Kept.same {n a : Nat} {W : List UInt8} {D D' : Dv} (h : Kept n a W D) (hC : D'.C = D.C) (hL : D'.L = D.L) : Kept n a W D' := ⟨by rw [hL]; exact h.len, by rw [hL]; exact h.lk, by rw [hC]; exact h.sec⟩
theorem Kept.erase {n a : Nat} {W : List UInt8} {D : Dv} (h : Kept n a W D) (i : Int) : Kept n a W (eraseD D i) := by
  refine ⟨by rw [eraseD_L]; exact h.len, by rw [eraseD_L]; exact h.lk, ?_⟩
  cases hB : eraseB D i with
  | false => rw [eraseD, hB]; exact h.sec
  | true =>
    rw [eraseD, if_pos hB]
    obtain ⟨r, hr, hC⟩ := workD_C (worn D i.toNat) (i.toNat * 64) 64 fE (gE D.fm)
    rw [hC, sec_work _ _ _ _ _ _ hr]
    · exact h.sec
    · have hne : i.toNat ≠ a := by
        intro e
        simp only [eraseB, Bool.and_eq_true, Bool.not_eq_true'] at hB
        rw [e, h.lk] at hB
        exact absurd hB.2 (by simp)
      omega
theorem Kept.program {n a : Nat} {W : List UInt8} {D : Dv} (h : Kept n a W D) (x : Int) (l : List UInt8) : Kept n a W (programD D x l) := by
  refine ⟨by rw [programD_L]; exact h.len, by rw [programD_L]; exact h.lk, ?_⟩
  cases hB : programB D x l with
  | false => rw [programD, hB]; exact h.sec
  | true =>
    rw [programD, if_pos hB]
    obtain ⟨r, hr, hC⟩ := workD_C D x.toNat 16 (fP l) (gP l D.fm)
    rw [hC, sec_work _ _ _ _ _ _ hr]
    · exact h.sec
    · simp only [programB, Bool.and_eq_true, Bool.not_eq_true', decide_eq_false_iff_not, bey] at hB
      obtain ⟨⟨⟨_, h1⟩, h2⟩, h3⟩ := hB
      have hne : x.toNat / 64 ≠ a := by
        intro e
        rw [e, h.lk] at h3
        exact absurd h3 (by simp)
      have hm : x.tmod 16 = 0 := by omega
      have hx : 0 ≤ x := by omega
      rw [Int.tmod_eq_emod_of_nonneg hx] at hm
      omega
/-- The first k sectors' bytes. -/
def catd (D : Dv) (k : Nat) : List UInt8 := (List.range k).flatMap fun (i : Nat) => dump D (i : Int)
theorem catd_succ (D : Dv) (k : Nat) : catd D (k + 1) = catd D k ++ dump D k := by simp [catd, List.range_succ]
theorem dump_len (D : Dv) (i : Int) : (dump D i).length ≤ 64 := by
  unfold dump sec
  split
  · rw [List.length_take]; omega
  · exact Nat.zero_le _
theorem catd_len (D : Dv) (k : Nat) : (catd D k).length ≤ 64 * k := by
  induction k with
  | zero => simp [catd]
  | succ k ih =>
    rw [catd_succ, List.length_append]
    have := dump_len D k
    omega
theorem catd_same {D D' : Dv} (hC : D'.C = D.C) (hL : D'.L = D.L) (k : Nat) : catd D' k = catd D k := by
  unfold catd dump
  rw [hC, hL]
theorem Kept.dump {n a : Nat} {W : List UInt8} {D : Dv} (h : Kept n a W D) (ha : a < n) : dump D a = W := by
  rw [FlaMath_dump_eq D a (by rw [h.len]; exact ha)]
  exact h.sec
/-- The device as the rounds begin. -/
theorem kept0 (n a : Nat) (l : List UInt8) (ha : a < n) (hn : n ≤ 12) : Kept n a (dump (programD (D0 n) ((a * 64 : Nat) : Int) l) a) ((programD (D0 n) ((a * 64 : Nat) : Int) l).lock a ((a + 1 : Nat) : Int)) ∧
    lockE (programD (D0 n) ((a * 64 : Nat) : Int) l).L.length a ((a + 1 : Nat) : Int) = 0 := by
  have hL : (programD (D0 n) ((a * 64 : Nat) : Int) l).L = List.replicate n false := programD_L _ _ _
  have hlen : (programD (D0 n) ((a * 64 : Nat) : Int) l).L.length = n := by rw [hL, List.length_replicate]
  have hb : ¬ ((a : Int) < 0 ∨ ((a + 1 : Nat) : Int) < a ∨ (n : Int) < ((a + 1 : Nat) : Int)) := by omega
  refine ⟨?_, by rw [lockE, hlen, if_neg hb]⟩
  rw [Dv.lock, hlen, if_neg hb, Int.toNat_natCast, Int.toNat_natCast]
  refine ⟨by show (lockF _ _ _).length = n; rw [lockF_length, hlen], ?_, ?_⟩
  · show (lockF _ _ _).getD a false = true
    rw [hL, lockF, List.getD_eq_getElem?_getD, List.getElem?_mapIdx, List.getElem?_eq_getElem (by rw [List.length_replicate]; exact ha)]
    simp
  · show sec _ a = _
    rw [FlaMath_dump_eq _ a (by rw [hlen]; exact ha)]
end Go.Proofs.Ytcehdgdgjjecmaa

/- Erases and programs of a device, one behind the other, up to the first that errs (out of area's mathematics). -/
namespace Go.Proofs.Ytcehdgdgjjecmaa
open Go.RowKit FlaMath
set_option linter.unusedVariables false

/-- An erase (of a sector), or a program (of a place, with its page). -/
abbrev Fop := Int × Option (List UInt8)
def opE (o : Fop) (D : Dv) : Int := match o.2 with | none => eraseE D o.1 | some l => programE D o.1 l
def opD (o : Fop) (D : Dv) : Dv := match o.2 with | none => eraseD D o.1 | some l => programD D o.1 l
def runE : List Fop → Dv → Int
  | [], _ => 0
  | o :: r, D => if opE o D = 0 then runE r (opD o D) else opE o D
def runD : List Fop → Dv → Dv
  | [], D => D
  | o :: r, D => if opE o D = 0 then runD r (opD o D) else opD o D
theorem run_append : ∀ (a b : List Fop) (D : Dv), runE (a ++ b) D = (if runE a D = 0 then runE b (runD a D) else runE a D) ∧ runD (a ++ b) D = (if runE a D = 0 then runD b (runD a D) else runD a D)
  | [], b, D => ⟨by simp [runE, runD], by simp [runE, runD]⟩
  | o :: r, b, D => by
    have ih := run_append r b (opD o D)
    simp only [List.cons_append, runE, runD]
    by_cases h : opE o D = 0
    · simp only [if_pos h]; exact ih
    · simp only [if_neg h]; exact ⟨trivial, trivial⟩
theorem runE_one (o : Fop) (D : Dv) : runE [o] D = opE o D := by
  by_cases h : opE o D = 0
  · simp [runE, h]
  · simp [runE, h]
theorem runD_one (o : Fop) (D : Dv) : runD [o] D = opD o D := by
  by_cases h : opE o D = 0
  · simp [runD, h]
  · simp [runD, h]
theorem run_go {a b : List Fop} {D : Dv} (h : runE a D = 0) (h2 : runE b (runD a D) = 0) : runE (a ++ b) D = 0 ∧ runD (a ++ b) D = runD b (runD a D) := by
  obtain ⟨h3, h4⟩ := run_append a b D
  rw [if_pos h] at h3 h4
  exact ⟨h3.trans h2, h4⟩
theorem run_stop {a b : List Fop} {D : Dv} (r : List Fop) (h : runE a D = 0) (h2 : runE b (runD a D) ≠ 0) : runE (a ++ b ++ r) D = runE b (runD a D) ∧ runD (a ++ b ++ r) D = runD b (runD a D) := by
  obtain ⟨h3, h4⟩ := run_append a b D
  rw [if_pos h] at h3 h4
  obtain ⟨h5, h6⟩ := run_append (a ++ b) r D
  rw [if_neg (by rw [h3]; exact h2)] at h5 h6
  exact ⟨h5.trans h3, h6.trans h4⟩
/-- Parts one behind the other. -/
def seqF (n : Nat) (f : Nat → List Fop) : List Fop := (List.range n).flatMap f
theorem seqF_zero (f : Nat → List Fop) : seqF 0 f = [] := rfl
theorem seqF_succ (n : Nat) (f : Nat → List Fop) : seqF (n + 1) f = seqF n f ++ f n := by simp [seqF, List.range_succ]
theorem seqF_split {n i : Nat} (f : Nat → List Fop) (h : i < n) : ∃ r, seqF n f = seqF i f ++ f i ++ r := by
  induction n with
  | zero => omega
  | succ n ih =>
    rw [seqF_succ]
    by_cases e : i = n
    · subst e; exact ⟨[], by simp⟩
    · obtain ⟨r, hr⟩ := ih (by omega)
      exact ⟨r ++ f n, by rw [hr]; simp⟩
theorem seqF_congr {n : Nat} {f g : Nat → List Fop} (h : ∀ i, i < n → f i = g i) : seqF n f = seqF n g := by
  induction n with
  | zero => rfl
  | succ n ih => rw [seqF_succ, seqF_succ, ih fun i hi => h i (by omega), h n (by omega)]
/-- A part further; or it ends. -/
theorem seq_go {n i : Nat} {f : Nat → List Fop} {D : Dv} (h : runE (seqF i f) D = 0) (h2 : runE (f i) (runD (seqF i f) D) = 0) : runE (seqF (i + 1) f) D = 0 ∧ runD (seqF (i + 1) f) D = runD (f i) (runD (seqF i f) D) := by
  rw [seqF_succ]; exact run_go h h2
theorem seq_stop {n i : Nat} {f : Nat → List Fop} {D : Dv} (hi : i < n) (h : runE (seqF i f) D = 0) (h2 : runE (f i) (runD (seqF i f) D) ≠ 0) : runE (seqF n f) D = runE (f i) (runD (seqF i f) D) ∧ runD (seqF n f) D = runD (f i) (runD (seqF i f) D) := by
  obtain ⟨r, hr⟩ := seqF_split f hi
  rw [hr]; exact run_stop r h h2

theorem runE_other {o : List Fop} {D : Dv} : (runD o D).L = D.L := by
  induction o generalizing D with
  | nil => rfl
  | cons a r ih =>
    have h : (opD a D).L = D.L := by
      unfold opD
      split
      · exact eraseD_L D _
      · exact programD_L D _ _
    unfold runD
    split
    · rw [ih, h]
    · exact h

theorem Dev.below {w w' : World} {s : Sh} {D : Dv} {B : Nat} (h : Dev w s D) (hb : Below B w w') (hs : ∀ k ∈ s.S, k < B) : Dev w' s D :=
  ⟨h.row.below hb (hs _ (by simp [Sh.S])), h.c.below hb (hs _ (by simp [Sh.S])), h.l.below hb (hs _ (by simp [Sh.S])), h.e.below hb (hs _ (by simp [Sh.S])), h.ne, h.room, h.cap, h.ok⟩
theorem Onl.belowB {S : List Nat} {w wr w' : World} (h : Onl S w wr) (k : Below w.heap.size wr w') : Onl S w w' :=
  ⟨k.os.trans h.1, k.tape.trans h.2.1, k.output.trans h.2.2.1, Nat.le_trans h.size k.size, fun j hj hs => (k.block j hj).trans (h.2.2.2.2 j hj hs)⟩
/-- A device that is up, and whose fuse isn't lit. -/
structure Up (D : Dv) : Prop where
  dn : D.dn = false
  lit : D.lit = false
  ok : D.Ok
theorem Up.burnB {D : Dv} (h : Up D) : burnB D = false := by unfold Go.Proofs.Ytcehdgdgjjecmaa.burnB; rw [h.lit]; rfl
theorem Up.burned {D : Dv} (h : Up D) : burned D = D := by unfold Go.Proofs.Ytcehdgdgjjecmaa.burned; rw [h.lit]; rfl
theorem area_and255 (x : UInt8) : (255 : UInt8) &&& x = x := by
  refine UInt8.toNat_inj.1 ?_
  rw [UInt8.toNat_and]
  show 255 &&& x.toNat = x.toNat
  have h := Nat.and_two_pow_sub_one_eq_mod x.toNat 8
  have h2 := x.toNat_lt
  rw [Nat.and_comm]
  show x.toNat &&& (2 ^ 8 - 1) = x.toNat
  rw [h]
  exact Nat.mod_eq_of_lt h2
theorem workD_up {D : Dv} (h : Up D) (o n : Nat) (f g : Nat → UInt8 → UInt8) : workD D o n f g = { D with ops := wrap64 (D.ops + 1), C := prog D.C o n f } := by
  unfold workD
  rw [h.burnB, h.burned]
  have e : FlaMath.work D.C o n (if false = true then reach D.fb n else n) f g = prog D.C o n f := by
    rw [if_neg (by decide)]
    unfold FlaMath.work
    rw [if_neg (Nat.lt_irrefl n)]
  rw [e]
  have := h.dn
  cases D
  simp_all
end Go.Proofs.Ytcehdgdgjjecmaa

/- What a program or an erase leaves of a device on which nothing is locked (mathematics). -/
namespace Go.Proofs.Ytcehdgdgjjecmaa
open Go.RowKit FlaMath
set_option linter.unusedVariables false

theorem fy_prog_at (C : List UInt8) (o n : Nat) (f : Nat → UInt8 → UInt8) (i : Nat) : (prog C o n f)[i]? = C[i]?.map fun c => if o ≤ i ∧ i < o + n then f (i - o) c else c := by
  unfold prog
  rw [List.getElem?_mapIdx]
theorem fy_work_at (C : List UInt8) (o n r : Nat) (f g : Nat → UInt8 → UInt8) (i : Nat) : (FlaMath.work C o n r f g)[i]? = C[i]?.map fun c => if o ≤ i ∧ i < o + r then f (i - o) c else if i = o + r ∧ r < n then g r c else c := by
  by_cases h : i < C.length
  · rw [List.getElem?_eq_getElem h, List.getElem?_eq_getElem (by rw [work_length]; exact h), work_get _ _ _ _ _ _ _ h]
    rfl
  · rw [List.getElem?_eq_none (l := FlaMath.work C o n r f g) (by rw [work_length]; omega), List.getElem?_eq_none (l := C) (by omega)]
    rfl
theorem fy_work_all (C : List UInt8) (o n : Nat) (f g : Nat → UInt8 → UInt8) : FlaMath.work C o n n f g = prog C o n f := by unfold FlaMath.work; rw [if_neg (Nat.lt_irrefl n)]
/-- A device that is up, on which nothing is locked. -/
structure Fine (D : Dv) : Prop where
  dn : D.dn = false
  lk : ∀ i, D.L.getD i false = false
  len : D.C.length = 64 * D.L.length
/-- What an operation leaves: it is done; or it is torn, and the device is down. -/
structure FDone (D D' : Dv) (C : List UInt8) : Prop where
  dn : D'.dn = false
  c : D'.C = C
  l : D'.L = D.L
  lit : D.lit = false → D'.lit = false
structure FTore (D D' : Dv) (o n : Nat) (f g : Nat → UInt8 → UInt8) : Prop where
  dn : D'.dn = true
  l : D'.L = D.L
  lit : D.lit = true
  c : ∃ r, r ≤ n ∧ D'.C = FlaMath.work D.C o n r f g
theorem FDone.fine {D D' : Dv} {C : List UInt8} (h : FDone D D' C) (hf : Fine D) (hc : C.length = D.C.length) : Fine D' :=
  ⟨h.dn, by rw [h.l]; exact hf.lk, by rw [h.c, h.l, hc]; exact hf.len⟩
theorem fy_burned_lit {D : Dv} (h : D.lit = false) : (burned D).lit = false := by unfold burned; rw [h]; exact h
theorem fy_done (D : Dv) (o n : Nat) (f g : Nat → UInt8 → UInt8) (hb : burnB D = false) : FDone D (workD D o n f g) (prog D.C o n f) := by
  refine ⟨?_, ?_, workD_L _ _ _ _ _, fun h => ?_⟩
  · exact hb
  · show FlaMath.work D.C o n (if burnB D then reach D.fb n else n) f g = _
    rw [hb, if_neg (by decide), fy_work_all]
  · exact fy_burned_lit h
theorem fy_torn (D : Dv) (o n : Nat) (f g : Nat → UInt8 → UInt8) (hb : burnB D = true) : FTore D (workD D o n f g) o n f g := by
  refine ⟨hb, workD_L _ _ _ _ _, ?_, reach D.fb n, reach_le _ _, ?_⟩
  · unfold burnB at hb; cases h : D.lit with
    | true => rfl
    | false => rw [h] at hb; cases hb
  · show FlaMath.work D.C o n (if burnB D then reach D.fb n else n) f g = _
    rw [hb, if_pos rfl]
theorem fy_program {D : Dv} (h : Fine D) (x : Nat) (P : List UInt8) (hP : P.length = 16) (hx : x + 16 ≤ D.C.length) (hm : x % 16 = 0) :
    (programE D (x : Int) P = 0 ∧ FDone D (programD D (x : Int) P) (prog D.C x 16 (fP P))) ∨ (programE D (x : Int) P = 5 ∧ FTore D (programD D (x : Int) P) x 16 (fP P) (gP P D.fm)) := by
  have e1 : (decide ((x : Int).tmod 16 ≠ 0 ∨ P.length ≠ 16)) = false := by
    rw [decide_eq_false_iff_not]
    intro hc
    rcases hc with hc | hc
    · apply hc; rw [Int.tmod_eq_emod_of_nonneg (by omega)]; omega
    · exact hc hP
  have e2 : bey D.C.length (x : Int) 16 = false := by unfold bey; rw [decide_eq_false_iff_not]; omega
  have hB : programB D (x : Int) P = true := by
    unfold programB
    rw [h.dn, e1, e2, Int.toNat_natCast, h.lk]
    rfl
  have hE : programE D (x : Int) P = idl (burnB D) := by
    unfold programE
    have e1' : ¬ ((x : Int).tmod 16 ≠ 0 ∨ P.length ≠ 16) := of_decide_eq_false e1
    simp only [h.dn, Bool.false_eq_true, if_false, if_neg e1', e2, Int.toNat_natCast, h.lk]
  have hD : programD D (x : Int) P = workD D x 16 (fP P) (gP P D.fm) := by
    unfold programD
    rw [if_pos hB, Int.toNat_natCast]
  rw [hE, hD]
  cases hb : burnB D with
  | false => exact .inl ⟨rfl, fy_done D x 16 _ _ hb⟩
  | true => exact .inr ⟨rfl, fy_torn D x 16 _ _ hb⟩
theorem fy_unlit {D D' : Dv} {o n : Nat} {f g : Nat → UInt8 → UInt8} (h : FTore D D' o n f g) : D.lit ≠ false := fun e => by rw [h.lit] at e; cases e
end Go.Proofs.Ytcehdgdgjjecmaa

/- A tally's sectors: the first k bits cleared (mathematics). -/
namespace Go.Proofs.Ytcehdgdgjjecmaa
open Go.RowKit FlaMath
set_option linter.unusedVariables false

/-- A byte of which the first a bits are cleared. -/
def sh (a : Nat) : UInt8 := UInt8.ofNat (255 >>> a)
theorem sh_big {a : Nat} (h : 8 ≤ a) : sh a = 0 := by
  unfold sh
  have e : 255 >>> a = 0 := by
    rw [Nat.shiftRight_eq_div_pow]
    apply Nat.div_eq_of_lt
    have : 2 ^ 8 ≤ 2 ^ a := Nat.pow_le_pow_right (by omega) h
    omega
  rw [e]; rfl
theorem sh_and8 : ((List.range 9).all fun a => (List.range 9).all fun b => decide (b < a) || decide (sh a &&& sh b = sh b)) = true := by kernel_rfl
theorem sh_and {a b : Nat} (h : a ≤ b) : sh a &&& sh b = sh b := by
  by_cases hb : 8 ≤ b
  · rw [sh_big hb]
    exact UInt8.and_zero
  · have := List.all_eq_true.1 (List.all_eq_true.1 sh_and8 a (List.mem_range.2 (by omega))) b (List.mem_range.2 (by omega))
    simp only [Bool.or_eq_true, decide_eq_true_eq] at this
    rcases this with h1 | h1
    · omega
    · exact h1
theorem sh_torn8 : ((List.range 8).all fun a => (List.range 256).all fun m => decide (sh a &&& (sh (a + 1) ||| UInt8.ofNat m) = sh a) || decide (sh a &&& (sh (a + 1) ||| UInt8.ofNat m) = sh (a + 1))) = true := by kernel_rfl
theorem sh_same8 : ((List.range 9).all fun a => (List.range 256).all fun m => decide (sh a &&& (sh a ||| UInt8.ofNat m) = sh a)) = true := by kernel_rfl
theorem ofNat_toNat8 (m : UInt8) : UInt8.ofNat m.toNat = m := UInt8.toNat_inj.1 (by rw [UInt8.toNat_ofNat']; exact Nat.mod_eq_of_lt m.toNat_lt)
theorem sh_same (a : Nat) (m : UInt8) : sh a &&& (sh a ||| m) = sh a := by
  by_cases ha : 8 ≤ a
  · rw [sh_big ha]
    exact UInt8.zero_and
  · have := List.all_eq_true.1 (List.all_eq_true.1 sh_same8 a (List.mem_range.2 (by omega))) m.toNat (List.mem_range.2 m.toNat_lt)
    rw [decide_eq_true_eq, ofNat_toNat8] at this
    exact this
theorem sh_torn (a : Nat) (m : UInt8) : sh a &&& (sh (a + 1) ||| m) = sh a ∨ sh a &&& (sh (a + 1) ||| m) = sh (a + 1) := by
  by_cases ha : 8 ≤ a
  · rw [sh_big ha]
    exact .inl UInt8.zero_and
  · have := List.all_eq_true.1 (List.all_eq_true.1 sh_torn8 a (List.mem_range.2 (by omega))) m.toNat (List.mem_range.2 m.toNat_lt)
    simp only [Bool.or_eq_true, decide_eq_true_eq, ofNat_toNat8] at this
    exact this
/-- Byte i of a sector of which the first k bits are cleared. -/
def clb (i k : Nat) : UInt8 := sh (k - 8 * i)
def clr (k : Nat) : List UInt8 := (List.range 64).map fun i => clb i k
/-- A page of which the first n bits are cleared. -/
def tpg (n : Nat) : List UInt8 := (List.range 16).map fun i => clb i n
theorem clr_length (k : Nat) : (clr k).length = 64 := by simp [clr]
theorem tpg_length (k : Nat) : (tpg k).length = 16 := by simp [tpg]
theorem tpg_get (n r : Nat) (h : r < 16) : (tpg n).getD r 0 = clb r n := by simp [tpg, List.getD_eq_getElem?_getD, h]
theorem clb_page {m p r : Nat} : clb r (m - 128 * p) = clb (16 * p + r) m := by unfold clb; congr 1; omega
theorem clb_and {i k m : Nat} (h : k ≤ m) : clb i k &&& clb i m = clb i m := sh_and (by omega)
theorem clb_torn {i k m : Nat} (x : UInt8) (h : k ≤ m) (h2 : m ≤ k + 1) : clb i k &&& (clb i m ||| x) = clb i k ∨ clb i k &&& (clb i m ||| x) = clb i m := by
  unfold clb
  by_cases e : m - 8 * i = k - 8 * i
  · rw [e]; exact .inl (sh_same _ _)
  · have : m - 8 * i = k - 8 * i + 1 := by omega
    rw [this]; exact sh_torn _ _
theorem clb_same {i k m : Nat} (h : k ≤ m) (h2 : m ≤ k + 1) (hi : k = m ∨ i ≠ k / 8) : clb i k = clb i m := by
  unfold clb
  by_cases e0 : k = m
  · rw [e0]
  have hi : i ≠ k / 8 := hi.resolve_left e0
  by_cases hlt : i < k / 8
  · rw [sh_big (by omega), sh_big (by omega)]
  · congr 1; omega
/-- Sector T has its first k bits cleared, and no others. -/
def SecIs (C : List UInt8) (T k : Nat) : Prop := ∀ i, i < 64 → C[T * 64 + i]? = some (clb i k)
theorem SecIs.sec {C : List UInt8} {T k : Nat} (h : SecIs C T k) : Go.Proofs.Ytcehdgdgjjecmaa.sec C T = clr k := by
  unfold Go.Proofs.Ytcehdgdgjjecmaa.sec clr
  apply List.ext_getElem?
  intro i
  rw [List.getElem?_take, List.getElem?_map]
  by_cases hi : i < 64
  · rw [if_pos hi, List.getElem?_drop, h i hi, List.getElem?_range hi]
    rfl
  · rw [if_neg hi, List.getElem?_eq_none (l := List.range 64) (by simp; omega)]
    rfl
theorem SecIs.other {C : List UInt8} {T k o : Nat} {r : Nat} {f g : Nat → UInt8 → UInt8} (h : SecIs C T k) (hr : r ≤ 16) (ho : o + 16 ≤ T * 64 ∨ T * 64 + 64 ≤ o) : SecIs (FlaMath.work C o 16 r f g) T k := fun i hi => by
  rw [fy_work_at, h i hi]
  rw [Option.map_some]
  rw [if_neg (by omega), if_neg (by omega)]
/-- The page with the last of m bits is programmed. -/
theorem SecIs.marked {C : List UInt8} {T k m p : Nat} (h : SecIs C T k) (hk : k ≤ m) (h2 : m ≤ k + 1) (hp : 128 * p < m) (hp2 : m ≤ 128 * p + 128) : SecIs (prog C (T * 64 + 16 * p) 16 (fP (tpg (m - 128 * p)))) T m := fun i hi => by
  rw [fy_prog_at, h i hi]
  rw [Option.map_some]
  by_cases hin : T * 64 + 16 * p ≤ T * 64 + i ∧ T * 64 + i < T * 64 + 16 * p + 16
  · rw [if_pos hin]
    unfold fP
    rw [tpg_get _ _ (by omega), clb_page, show 16 * p + (T * 64 + i - (T * 64 + 16 * p)) = i by omega, clb_and hk]
  · rw [if_neg hin, clb_same hk h2 (by omega)]
/-- .. or torn. -/
theorem SecIs.tore {C : List UInt8} {T k m p r : Nat} {x : UInt8} (h : SecIs C T k) (hk : k ≤ m) (h2 : m ≤ k + 1) (hr : r ≤ 16) : SecIs (FlaMath.work C (T * 64 + 16 * p) 16 r (fP (tpg (m - 128 * p))) (gP (tpg (m - 128 * p)) x)) T k ∨ SecIs (FlaMath.work C (T * 64 + 16 * p) 16 r (fP (tpg (m - 128 * p))) (gP (tpg (m - 128 * p)) x)) T m := by
  have hz : ∀ i, i < 64 → ∃ y, (FlaMath.work C (T * 64 + 16 * p) 16 r (fP (tpg (m - 128 * p))) (gP (tpg (m - 128 * p)) x))[T * 64 + i]? = some y ∧ (y = clb i k ∨ y = clb i m) := fun i hi => by
    rw [fy_work_at, h i hi]
    rw [Option.map_some]
    refine ⟨_, rfl, ?_⟩
    by_cases hin : T * 64 + 16 * p ≤ T * 64 + i ∧ T * 64 + i < T * 64 + 16 * p + r
    · rw [if_pos hin]
      unfold fP
      rw [tpg_get _ _ (by omega), clb_page, show 16 * p + (T * 64 + i - (T * 64 + 16 * p)) = i by omega, clb_and hk]
      exact .inr rfl
    · rw [if_neg hin]
      by_cases hx : T * 64 + i = T * 64 + 16 * p + r ∧ r < 16
      · rw [if_pos hx]
        unfold gP
        rw [tpg_get _ _ hx.2, clb_page, show 16 * p + r = i by omega]
        exact clb_torn x hk h2
      · rw [if_neg hx]; exact .inl rfl
  by_cases h0 : k / 8 < 64
  · obtain ⟨y, hy, hy2⟩ := hz (k / 8) h0
    rcases hy2 with rfl | rfl
    · refine .inl fun i hi => ?_
      by_cases e : i = k / 8
      · subst e; exact hy
      · obtain ⟨z, hz1, hz2⟩ := hz i hi
        rw [hz1]
        rcases hz2 with rfl | rfl
        · rfl
        · rw [clb_same hk h2 (.inr e)]
    · refine .inr fun i hi => ?_
      by_cases e : i = k / 8
      · subst e; exact hy
      · obtain ⟨z, hz1, hz2⟩ := hz i hi
        rw [hz1]
        rcases hz2 with rfl | rfl
        · rw [clb_same hk h2 (.inr e)]
        · rfl
  · refine .inl fun i hi => ?_
    obtain ⟨z, hz1, hz2⟩ := hz i hi
    rw [hz1]
    rcases hz2 with rfl | rfl
    · rfl
    · rw [clb_same hk h2 (by omega)]
/-- A blank sector. -/
theorem SecIs.zero {C : List UInt8} {T : Nat} (h : ∀ i, i < 64 → C[T * 64 + i]? = some 255) : SecIs C T 0 := fun i hi => by rw [h i hi]; unfold clb; rw [Nat.zero_sub]; rfl

/-! Both sectors. -/
/-- What a device holds of a tally in the sectors T, T + 1: counts of a, b. -/
structure TSt (D : Dv) (T a b : Nat) : Prop where
  lk : ∀ i, D.L.getD i false = false
  len : D.C.length = 64 * D.L.length
  fit : T + 2 ≤ D.L.length
  a : SecIs D.C T a
  b : SecIs D.C (T + 1) b
theorem TSt.fine {D : Dv} {T a b : Nat} (h : TSt D T a b) (hd : D.dn = false) : Fine D := ⟨hd, h.lk, h.len⟩
theorem TSt.on {D : Dv} {T a b : Nat} (h : TSt D T a b) : TSt D.on T a b := ⟨h.lk, h.len, h.fit, h.a, h.b⟩
theorem TSt.fuse {D : Dv} {T a b : Nat} (h : TSt D T a b) (n fb : Int) (fm : UInt8) : TSt (D.fuse n fb fm) T a b := ⟨h.lk, h.len, h.fit, h.a, h.b⟩
/-- Where the page with the last of m bits lies in sector S. -/
def mkAt (S m : Nat) : Nat := S * 64 + 16 * ((m - 1) / 128)
def mkP (m : Nat) : List UInt8 := tpg (m - 128 * ((m - 1) / 128))
def mkE (D : Dv) (T m : Nat) : Int := if programE D (mkAt T m : Int) (mkP m) = 0 then programE (programD D (mkAt T m : Int) (mkP m)) (mkAt (T + 1) m : Int) (mkP m) else programE D (mkAt T m : Int) (mkP m)
def mkD (D : Dv) (T m : Nat) : Dv := if programE D (mkAt T m : Int) (mkP m) = 0 then programD (programD D (mkAt T m : Int) (mkP m)) (mkAt (T + 1) m : Int) (mkP m) else programD D (mkAt T m : Int) (mkP m)
/-- What marking both leaves, torn or not. -/
theorem mk_any {D : Dv} {T a b m : Nat} (h : TSt D T a b) (hd : D.dn = false) (h1 : 1 ≤ m) (hm : m ≤ 512) (ha : a ≤ m) (ha2 : m ≤ a + 1) (hb : b ≤ m) (hb2 : m ≤ b + 1) :
    ∃ a' b', (a' = a ∨ a' = m) ∧ (b' = b ∨ b' = m) ∧ TSt (mkD D T m) T a' b' ∧ (mkE D T m = 0 → a' = m ∧ b' = m ∧ (mkD D T m).dn = false ∧ (D.lit = false → (mkD D T m).lit = false)) ∧ (D.lit = false → mkE D T m = 0) ∧ (mkD D T m).L.length = D.L.length := by
  have hF := h.fine hd
  have hlen := h.len
  have hfit := h.fit
  obtain ⟨p, hp⟩ : ∃ p, (m - 1) / 128 = p := ⟨_, rfl⟩
  have hp1 : 128 * p < m := by omega
  have hp2 : m ≤ 128 * p + 128 := by omega
  have hx : mkAt T m + 16 ≤ D.C.length := by unfold mkAt; omega
  have hx2 : mkAt (T + 1) m + 16 ≤ D.C.length := by unfold mkAt; omega
  have hPl : (mkP m).length = 16 := tpg_length _
  have e1 : mkAt T m = T * 64 + 16 * p := by unfold mkAt; rw [hp]
  have e2 : mkAt (T + 1) m = (T + 1) * 64 + 16 * p := by unfold mkAt; rw [hp]
  have e3 : mkP m = tpg (m - 128 * p) := by unfold mkP; rw [hp]
  rcases fy_program hF (mkAt T m) (mkP m) hPl hx (by rw [e1]; omega) with ⟨g1, g2⟩ | ⟨g1, g2⟩
  · have hl2 : (programD D (mkAt T m : Int) (mkP m)).C.length = D.C.length := by rw [g2.c, prog_length]
    have hF2 := g2.fine hF (by rw [prog_length])
    have sa : SecIs (programD D (mkAt T m : Int) (mkP m)).C T m := by rw [g2.c, e1, e3]; exact h.a.marked ha ha2 hp1 hp2
    have sb : SecIs (programD D (mkAt T m : Int) (mkP m)).C (T + 1) b := by rw [g2.c, e1, ← fy_work_all _ _ _ _ fE]; exact h.b.other (by omega) (by omega)
    have hE : mkE D T m = programE (programD D (mkAt T m : Int) (mkP m)) (mkAt (T + 1) m : Int) (mkP m) := if_pos g1
    have hD : mkD D T m = programD (programD D (mkAt T m : Int) (mkP m)) (mkAt (T + 1) m : Int) (mkP m) := if_pos g1
    rw [hE, hD]
    generalize programD D (mkAt T m : Int) (mkP m) = D2 at *
    rcases fy_program hF2 (mkAt (T + 1) m) (mkP m) hPl (by rw [hl2]; exact hx2) (by rw [e2]; omega) with ⟨k1, k2⟩ | ⟨k1, k2⟩
    · refine ⟨m, m, .inr rfl, .inr rfl, ⟨by rw [k2.l, g2.l]; exact h.lk, by rw [k2.c, prog_length, hl2, k2.l, g2.l]; exact hlen, by rw [k2.l, g2.l]; exact hfit, ?_, ?_⟩, fun _ => ⟨rfl, rfl, k2.dn, fun hl => k2.lit (g2.lit hl)⟩, fun _ => k1, by rw [k2.l, g2.l]⟩
      · rw [k2.c, e2, ← fy_work_all _ _ _ _ fE]; exact sa.other (by omega) (by omega)
      · rw [k2.c, e2, e3]; exact sb.marked hb hb2 hp1 hp2
    · obtain ⟨r, hr, hc⟩ := k2.c
      have sa2 : SecIs (programD D2 (mkAt (T + 1) m : Int) (mkP m)).C T m := by rw [hc, e2]; exact sa.other hr (by omega)
      have hlk : ∀ i, (programD D2 (mkAt (T + 1) m : Int) (mkP m)).L.getD i false = false := by rw [k2.l, g2.l]; exact h.lk
      have hlen2 : (programD D2 (mkAt (T + 1) m : Int) (mkP m)).C.length = 64 * (programD D2 (mkAt (T + 1) m : Int) (mkP m)).L.length := by rw [hc, work_length, hl2, k2.l, g2.l]; exact hlen
      have hfit2 : T + 2 ≤ (programD D2 (mkAt (T + 1) m : Int) (mkP m)).L.length := by rw [k2.l, g2.l]; exact hfit
      have hno : programE D2 (mkAt (T + 1) m : Int) (mkP m) = 0 → False := fun e => by rw [k1] at e; cases e
      have hlt : D.lit = false → False := fun e => fy_unlit k2 (g2.lit e)
      have hs := sb.tore (T := T + 1) (p := p) (r := r) (x := D2.fm) hb hb2 hr
      rw [← e2, ← e3, ← hc] at hs
      rcases hs with hs | hs
      · exact ⟨m, b, .inr rfl, .inl rfl, ⟨hlk, hlen2, hfit2, sa2, hs⟩, fun e => (hno e).elim, fun e => (hlt e).elim, by rw [k2.l, g2.l]⟩
      · exact ⟨m, m, .inr rfl, .inr rfl, ⟨hlk, hlen2, hfit2, sa2, hs⟩, fun e => (hno e).elim, fun e => (hlt e).elim, by rw [k2.l, g2.l]⟩
  · have hn0 : ¬ programE D (mkAt T m : Int) (mkP m) = 0 := by rw [g1]; decide
    have hE : mkE D T m = programE D (mkAt T m : Int) (mkP m) := if_neg hn0
    have hD : mkD D T m = programD D (mkAt T m : Int) (mkP m) := if_neg hn0
    rw [hE, hD]
    obtain ⟨r, hr, hc⟩ := g2.c
    have sb : SecIs (programD D (mkAt T m : Int) (mkP m)).C (T + 1) b := by rw [hc, e1]; exact h.b.other hr (by omega)
    have hlt : D.lit = false → False := fun e => fy_unlit g2 e
    have hs := h.a.tore (T := T) (p := p) (r := r) (x := D.fm) ha ha2 hr
    rw [← e1, ← e3, ← hc] at hs
    rcases hs with hs | hs
    · exact ⟨a, b, .inl rfl, .inl rfl, ⟨by rw [g2.l]; exact h.lk, by rw [hc, work_length, g2.l]; exact hlen, by rw [g2.l]; exact hfit, hs, sb⟩, fun e => (hn0 e).elim, fun e => (hlt e).elim, by rw [g2.l]⟩
    · exact ⟨m, b, .inr rfl, .inl rfl, ⟨by rw [g2.l]; exact h.lk, by rw [hc, work_length, g2.l]; exact hlen, by rw [g2.l]; exact hfit, hs, sb⟩, fun e => (hn0 e).elim, fun e => (hlt e).elim, by rw [g2.l]⟩
end Go.Proofs.Ytcehdgdgjjecmaa

/- A device, however often it was asked: what its operations leave. -/
namespace Go.Proofs.Ytcehdgdgjjecmaa
open Go.RowKit FlaMath
set_option linter.unusedVariables false
set_option maxRecDepth 100000

/-- A device, however often it was asked. -/
def Dvx (w : World) (s : Sh) (D : Dv) : Prop := ∃ o, Dev w s { D with ops := o }
theorem Dev.dvx {w : World} {s : Sh} {D : Dv} (h : Dev w s D) : Dvx w s D := ⟨D.ops, h⟩
theorem Dvx.step {w w' : World} {s : Sh} {D : Dv} (h : Dvx w s D) (hb : Below w.heap.size w w') : Dvx w' s D := let ⟨o, ho⟩ := h; ⟨o, ho.step hb⟩
theorem Dvx.onl {w w' : World} {s : Sh} {D : Dv} {S : List Nat} (h : Dvx w s D) (ho : Onl S w w') (hs : ∀ k ∈ s.S, k ∉ S) : Dvx w' s D := let ⟨o, h⟩ := h; ⟨o, h.onl ho hs⟩
theorem Dvx.ok {w : World} {s : Sh} {D : Dv} (h : Dvx w s D) : D.Ok := let ⟨_, h⟩ := h; ⟨h.ok.one, h.ok.top, h.ok.cells, h.ok.worn⟩
theorem Dvx.lt {w : World} {s : Sh} {D : Dv} (h : Dvx w s D) : ∀ k ∈ s.S, k < w.heap.size := let ⟨_, h⟩ := h; h.lt
theorem burnB_ops (D : Dv) (o : Int) : burnB { D with ops := o } = burnB D := rfl
theorem workD_ops (D : Dv) (x : Int) (o n : Nat) (f g : Nat → UInt8 → UInt8) : workD { D with ops := x } o n f g = { workD D o n f g with ops := wrap64 (x + 1) } := by
  unfold workD
  rw [burned_ops, burnB_ops]
theorem opE_ops (o : Fop) (D : Dv) (x : Int) : opE o { D with ops := x } = opE o D := by
  unfold opE
  split <;> rfl
theorem opD_ops (o : Fop) (D : Dv) (x : Int) : ∃ y, opD o { D with ops := x } = { opD o D with ops := y } := by
  unfold opD
  split
  · unfold eraseD
    have e : eraseB { D with ops := x } o.1 = eraseB D o.1 := rfl
    rw [e]
    split
    · exact ⟨_, workD_ops (worn D o.1.toNat) x _ _ _ _⟩
    · exact ⟨x, rfl⟩
  · rename_i l _
    unfold programD
    have e : programB { D with ops := x } o.1 l = programB D o.1 l := rfl
    rw [e]
    split
    · exact ⟨_, workD_ops D x _ _ _ _⟩
    · exact ⟨x, rfl⟩
theorem dvx_erase (s : Sh) (D : Dv) (i : Int) (w : World) (h : Dvx w s D) :
    Calls Try.prog 30 #[.pointer (some ⟨s.b, 0, none⟩), .int .i64 i] w fun e w' => e = .returned (.int .i64 (eraseE D i)) ∧ Dvx w' s (eraseD D i) ∧ Onl s.S w w' := by
  obtain ⟨x, h⟩ := h
  refine (fla_erase_any s _ i w h).mono ?_
  rintro e w' ⟨rfl, h1, h2⟩
  obtain ⟨y, hy⟩ := opD_ops (i, none) D x
  refine ⟨by rw [show eraseE { D with ops := x } i = eraseE D i from rfl], ⟨y, ?_⟩, h2⟩
  have : eraseD { D with ops := x } i = { eraseD D i with ops := y } := hy
  rwa [this] at h1
theorem dvx_program (s : Sh) (D : Dv) (x : Int) (t : ByteArray) (w : World) (h : Dvx w s D) (hx : x < 9223372036854775808) (hs : t.size ≤ 140737488355328) :
    Calls Try.prog 42 #[.pointer (some ⟨s.b, 0, none⟩), .int .i64 x, .string t] w fun e w' => e = .returned (.int .i64 (programE D x t.data.toList)) ∧ Dvx w' s (programD D x t.data.toList) ∧ Onl s.S w w' := by
  obtain ⟨o, h⟩ := h
  refine (program_any s _ x t w h hx hs).mono ?_
  rintro e w' ⟨rfl, h1, h2⟩
  obtain ⟨y, hy⟩ := opD_ops (x, some t.data.toList) D o
  refine ⟨by rw [show programE { D with ops := o } x t.data.toList = programE D x t.data.toList from rfl], ⟨y, ?_⟩, h2⟩
  have : programD { D with ops := o } x t.data.toList = { programD D x t.data.toList with ops := y } := hy
  rwa [this] at h1
theorem dvx_read (s : Sh) (D : Dv) (x y : Int) (w : World) (h : Dvx w s D) (hx : x < 9223372036854775808) :
    Calls Try.prog 23 #[.pointer (some ⟨s.b, 0, none⟩), .int .i64 x, .int .i64 y] w fun e w' => e = .returned (.tuple #[.string (str (readS D x y)), .int .i64 (readE D x y)]) ∧ Dvx w' s D ∧ Onl s.S w w' := by
  obtain ⟨o, h⟩ := h
  refine (read_any s _ x y w h hx).mono ?_
  rintro e w' ⟨rfl, h1, h2⟩
  refine ⟨rfl, ?_, h2⟩
  unfold Dv.readD at h1
  split at h1
  · exact ⟨_, h1⟩
  · exact ⟨_, h1⟩

theorem Row.offD {w : World} {sh : Sh} {D : Dv} {g : Nat} {t : TypeId} {l : List Value} (h : Row w g t l) (hd : Dvx w sh D) (h1 : t ≠ 61) (h2 : t ≠ 5) (h3 : t ≠ 4) (h4 : t ≠ 3) : g ∉ sh.S := by
  intro hm
  obtain ⟨o, hd⟩ := hd
  simp only [Sh.S, List.mem_cons, List.not_mem_nil, or_false] at hm
  rcases hm with e | e | e | e
  · exact row_ne h hd.row h1 e
  · exact row_ne h hd.c h2 e
  · exact row_ne h hd.l h3 e
  · exact row_ne h hd.e h4 e
end Go.Proofs.Ytcehdgdgjjecmaa

/- A tally in memory; none, Count, alike, Even. -/
namespace Go.Proofs.Ytcehdgdgjjecmaa
open Go.RowKit FlaMath
set_option linter.unusedVariables false
set_option maxRecDepth 100000

/-- Where a tally lies, and from which sector on; what it tells. -/
structure TalD where
  t : Nat
  sh : Sh
  T : Nat
structure TV where
  a : Nat
  b : Nat
  ev : Bool
def talL (A : TalD) (V : TV) : List Value := [.pointer (some ⟨A.sh.b, 0, none⟩), .int .i64 (A.T : Int), .int .i64 (V.a : Int), .int .i64 ((A.T + 1 : Nat) : Int), .int .i64 (V.b : Int), .bool V.ev]
structure TalAt (w : World) (A : TalD) (D : Dv) (V : TV) : Prop where
  dev : Dvx w A.sh D
  row : Row w A.t 48 (talL A V)
  fit : A.T + 2 ≤ D.L.length
  va : V.a ≤ 512
  vb : V.b ≤ 512
def TalD.S (A : TalD) : List Nat := A.t :: A.sh.S
section
variable {w w' : World} {A : TalD} {D D' : Dv} {V : TV}
theorem TalAt.t_dev (h : TalAt w A D V) : A.t ∉ A.sh.S := h.row.offD h.dev (by decide) (by decide) (by decide) (by decide)
theorem TalAt.step (h : TalAt w A D V) (hb : Below w.heap.size w w') : TalAt w' A D V := ⟨h.dev.step hb, h.row.step hb, h.fit, h.va, h.vb⟩
/-- The device alone has turned. -/
theorem TalAt.go (h : TalAt w A D V) (ho : Onl A.sh.S w w') (hd : Dvx w' A.sh D') (hL : D'.L.length = D.L.length) : TalAt w' A D' V :=
  ⟨hd, h.row.onl ho h.t_dev, by rw [hL]; exact h.fit, h.va, h.vb⟩
theorem TalAt.off {S : List Nat} (h : TalAt w A D V) (ho : Onl S w w') (hs : ∀ k ∈ A.S, k ∉ S) : TalAt w' A D V :=
  ⟨h.dev.onl ho fun k hk => hs k (by simp [TalD.S, hk]), h.row.onl ho (hs _ (by simp [TalD.S])), h.fit, h.va, h.vb⟩
theorem TalAt.low (h : TalAt w A D V) : ∀ k ∈ A.S, k < w.heap.size := fun k hk => by
  simp only [TalD.S, List.mem_cons] at hk
  rcases hk with rfl | hk
  · exact h.row.lt
  · exact h.dev.lt k hk
theorem TalAt.below {N : Nat} (h : TalAt w A D V) (hb : Below N w w') (hs : ∀ k ∈ A.S, k < N) : TalAt w' A D V :=
  ⟨let ⟨o, hd⟩ := h.dev; ⟨o, hd.below hb fun k hk => hs k (by simp [TalD.S, hk])⟩, h.row.below hb (hs _ (by simp [TalD.S])), h.fit, h.va, h.vb⟩
theorem TalAt.tT (h : TalAt w A D V) : A.T + 2 ≤ 512 := by have := h.dev.ok.top; have := h.fit; omega
theorem TalAt.c0 (h : TalAt w A D V) : w.cell? ⟨A.t, 0, none⟩ = some (.pointer (some ⟨A.sh.b, 0, none⟩)) := h.row.cell 0
theorem TalAt.c2 (h : TalAt w A D V) : w.cell? ⟨A.t, 2, none⟩ = some (.int .i64 (V.a : Int)) := h.row.cell 2
theorem TalAt.c4 (h : TalAt w A D V) : w.cell? ⟨A.t, 4, none⟩ = some (.int .i64 (V.b : Int)) := h.row.cell 4
theorem TalAt.c5 (h : TalAt w A D V) : w.cell? ⟨A.t, 5, none⟩ = some (.bool V.ev) := h.row.cell 5
end

theorem tal_none_nil (w : World) : Calls Try.prog 28 #[.pointer none] w fun e w' => e = .returned (.bool true) ∧ w = w' := by
  go_enter Try.func28, Try.ntmps28
  go_wp2
  go_ret
  exact ⟨rfl, rfl⟩
theorem tal_none_any {w : World} {A : TalD} {D : Dv} {V : TV} (h : TalAt w A D V) : Calls Try.prog 28 #[.pointer (some ⟨A.t, 0, none⟩)] w fun e w' => e = .returned (.bool false) ∧ w = w' := by
  have c0 := h.c0
  clear h
  go_enter Try.func28, Try.ntmps28
  go_wp2
  go_ret
  exact ⟨rfl, rfl⟩
theorem tal_even_nil (w : World) : Calls Try.prog 15 #[.pointer none] w fun e w' => e = .returned (.bool false) ∧ w = w' := by
  go_enter Try.func15, Try.ntmps15
  go_wp2_with (go_at_call 28; (with_reducible refine (tal_none_nil w).mono ?_); rintro e _ ⟨rfl, rfl⟩)
  go_ret
  exact ⟨rfl, rfl⟩
theorem tal_even_any {w : World} {A : TalD} {D : Dv} {V : TV} (h : TalAt w A D V) : Calls Try.prog 15 #[.pointer (some ⟨A.t, 0, none⟩)] w fun e w' => e = .returned (.bool V.ev) ∧ w = w' := by
  have HN := Lib.hid (tal_none_any h)
  have c5 := h.c5
  clear h
  go_enter Try.func15, Try.ntmps15
  go_wp2_with (go_at_call 28; (with_reducible refine HN.out.mono ?_); rintro e _ ⟨rfl, rfl⟩)
  go_ret
  exact ⟨rfl, rfl⟩
theorem tal_alike_any {w : World} {t a b : Nat} (c2 : w.cell? ⟨t, 2, none⟩ = some (.int .i64 (a : Int))) (c4 : w.cell? ⟨t, 4, none⟩ = some (.int .i64 (b : Int))) : Calls Try.prog 25 #[.pointer (some ⟨t, 0, none⟩)] w fun e w' => e = .returned (.bool (decide (a = b))) ∧ Below w.heap.size w w' := by
  have hE : ((a : Int) == (b : Int)) = decide (a = b) := by
    by_cases e : a = b
    · rw [e, decide_eq_true rfl]; exact beq_self_eq_true _
    · rw [decide_eq_false e, beq_eq_false_iff_ne]; omega
  obtain ⟨z, hz⟩ : ∃ z, decide (a = b) = z := ⟨_, rfl⟩
  rw [hz] at hE ⊢
  obtain ⟨x, hx⟩ : ∃ x : Int, (a : Int) = x := ⟨_, rfl⟩
  obtain ⟨y, hy⟩ : ∃ y : Int, (b : Int) = y := ⟨_, rfl⟩
  rw [hx] at c2 hE
  rw [hy] at c4 hE
  clear hz hx hy
  go_enter Try.func25, Try.ntmps25
  go_wp2
  go_quiet (fail)
  go_wp2
  go_ret
  exact ⟨rfl, (Below.refl _ _).drewN _⟩
theorem tal_count_nil (w : World) : Calls Try.prog 12 #[.pointer none] w fun e w' => e = .returned (.int .i64 0) ∧ w = w' := by
  go_enter Try.func12, Try.ntmps12
  go_wp2_with (go_at_call 28; (with_reducible refine (tal_none_nil w).mono ?_); rintro e _ ⟨rfl, rfl⟩)
  go_ret
  exact ⟨rfl, rfl⟩
theorem tal_count_any {w : World} {A : TalD} {D : Dv} {V : TV} (h : TalAt w A D V) (m : Nat) (hm : max V.a V.b = m) : Calls Try.prog 12 #[.pointer (some ⟨A.t, 0, none⟩)] w fun e w' => e = .returned (.int .i64 (m : Int)) ∧ Below w.heap.size w w' := by
  have HN := Lib.hid (tal_none_any h)
  have c2 := h.c2
  have c4 := h.c4
  have hM : max (V.a : Int) (V.b : Int) = (m : Int) := by omega
  clear h hm
  generalize (V.a : Int) = x at *
  generalize (V.b : Int) = y at *
  generalize (m : Int) = z at *
  go_enter Try.func12, Try.ntmps12
  go_wp2_with (go_at_call 28; (with_reducible refine HN.out.mono ?_); rintro e _ ⟨rfl, rfl⟩)
  go_quiet (fail)
  go_wp2
  go_ret
  exact ⟨rfl, (Below.refl _ _).drewN _⟩
end Go.Proofs.Ytcehdgdgjjecmaa

/- The count of a sector of which the first k bits are cleared. -/
namespace Go.Proofs.Ytcehdgdgjjecmaa
open Go.RowKit FlaMath
set_option linter.unusedVariables false
set_option maxRecDepth 100000

theorem tal_lz8 : ((List.range 8).all fun j => decide (((8 : Int) - (Lib.bitLen (255 >>> j) : Int)) = (j : Int)) && decide (255 >>> j < 256) && decide (0 < 255 >>> j)) = true := by kernel_rfl
theorem tal_lz (j : Nat) (hj : j < 8) : ((8 : Int) - (Lib.bitLen (255 >>> j) : Int)) = (j : Int) ∧ 255 >>> j < 256 ∧ 0 < 255 >>> j := by
  have := List.all_eq_true.1 tal_lz8 j (List.mem_range.2 hj)
  simp only [Bool.and_eq_true, decide_eq_true_eq] at this
  exact ⟨this.1.1, this.1.2, this.2⟩
theorem clr_at (k c : Nat) (h : c < (str (clr k)).size) : (str (clr k))[c] = clb c k := by
  have : (clr k)[c]'(by rw [str_size] at h; exact h) = clb c k := by simp [clr]
  exact this
set_option maxHeartbeats 1000000 in
theorem tal_countOf_any (k : Nat) (hk : k ≤ 512) (w : World) :
    Calls Try.prog 24 #[.string (str (clr k))] w fun e w' => e = .returned (.int .i64 (k : Int)) ∧ w = w' := by
  have hsz : (str (clr k)).size = 64 := by rw [str_size, clr_length]
  have HAT : Hid (∀ c (h : c < (str (clr k)).size), (str (clr k))[c] = clb c k) := Lib.hid (clr_at k)
  generalize str (clr k) = S at *
  have HS := Lib.hid hsz
  clear hsz
  go_enter Try.func24, Try.ntmps24
  go_wp2
  go_loopw [6] (fun i wr => ∃ c : Nat, 8 * c ≤ k ∧ c ≤ 64 ∧ i = .int .i64 c ∧ wr = w) (fun i _ => 64 - (intOf i).toNat)
  case atStart => exact ⟨0, by omega, by omega, rfl, rfl⟩
  case round =>
    obtain ⟨c, hc, hc2, rfl, rfl⟩ := hrel
    have hcI : (c : Int) ≤ 64 := by omega
    by_cases h64 : c < 64
    · have hks : c < S.size := by rw [HS.out]; exact h64
      have hksI : (c : Int) < (S.size : Int) := by omega
      have hat := HAT.out c hks
      by_cases hz : 8 * c + 8 ≤ k
      · have hb : S[c] = 0 := by rw [hat]; unfold clb; exact sh_big (by omega)
        clear hat
        go_wp2
        go_roundw
        case rel => exact ⟨c + 1, by omega, by omega, by go_num, trivial⟩
        case measure => simp [intOf]; omega
      · obtain ⟨j, hj⟩ : ∃ j, k - 8 * c = j := ⟨_, rfl⟩
        obtain ⟨l1, l2, l3⟩ := tal_lz j (by omega)
        have hb : S[c].toNat = 255 >>> j := by rw [hat]; unfold clb sh; rw [hj, UInt8.toNat_ofNat']; exact Nat.mod_eq_of_lt l2
        have HL := Lib.hid (Try.bits_LeadingZeros8 ((255 >>> j : Nat) : Int) wr (by omega) (by omega))
        rw [Int.toNat_natCast, l1] at HL
        obtain ⟨v, hv⟩ : ∃ v, 255 >>> j = v := ⟨_, rfl⟩
        rw [hv] at hb HL l2 l3
        have hkk : (c : Int) * 8 + (j : Int) = (k : Int) := by omega
        have hj8 : (j : Int) < 8 := by omega
        have hv0 : ¬ v = 0 := by omega
        have hv1 : ¬ (v : Int) = 0 := by omega
        have hv2 : ((v : Int) != 0) = true := by rw [bne_iff_ne]; exact hv1
        have HKK := Lib.hid hkk
        clear hat hkk l1 l2 l3 hv hj hz hc
        go_wp2_with (go_at_call 39; (with_reducible refine HL.out.mono ?_); rintro e u1 ⟨rfl, rfl⟩)
        go_ret
        trace_state
        exact ⟨ret_int HKK.out, rfl⟩
    · have hce : c = 64 := by omega
      have hn : ¬ (c : Int) < (S.size : Int) := by have := HS.out; omega
      have HSI : Hid ((S.size : Int) * 8 = (k : Int)) := Lib.hid (by have := HS.out; omega)
      have hs2 : (S.size : Int) ≤ 64 := by have := HS.out; omega
      clear hce
      go_wp2
      go_ret
      trace_state
      exact ⟨ret_int HSI.out, rfl⟩
end Go.Proofs.Ytcehdgdgjjecmaa

/- Contracts of flash: Wear, Copy. (gen_fla_copy.py) -/
namespace Go.Proofs.Ytcehdgdgjjecmaa
open Go.RowKit FlaMath
set_option linter.unusedVariables false
set_option maxRecDepth 100000

def wearF (L : List Bool) (E : List Int) (l : List Int) : Int := l.foldl (fun (a : Int) (i : Int) => if 0 ≤ i ∧ i < L.length then wrap64 (a + E.getD i.toNat 0) else a) 0
theorem wearF_snoc (L : List Bool) (E : List Int) (l : List Int) (i : Int) : wearF L E (l ++ [i]) = if 0 ≤ i ∧ i < L.length then wrap64 (wearF L E l + E.getD i.toNat 0) else wearF L E l := by simp [wearF, List.foldl_append]
theorem fone_bool : One Try.prog 4 := One.of (by kernel_rfl)
theorem fone_int : One Try.prog 3 := One.of (by kernel_rfl)

theorem fbools_one (l : List Bool) : (fbools l).all (·.oneCell') = true := by simp [fbools, List.all_eq_true]; exact ⟨fun _ => rfl, fun _ => rfl⟩
theorem fbytes_one (l : List UInt8) : (bytes l).all (·.oneCell') = true := by simp [bytes, List.all_eq_true]; intro x _; rfl
theorem fints_one (l : List Int) : (ints l).all (·.oneCell') = true := by simp [ints, List.all_eq_true]; intro x _; rfl
theorem fla_row_lies {w : World} {g : Nat} {t : TypeId} {x z : List Value} (h : Row w g t (x ++ z)) : Lies w w.heap.size (some ⟨g, 0, none⟩) x := by
  intro _
  refine ⟨g, 0, rfl, h.lt, fun j u hj => ?_⟩
  rw [Nat.zero_add, h.cell, List.getElem?_append_left (List.getElem?_eq_some_iff.1 hj).1]
  exact hj
theorem devL_one (s : Sh) (D : Dv) : (devL s D).all (·.oneCell') = true := by simp [devL, List.all]; exact ⟨rfl, rfl, rfl, rfl, rfl, rfl, rfl, rfl, rfl⟩
theorem fits_dev : Fits Try.prog 61 9 := ⟨⟨_, Try.underlying61, rfl⟩, by kernel_rfl⟩
def dev0 : List Value := [.int .i64 0, .int .u8 0, .bool false, .int .i64 0, .slice none 0 0, .slice none 0 0, .slice none 0 0, .int .i64 0, .bool false]
theorem zero_dev : ∀ u, (zeroValue 61).run Try.prog u = .ok (.agg dev0.toArray) u := fun u => by kernel_rfl
theorem finfo_bools : (Try.prog.info? 58).map (·.size) = some 1 := by kernel_rfl
theorem finfo_ints : (Try.prog.info? 59).map (·.size) = some 1 := by kernel_rfl
end Go.Proofs.Ytcehdgdgjjecmaa

/- What a torn erase, a torn program leave: FlashTears' mathematics. -/
namespace Go.Proofs.Ytcehdgdgjjecmaa
open Go.RowKit FlaMath
set_option linter.unusedVariables false
set_option maxRecDepth 100000

/-- Where x has a bit, y has it. -/
def Sub (x y : UInt8) : Prop := ∀ i, x.toNat.testBit i = true → y.toNat.testBit i = true
theorem Sub.refl (x : UInt8) : Sub x x := fun _ h => h
theorem Sub.full (x : UInt8) : Sub x 255 := fun i h => by
  have hx : x.toNat < 2 ^ 8 := x.toNat_lt
  have hi : i < 8 := by
    rcases Nat.lt_or_ge i 8 with h' | h'
    · exact h'
    · rw [Nat.testBit_lt_two_pow (Nat.lt_of_lt_of_le hx (Nat.pow_le_pow_right (by omega) h'))] at h; cases h
  have : (255 : UInt8).toNat = 2 ^ 8 - 1 := rfl
  rw [this, Nat.testBit_two_pow_sub_one]
  exact decide_eq_true hi
theorem Sub.or (x m : UInt8) : Sub x (x ||| m) := fun i h => by rw [UInt8.toNat_or, Nat.testBit_or, h]; rfl
theorem Sub.and (x m : UInt8) : Sub (x &&& m) x := fun i h => by
  rw [UInt8.toNat_and, Nat.testBit_and, Bool.and_eq_true] at h
  exact h.1
theorem Sub.andNot {x y : UInt8} (h : Sub x y) : bits .andNot .u8 (x.toNat : Int) (y.toNat : Int) = 0 := by
  rw [u8_andNot_nat _ _ x.toNat_lt y.toNat_lt]
  have e : x.toNat &&& (255 - y.toNat) = 0 := by
    apply Nat.eq_of_testBit_eq
    intro i
    have hy : y.toNat < 2 ^ 8 := y.toNat_lt
    rw [Nat.testBit_and, show 255 - y.toNat = 2 ^ 8 - (y.toNat + 1) by omega, Nat.testBit_two_pow_sub_succ hy, Nat.zero_testBit]
    cases hx : x.toNat.testBit i with
    | false => rfl
    | true => rw [h i hx]; simp
  rw [e]; rfl
theorem sec_get (C : List UInt8) (k i : Nat) (hi : i < 64) : (sec C k).getD i 0 = C.getD (k * 64 + i) 0 := by
  rw [sec, List.getD_eq_getElem?_getD, List.getD_eq_getElem?_getD, List.getElem?_take_of_lt hi, List.getElem?_drop]
theorem work_getD (C : List UInt8) (o n r : Nat) (f g : Nat → UInt8 → UInt8) (j : Nat) (hj : j < C.length) :
    (FlaMath.work C o n r f g).getD j 0 = if o ≤ j ∧ j < o + r then f (j - o) (C.getD j 0) else if j = o + r ∧ r < n then g r (C.getD j 0) else C.getD j 0 := by
  have h1 := work_get C o n r f g j hj
  have e1 : (FlaMath.work C o n r f g).getD j 0 = (FlaMath.work C o n r f g)[j]'(by rw [work_length]; exact hj) := by
    rw [List.getD_eq_getElem?_getD, List.getElem?_eq_getElem (by rw [work_length]; exact hj)]; rfl
  have e2 : C.getD j 0 = C[j] := by rw [List.getD_eq_getElem?_getD, List.getElem?_eq_getElem hj]; rfl
  rw [e1, e2, h1]

/-- A device of three sectors that is up, and a fuse of nought laid. -/
structure Up3 (D : Dv) : Prop where
  len : D.L = List.replicate 3 false
  cel : D.C.length = 192
  up : D.dn = false
theorem rot_keeps (D : Dv) (x : Int) (l : List UInt8) : (D.rot x l).L = D.L ∧ (D.rot x l).dn = D.dn ∧ (D.rot x l).C.length = D.C.length := by
  unfold Dv.rot
  split
  · exact ⟨rfl, rfl, rotF_length _ _ _⟩
  · exact ⟨rfl, rfl, rfl⟩
theorem up3_rot (x : Int) (l : List UInt8) : Up3 ((D0 3).rot x l) := by
  obtain ⟨h1, h2, h3⟩ := rot_keeps (D0 3) x l
  exact ⟨h1, by rw [h3]; simp [D0], h2⟩
theorem fuse_burns (D : Dv) (fb : Int) (fm : UInt8) : burnB (D.fuse 0 fb fm) = true := by
  have h1 : wrap64 (0 - 1) < 0 := by unfold wrap64; omega
  have h2 : burnB (D.fuse 0 fb fm) = (decide ((0 : Int) ≤ 0) && decide (wrap64 (0 - 1) < 0)) := rfl
  rw [h2, decide_eq_true h1]; rfl
structure Tears (D D3 : Dv) (er : Bool) : Prop where
  dn : D3.dn = true
  s0 : dump D3 0 = dump D 0
  s2 : dump D3 2 = dump D 2
  sub : ∀ i, i < 64 → if er then Sub ((dump D 1).getD i 0) ((dump D3 1).getD i 0) else Sub ((dump D3 1).getD i 0) ((dump D 1).getD i 0) ∧ ((i < 16 ∨ 32 ≤ i) → (dump D 1).getD i 0 = (dump D3 1).getD i 0)
theorem dump_i (D : Dv) (k : Nat) (h : k < D.L.length) : dump D (k : Int) = sec D.C k := FlaMath_dump_eq D k h
theorem tear_erase (D : Dv) (fb : Int) (fm : UInt8) (h : Up3 D) : eraseE (D.fuse 0 fb fm) 1 = 5 ∧ Tears D (eraseD (D.fuse 0 fb fm) 1) true := by
  have hL : (D.fuse 0 fb fm).L = List.replicate 3 false := h.len
  have hdn : (D.fuse 0 fb fm).dn = false := h.up
  have hb := fuse_burns D fb fm
  have hB : eraseB (D.fuse 0 fb fm) 1 = true := by rw [eraseB, hL, hdn]; decide
  have hE : eraseE (D.fuse 0 fb fm) 1 = 5 := by rw [eraseE, hL, hdn, hb]; decide
  have hl : D.L.length = 3 := by rw [h.len]; rfl
  have hl3 : (eraseD (D.fuse 0 fb fm) 1).L.length = 3 := by rw [eraseD_L, hL]; rfl
  obtain ⟨r, hr, hC⟩ := workD_C (worn (D.fuse 0 fb fm) 1) (1 * 64) 64 fE (gE (D.fuse 0 fb fm).fm)
  have hC3 : (eraseD (D.fuse 0 fb fm) 1).C = FlaMath.work D.C (1 * 64) 64 r fE (gE fm) := by rw [eraseD, if_pos hB]; exact hC
  refine ⟨hE, ⟨?_, ?_, ?_, fun i hi => ?_⟩⟩
  · rw [eraseD, if_pos hB]; exact hb
  · have e1 := dump_i D 0 (by omega)
    have e2 := dump_i (eraseD (D.fuse 0 fb fm) 1) 0 (by omega)
    rw [hC3, sec_work _ _ _ _ _ _ hr 0 (by omega)] at e2
    exact e2.trans e1.symm
  · have e1 := dump_i D 2 (by omega)
    have e2 := dump_i (eraseD (D.fuse 0 fb fm) 1) 2 (by omega)
    rw [hC3, sec_work _ _ _ _ _ _ hr 2 (by omega)] at e2
    exact e2.trans e1.symm
  · have e1 := dump_i D 1 (by omega)
    have e2 := dump_i (eraseD (D.fuse 0 fb fm) 1) 1 (by omega)
    have e1' : dump D 1 = sec D.C 1 := e1
    have e2' : dump (eraseD (D.fuse 0 fb fm) 1) 1 = sec (eraseD (D.fuse 0 fb fm) 1).C 1 := e2
    rw [if_pos rfl, e1', e2', hC3, sec_get _ _ _ hi, sec_get _ _ _ hi, work_getD _ _ _ _ _ _ _ (by rw [h.cel]; omega)]
    split
    · exact Sub.full _
    · split
      · exact Sub.or _ _
      · exact Sub.refl _
theorem tear_program (D : Dv) (fb : Int) (fm : UInt8) (l : List UInt8) (hlen : l.length = 16) (h : Up3 D) : programE (D.fuse 0 fb fm) 80 l = 5 ∧ Tears D (programD (D.fuse 0 fb fm) 80 l) false := by
  have hL : (D.fuse 0 fb fm).L = List.replicate 3 false := h.len
  have hdn : (D.fuse 0 fb fm).dn = false := h.up
  have hcl : (D.fuse 0 fb fm).C.length = 192 := h.cel
  have hb := fuse_burns D fb fm
  have hB : programB (D.fuse 0 fb fm) 80 l = true := by rw [programB, hL, hdn, hcl, hlen]; decide
  have hE : programE (D.fuse 0 fb fm) 80 l = 5 := by rw [programE, hL, hdn, hcl, hlen, hb]; decide
  have hl : D.L.length = 3 := by rw [h.len]; rfl
  have hl3 : (programD (D.fuse 0 fb fm) 80 l).L.length = 3 := by rw [programD_L, hL]; rfl
  obtain ⟨r, hr, hC⟩ := workD_C (D.fuse 0 fb fm) 80 16 (fP l) (gP l (D.fuse 0 fb fm).fm)
  have hC3 : (programD (D.fuse 0 fb fm) 80 l).C = FlaMath.work D.C 80 16 r (fP l) (gP l fm) := by rw [programD, if_pos hB]; exact hC
  refine ⟨hE, ⟨?_, ?_, ?_, fun i hi => ?_⟩⟩
  · rw [programD, if_pos hB]; exact hb
  · have e1 := dump_i D 0 (by omega)
    have e2 := dump_i (programD (D.fuse 0 fb fm) 80 l) 0 (by omega)
    rw [hC3, sec_work _ _ _ _ _ _ hr 0 (by omega)] at e2
    exact e2.trans e1.symm
  · have e1 := dump_i D 2 (by omega)
    have e2 := dump_i (programD (D.fuse 0 fb fm) 80 l) 2 (by omega)
    rw [hC3, sec_work _ _ _ _ _ _ hr 2 (by omega)] at e2
    exact e2.trans e1.symm
  · have e1 := dump_i D 1 (by omega)
    have e2 := dump_i (programD (D.fuse 0 fb fm) 80 l) 1 (by omega)
    have e1' : dump D 1 = sec D.C 1 := e1
    have e2' : dump (programD (D.fuse 0 fb fm) 80 l) 1 = sec (programD (D.fuse 0 fb fm) 80 l).C 1 := e2
    rw [if_neg (by simp), e1', e2', hC3, sec_get _ _ _ hi, sec_get _ _ _ hi, work_getD _ _ _ _ _ _ _ (by rw [h.cel]; omega)]
    refine ⟨?_, fun ho => ?_⟩
    · split
      · exact Sub.and _ _
      · split
        · exact Sub.and _ _
        · exact Sub.refl _
    · rw [if_neg (by omega), if_neg (by omega)]
theorem dump_len64 (D : Dv) (h : D.Ok) (k : Nat) (hk : k < D.L.length) : (dump D (k : Int)).length = 64 := by
  rw [dump_i D k hk, sec, List.length_take, List.length_drop, h.cells]; omega
end Go.Proofs.Ytcehdgdgjjecmaa

/- A page of which the first n bits are cleared. -/
namespace Go.Proofs.Ytcehdgdgjjecmaa
open Go.RowKit FlaMath
set_option linter.unusedVariables false
set_option maxRecDepth 100000

theorem sh_next8 : ((List.range 8).all fun r => decide (bits .andNot .u8 ((sh r).toNat : Int) ((128 : Int) / 2 ^ r) = ((sh (r + 1)).toNat : Int))) = true := by kernel_rfl
theorem sh_next (r : Nat) (h : r < 8) : bits .andNot .u8 ((sh r).toNat : Int) ((128 : Int) / 2 ^ r) = ((sh (r + 1)).toNat : Int) := by
  have := List.all_eq_true.1 sh_next8 r (List.mem_range.2 h)
  simpa using this
theorem tpg_zero : bytes (tpg 0) = rep 16 255 := by kernel_rfl
theorem tpg_at (n i : Nat) (h : i < 16) : (tpg n)[i]'(by rw [tpg_length]; exact h) = clb i n := by simp [tpg]
theorem tpg_next (c : Nat) (h : c < 128) : (tpg c).set (c / 8) (sh (c % 8 + 1)) = tpg (c + 1) := by
  apply List.ext_getElem (by rw [List.length_set, tpg_length, tpg_length])
  intro i h1 h2
  have hi : i < 16 := by rw [tpg_length] at h2; exact h2
  rw [List.getElem_set, tpg_at _ _ hi]
  by_cases e : c / 8 = i
  · subst e
    rw [if_pos rfl, tpg_at _ _ hi]
    unfold clb
    congr 1
    omega
  · rw [if_neg e, tpg_at _ _ hi, clb_same (k := c) (m := c + 1) (by omega) (by omega) (.inr fun e2 => e e2.symm)]
set_option maxHeartbeats 1000000 in
theorem tal_page_any (n : Nat) (hn : n ≤ 128) (w : World) :
    Calls Try.prog 43 #[.int .i64 (n : Int)] w fun e w' => e = .returned (.string (str (tpg n))) ∧ Below w.heap.size w w' := by
  have HR : Hid (∀ wx q, Lies wx wx.heap.size (some ⟨q, 0, none⟩) [.int .u8 255] → Calls Try.prog 40 #[.slice (some ⟨q, 0, none⟩) 1 1, .int .i64 16] wx fun e w' => ∃ g z, e = .returned (.slice (some ⟨g, 0, none⟩) 16 16) ∧ wx.heap.size ≤ g ∧ Row w' g 5 (bytes (tpg 0) ++ z) ∧ Below wx.heap.size wx w') := Lib.hid fun wx q h => by
    refine (brepeat_any q 255 16 wx (by omega) (by omega) h).mono ?_
    rintro e w' ⟨g, tot, rfl, h1, ⟨z, h2, _⟩, h3⟩
    exact ⟨g, z, rfl, h1, by rw [tpg_zero]; exact h2, h3⟩
  have HTL : Hid (∀ c, (bytes (tpg c)).length = 16) := Lib.hid fun c => by rw [bytes_length, tpg_length]
  have hnI : (n : Int) ≤ 128 := by omega
  go_enter Try.func43, Try.ntmps43
  go_wp2_with (go_at_call 40; (with_reducible refine (HR.out _ _ (Lies.new _ _ _)).mono ?_); rintro e u1 ⟨g, z, rfl, hg, r1, b1⟩; have R1 := Lib.hid r1; have B1 : Hid (Below w.heap.size w u1) := Lib.hid ((alloc_below w _).next b1); have G1 : Hid (w.heap.size ≤ g) := Lib.hid (Nat.le_trans (alloc_below w _).size hg); clear r1 b1 hg)
  go_loopw [8] (fun i wr => ∃ c : Nat, c ≤ n ∧ i = .int .i64 c ∧ Row wr g 5 (bytes (tpg c) ++ z) ∧ Below w.heap.size w wr) (fun i _ => n - (intOf i).toNat)
  case atStart => exact ⟨0, Nat.zero_le _, rfl, R1.out, B1.out⟩
  case round =>
    clear R1 B1
    obtain ⟨c, hc, rfl, hr, hb⟩ := hrel
    have RW := Lib.hid hr
    have BW := Lib.hid hb
    clear hr hb
    by_cases hlt : c < n
    · have e1 : (c : Int) < (n : Int) := by omega
      obtain ⟨q, hq⟩ : ∃ q, c / 8 = q := ⟨_, rfl⟩
      obtain ⟨r, hr⟩ : ∃ r, c % 8 = r := ⟨_, rfl⟩
      have hq1 : (c : Int) / 8 = (q : Int) := by omega
      have hq2 : (c : Int).tdiv 8 = (q : Int) := by rw [Int.tdiv_eq_ediv_of_nonneg (by omega)]; exact hq1
      have hr1 : (c : Int) % 8 = (r : Int) := by omega
      have hr2 : (c : Int).tmod 8 = (r : Int) := by rw [Int.tmod_eq_emod_of_nonneg (by omega)]; exact hr1
      have hq16 : q < 16 := by omega
      have hr8 : r < 8 := by omega
      have hqI : (q : Int) < 16 := by omega
      have hrI : (r : Int) < 8 := by omega
      have ew1 : IntKind.i64.wrap (q : Int) = (q : Int) := by rw [IntKind.wrap_i64]; omega
      have ew2 : IntKind.i64.wrap (r : Int) = (r : Int) := by rw [IntKind.wrap_i64]; omega
      have R0 : Hid (Row wr.drew g 5 (bytes (tpg c) ++ z)) := Lib.hid RW.out.drew
      have B0 : Hid (Below w.heap.size w wr.drew) := Lib.hid (BW.out.drewN 1)
      have hx : wr.cell? ⟨g, q, none⟩ = some (.int .u8 ((sh r).toNat : Int)) := by
        rw [RW.out.cell q, List.getElem?_append_left (by rw [HTL.out]; exact hq16), bytes_get _ _ (by rw [tpg_length]; exact hq16), tpg_at _ _ hq16]
        unfold clb
        rw [← hr, ← hq, show c - 8 * (c / 8) = c % 8 by omega]
      have hor := sh_next r hr8
      obtain ⟨x, hx2⟩ : ∃ x, (sh r).toNat = x := ⟨_, rfl⟩
      rw [hx2] at hx hor
      have HQL : Hid (q < (bytes (tpg c) ++ z).length) := Lib.hid (by rw [List.length_append, HTL.out]; omega)
      have HST : Hid ((bytes (tpg c) ++ z).set q (.int .u8 ((sh (r + 1)).toNat : Int)) = bytes (tpg (c + 1)) ++ z) := Lib.hid (by
        rw [List.set_append_left _ _ (by rw [HTL.out]; exact hq16), bytes_set, ← tpg_next c (by omega), hr, hq])
      clear hx2
      go_wp2
      go_still_tail 10, (by kernel_rfl)
      change wpList _ _ _ _ _ wr.drew
      generalize wr.drew = wq at *
      go_wp2_with ((with_reducible refine R0.out.wpStore1K q 5 (.int .u8 ((sh (r + 1)).toNat : Int)) finfo_byte HQL.out (int_cells _ _) (int_one _ _) ?_ ?_); rfl; intro w1 r1 o1 s1; have R1 : Hid (Row w1 g 5 (bytes (tpg (c + 1)) ++ z)) := Lib.hid (by rw [← HST.out]; exact r1); have B1 : Hid (Below w.heap.size w w1) := Lib.hid (B0.out.trans (o1.below G1.out B0.out.size)); clear r1 o1 s1)
      go_roundw
      case rel => exact ⟨c + 1, by omega, by go_num, R1.out, B1.out⟩
      case measure => simp [intOf]; omega
    · have hce : c = n := by omega
      have hk2 : ¬ (c : Int) < (n : Int) := by omega
      rw [hce] at RW
      have hcv := conv_bytes g 0 16 (tpg n) 16 wr (tpg_length _) (fun j hj => by
        rw [Nat.zero_add, RW.out.cell j, List.getElem?_append_left (by rw [bytes_length]; exact hj), bytes_get _ _ hj])
      clear hce
      go_wp2
      go_ret
      exact ⟨rfl, BW.out⟩
end Go.Proofs.Ytcehdgdgjjecmaa

/- As region_store, where operations stand behind the one that writes, too. -/
namespace Go.Proofs.Ytcehdgdgjjecmaa
open Go.RowKit

section
variable {P : Program} {ops : Array Oper} {Q : Exit → Act → World → Prop}

theorem region_storeT {id : Nat} {a : Act} {w : World} (s k : Nat) (X : List Nat) (hkX : k ∉ X) (D : List (Nat × Nat)) (φ : Nat → Value → World → Prop) (G : World → Prop) (H : Value → World → Prop) (hm : P.follows .mixedOrders = true)
    (hsz : s < ops.size) (hord : ordX ops = true) (hcl : ((List.range ops.size).all fun j => (j == s) || X.contains j || reachB ops ops.size s j) = true)
    (hD1 : D.map (·.1) = (List.range ops.size).filter fun j => j != s) (hD2 : (D.map (·.2)).Nodup) (hD3 : (D.all fun p => (ops[p.1]?.bind (·.dst)) == some p.2) = true) (hD4 : (D.all fun p => Nat.blt p.2 a.tmps.size) = true)
    (hS : (ops[s]?.map (·.dst)) = some none) (hmono : ∀ i v w w', φ i v w → Below w.heap.size w w' → φ i v w') (hG : G w.drew)
    (step : ∀ p ∈ D, waitsB ops p.1 s = false → ∀ u w, G w → Came ops φ u w p.1 →
      wpOp P ops Q p.1 (fun a' w' => a'.defers = (puts D a u).defers ∧ φ p.1 (a'.tmps.getD p.2 undef) w' ∧ G w' ∧ Below w.heap.size w w') (puts D a u) w)
    (stepX : ∀ p ∈ D, p.1 ∈ X → ∀ u w, H (u k) w → Came ops (fun i v _ => i ≠ s → ∃ w1, φ i v w1) u w p.1 →
      wpOp P ops Q p.1 (fun a' w' => a'.defers = (puts D a u).defers ∧ (∃ w1, φ p.1 (a'.tmps.getD p.2 undef) w1) ∧ H (u k) w') (puts D a u) w)
    (stepS : ∀ u w, G w → (∀ p ∈ D, p.1 ∉ X → φ p.1 (u p.1) w) → wpOp P ops Q s (fun a' w' => a'.defers = (puts D a u).defers ∧ H (u k) w') (puts D a u) w)
    (fin : ∀ u w, H (u k) w → (∀ p ∈ D, ∃ w1, φ p.1 (u p.1) w1) → Q .normal (puts D a u) w) : (Code.region id ops true).wp P Q a w := by
  refine wp_region_any hm ?_
  have hnd1 : (D.map (·.1)).Nodup := by rw [hD1]; exact List.nodup_range.filter _
  have hmemD : ∀ i, i < ops.size → i ≠ s → ∃ d, (i, d) ∈ D := fun i hi hne => by
    have : i ∈ D.map (·.1) := by rw [hD1]; exact List.mem_filter.2 ⟨List.mem_range.2 hi, by simpa using hne⟩
    obtain ⟨⟨i', d⟩, hp, rfl⟩ := List.mem_map.1 this
    exact ⟨d, hp⟩
  have hltD : ∀ p ∈ D, p.1 < ops.size ∧ p.1 ≠ s := fun p hp => by
    have : p.1 ∈ D.map (·.1) := List.mem_map.2 ⟨p, hp, rfl⟩
    rw [hD1] at this
    have h := List.mem_filter.1 this
    exact ⟨List.mem_range.1 h.1, by simpa using h.2⟩
  have hclX : ∀ j, j < ops.size → j ≠ s → j ∉ X → reachB ops ops.size s j = true := fun j hj hne hx => by
    have := List.all_eq_true.1 hcl j (List.mem_range.2 hj)
    rw [Bool.or_eq_true, Bool.or_eq_true] at this
    rcases this with (h | h) | h
    · exact absurd (by simpa using h) hne
    · exact absurd (by simpa using h) hx
    · exact h
  have hslot : ∀ p ∈ D, ∀ o, ops[p.1]? = some o → o.dst = some p.2 ∧ p.2 < a.tmps.size := fun p hp o ho => by
    have hd3 := List.all_eq_true.1 hD3 _ hp
    have hd4 := List.all_eq_true.1 hD4 _ hp
    simp only [ho, Option.bind_some, beq_iff_eq] at hd3
    exact ⟨hd3, by simp [Nat.blt] at hd4; omega⟩
  -- behind the write
  have keyB : ∀ (fuel : Nat) (listed : Array Bool) (w : World) (u : Nat → Value) (L : List Nat), listed.size = ops.size → L.length ≤ fuel → (∀ i, listed.getD i true = false → i ∈ L) → H (u k) w →
      (∀ i, listed.getD i true = false → i ≠ s ∧ i ∈ X) → (∀ i, i < ops.size → i ≠ s → listed.getD i true = true → ∃ w1, φ i (u i) w1) → wpAny P .any ops Q fuel listed (puts D a u) w := by
    intro fuel
    induction fuel with
    | zero =>
      intro listed w u L hs hL hin hh hX hφ
      have hall : ∀ i, listed.getD i true = true := fun i => by
        cases hi : listed.getD i true with
        | true => rfl
        | false => have := hin i hi; rw [List.length_eq_zero_iff.1 (Nat.le_zero.1 hL)] at this; cases this
      refine ⟨?_, fin u w hh fun p hp => hφ p.1 (hltD p hp).1 (hltD p hp).2 (hall _)⟩
      rw [List.eq_nil_iff_forall_not_mem]
      intro i hi
      have := (mem_ready.1 hi).2.1
      rw [hall i] at this
      cases this
    | succ fuel ih =>
      intro listed w u L hs hL hin hh hX hφ
      refine ⟨fun hr => fin u w hh fun p hp => hφ p.1 (hltD p hp).1 (hltD p hp).2 (all_listedX hord hs hr _), fun i hi => ?_⟩
      obtain ⟨h1, h2, o, ho, h3⟩ := mem_ready.1 hi
      obtain ⟨his, hiX⟩ := hX i h2
      obtain ⟨d, hp⟩ := hmemD i h1 his
      have hst := stepX _ hp hiX u w hh (fun o' ho' e he hb => by
        obtain rfl := Option.some.inj (ho'.symm.trans ho)
        have hl := h3 e he hb
        have hlt : e.on < ops.size := by
          rw [← hs]
          by_cases hl2 : e.on < listed.size
          · exact hl2
          · simp [Array.getD, hl2] at hl
        intro hes
        refine hφ e.on hlt hes ?_
        rw [getD_tf (by omega)]
        exact hl)
      obtain ⟨hd3, hd5⟩ := hslot _ hp o ho
      have hst2 := wpOp_value (R := fun v w' => (∃ w1, φ i v w1) ∧ H (u k) w') ho hd3 (by rw [puts_size]; exact hd5) hst
      refine wpOp_mono ?_ hst2
      rintro a' w' ⟨v, rfl, hv, hh'⟩
      rw [puts_put u i d v D a hnd1 hD2 hp]
      have eku : upd u i v k = u k := by simp [upd]; intro e; rw [e] at hkX; exact absurd hiX hkX
      refine ih _ w' (upd u i v) (L.erase i) (by simpa using hs) ?_ ?_ (by rw [eku]; exact hh') ?_ ?_
      · rw [List.length_erase_of_mem (hin i h2)]
        omega
      · intro j hj
        have hji : j ≠ i := fun e => by
          subst e
          have : j < listed.size := by omega
          simp [Array.getD, this] at hj
        rw [getD_set_other (Ne.symm hji)] at hj
        exact (List.mem_erase_of_ne hji).2 (hin j hj)
      · intro j hj
        have hji : j ≠ i := fun e => by
          subst e
          have : j < listed.size := by omega
          simp [Array.getD, this] at hj
        rw [getD_set_other (Ne.symm hji)] at hj
        exact hX j hj
      · intro j hj hjs hl
        by_cases hji : j = i
        · subst hji
          simpa [upd] using hv
        · have e1 : upd u i v j = u j := by simp [upd, hji]
          rw [e1]
          rw [getD_set_other (Ne.symm hji)] at hl
          exact hφ j hj hjs hl
  -- ahead of the write
  have keyA : ∀ (fuel : Nat) (listed : Array Bool) (w : World) (u : Nat → Value) (L : List Nat), listed.size = ops.size → L.length ≤ fuel → (∀ i, listed.getD i true = false → i ∈ L) → listed.getD s true = false → Anc ops listed → G w →
      (∀ i, i < ops.size → i ≠ s → listed.getD i true = true → φ i (u i) w) → wpAny P .any ops Q fuel listed (puts D a u) w := by
    intro fuel
    induction fuel with
    | zero =>
      intro listed w u L hs hL hin hns _ hg hφ
      have := hin s hns
      rw [List.length_eq_zero_iff.1 (Nat.le_zero.1 hL)] at this
      cases this
    | succ fuel ih =>
      intro listed w u L hs hL hin hns hanc hg hφ
      refine ⟨fun hr => ?_, fun i hi => ?_⟩
      · have := all_listedX hord hs hr s
        rw [hns] at this
        cases this
      · obtain ⟨h1, h2, o, ho, h3⟩ := mem_ready.1 hi
        have hancn : Anc ops (listed.setIfInBounds i true) := by
          intro j o' ho' hl e he hb
          by_cases ej : i = j
          · subst ej
            obtain rfl := Option.some.inj (ho'.symm.trans ho)
            have := h3 e he hb
            by_cases e2 : i = e.on
            · rw [← e2, getD_set_self (by omega)]
            · rw [getD_set_other e2]; exact this
          · rw [getD_set_other ej] at hl
            have := hanc j o' ho' hl e he hb
            by_cases e2 : i = e.on
            · rw [← e2, getD_set_self (by omega)]
            · rw [getD_set_other e2]; exact this
        by_cases his : i = s
        · subst his
          have hall : ∀ j, j < ops.size → j ≠ i → j ∉ X → listed.getD j false = true := fun j hj hne hx =>
            reach_listed hanc ops.size i j (fun o' ho' e he hb => by
              obtain rfl := Option.some.inj (ho'.symm.trans ho)
              exact h3 e he hb) (hclX j hj hne hx)
          have hod : o.dst = none := by
            rw [ho] at hS
            simpa using hS
          refine wpOp_mono ?_ (wpOp_none ho hod (stepS u w hg fun p hp hx => hφ p.1 (hltD p hp).1 (hltD p hp).2 (by rw [getD_tf (by have := (hltD p hp).1; omega)]; exact hall p.1 (hltD p hp).1 (hltD p hp).2 hx)))
          rintro a' w' ⟨rfl, hh⟩
          refine keyB fuel _ w' u (L.erase i) (by simpa using hs) ?_ ?_ hh ?_ ?_
          · rw [List.length_erase_of_mem (hin i h2)]
            omega
          · intro j hj
            have hji : j ≠ i := fun e => by
              subst e
              have : j < listed.size := by omega
              simp [Array.getD, this] at hj
            rw [getD_set_other (Ne.symm hji)] at hj
            exact (List.mem_erase_of_ne hji).2 (hin j hj)
          · intro j hj
            have hji : j ≠ i := fun e => by
              subst e
              have : j < listed.size := by omega
              simp [Array.getD, this] at hj
            rw [getD_set_other (Ne.symm hji)] at hj
            have hjl : j < listed.size := by
              by_cases hl : j < listed.size
              · exact hl
              · simp [Array.getD, hl] at hj
            refine ⟨hji, Classical.byContradiction fun hx => ?_⟩
            have := hall j (by omega) hji hx
            rw [← getD_tf hjl, hj] at this
            cases this
          · intro j hj hjs hl
            rw [getD_set_other (Ne.symm hjs)] at hl
            exact ⟨w, hφ j hj hjs hl⟩
        · obtain ⟨d, hp⟩ := hmemD i h1 his
          have hws : waitsB ops i s = false := by
            cases hw : waitsB ops i s with
            | false => rfl
            | true =>
              unfold waitsB at hw
              rw [ho] at hw
              simp only [Option.map_some, Option.getD_some, List.any_eq_true, Bool.and_eq_true, Nat.beq_eq] at hw
              obtain ⟨e, he, hb, rfl⟩ := hw
              have hl := h3 e he hb
              rw [← getD_tf (by omega), hns] at hl
              cases hl
          have hst := step _ hp hws u w hg (fun o' ho' e he hb => by
            obtain rfl := Option.some.inj (ho'.symm.trans ho)
            have hl := h3 e he hb
            have hlt : e.on < listed.size := by
              by_cases hl2 : e.on < listed.size
              · exact hl2
              · simp [Array.getD, hl2] at hl
            have hes : e.on ≠ s := fun e2 => by
              rw [e2] at hl
              rw [← getD_tf (by omega), hns] at hl
              cases hl
            refine hφ e.on (by omega) hes ?_
            rw [getD_tf hlt]
            exact hl)
          obtain ⟨hd3, hd5⟩ := hslot _ hp o ho
          have hst2 := wpOp_value (R := fun v w' => φ i v w' ∧ G w' ∧ Below w.heap.size w w') ho hd3 (by rw [puts_size]; exact hd5) hst
          refine wpOp_mono ?_ hst2
          rintro a' w' ⟨v, rfl, hv, hg', hb'⟩
          rw [puts_put u i d v D a hnd1 hD2 hp]
          refine ih _ w' (upd u i v) (L.erase i) (by simpa using hs) ?_ ?_ (by rw [getD_set_other his]; exact hns) hancn hg' ?_
          · rw [List.length_erase_of_mem (hin i h2)]
            omega
          · intro j hj
            have hji : j ≠ i := fun e => by
              subst e
              have : j < listed.size := by omega
              simp [Array.getD, this] at hj
            rw [getD_set_other (Ne.symm hji)] at hj
            exact (List.mem_erase_of_ne hji).2 (hin j hj)
          · intro j hj hjs hl
            by_cases hji : j = i
            · subst hji
              simpa [upd] using hv
            · have e1 : upd u i v j = u j := by simp [upd, hji]
              rw [e1]
              rw [getD_set_other (Ne.symm hji)] at hl
              exact hmono j _ w w' (hφ j hj hjs hl) hb'
  have hu : ∃ u : Nat → Value, puts D a u = a := by
    refine ⟨fun i => ((D.find? fun p => p.1 == i).map fun p => a.tmps.getD p.2 undef).getD undef, puts_self _ _ _ fun p hp => ?_⟩
    have : D.find? (fun q => q.1 == p.1) = some p := by
      clear fin step stepX stepS hD2 hD1 hD3 hD4 keyA keyB hmemD hltD hslot
      induction D with
      | nil => cases hp
      | cons q D ih =>
        rw [List.map_cons, List.nodup_cons] at hnd1
        rcases List.mem_cons.1 hp with rfl | hp
        · simp
        · have hne : (q.1 == p.1) = false := by
            rw [beq_eq_false_iff_ne]
            intro e
            exact hnd1.1 (List.mem_map.2 ⟨p, hp, e.symm⟩)
          rw [List.find?_cons, hne]
          exact ih hnd1.2 hp
    simp only [this, Option.map_some, Option.getD_some]
  obtain ⟨u, hu⟩ := hu
  have hfF : ∀ i, (Array.replicate ops.size false).getD i false = false := fun i => by
    by_cases h : i < ops.size <;> simp [Array.getD, h]
  have := keyA ops.size (Array.replicate ops.size false) w.drew u (List.range ops.size) (by simp) (by simp) (fun i hi => by
    rw [List.mem_range]
    by_cases hl : i < ops.size
    · exact hl
    · simp [Array.getD, hl] at hi) (by simp [Array.getD, hsz]) (fun i o _ hl => by rw [hfF] at hl; cases hl) hG (fun i hi _ hl => by
    simp [Array.getD, hi] at hl)
  rw [hu] at this
  exact this
end

end Go.Proofs.Ytcehdgdgjjecmaa

/- Loads and stores of whole blocks by value, in a region that draws its order (for region_invX's, region_storeT's steps). -/
namespace Go.Proofs.Ytcehdgdgjjecmaa
open Go.RowKit
section
variable {P : Program} {o : Oper} {A : Act} {wx : World} {K : Act → World → Prop} {Q : Exit → Act → World → Prop} {φ : Value → World → Prop} {G : World → Prop}
theorem put_defers (a : Act) (d : Option Nat) (v : Value) : (a.put d v).defers = a.defers := by cases d <;> rfl
theorem opLoadK {g : Nat} {t : TypeId} {l : List Value} (h : Row wx g t l) (ty : TypeId) {n : Nat} (hf : Fits P ty n) (hl : l.length = n) (d : Nat) (hd : o.dst = some d) (hs : d < A.tmps.size)
    (hK : ∀ a' w', (a'.defers = A.defers ∧ φ (a'.tmps.getD d undef) w' ∧ G w' ∧ Below wx.heap.size wx w') → K a' w')
    (x : Operand) (hop : o.op = .load ty x) (hx : A.eval x = .pointer (some ⟨g, 0, none⟩)) (hφ : φ (.agg l.toArray) wx) (hG : G wx) : o.wp P A wx K Q := by
  obtain ⟨d', hu, hd'⟩ := hf.row
  refine wp_load_row ty x hop g hx t l.toArray (0, 0) d' h hu (by cases d' <;> simp_all) (by simpa [hl] using hf.size) (hK _ _ ⟨put_defers _ _ _, ?_, hG, Below.refl _ _⟩)
  rw [hd, put_get A d _ hs]
  exact hφ
theorem opLoadRK {g i : Nat} {l : List Value} (h : wx.rangeAt g i l) (ty : TypeId) {n : Nat} (hf : Fits P ty n) (hl : l.length = n) (d : Nat) (hd : o.dst = some d) (hs : d < A.tmps.size)
    (hK : ∀ a' w', (a'.defers = A.defers ∧ φ (a'.tmps.getD d undef) w' ∧ G w' ∧ Below wx.heap.size wx w') → K a' w')
    (x : Operand) (hop : o.op = .load ty x) (hx : A.eval x = .pointer (some ⟨g, i, none⟩)) (hφ : φ (.agg l.toArray) wx) (hG : G wx) : o.wp P A wx K Q := by
  obtain ⟨d', hu, hd'⟩ := hf.row
  refine wp_load_mid ty x hop g i hx l d' h hu hd' (by rw [hl]; exact hf.size) (hK _ _ ⟨put_defers _ _ _, ?_, hG, Below.refl _ _⟩)
  rw [hd, put_get A d _ hs]
  exact hφ
theorem opStoreK {H : World → Prop} {g : Nat} {t : TypeId} {l : List Value} (h : Row wx g t l) (ty : TypeId) (m : List Value) {n : Nat} (hf : Fits P ty n) (hl : l.length = n) (hm : m.length = n) (h1 : m.all (·.oneCell') = true)
    (hK : ∀ a' w', (a'.defers = A.defers ∧ H w') → K a' w')
    (x y : Operand) (hop : o.op = .store ty x y) (hx : A.eval x = .pointer (some ⟨g, 0, none⟩)) (hy : A.eval y = .agg m.toArray)
    (hH : ∀ w', Row w' g t m → Only g wx w' → w'.heap.size = wx.heap.size → H w') : o.wp P A wx K Q :=
  wp_store_row ty x y hop g m.toArray hx hy t l.toArray h (by simpa [hm] using hf.size) (by simp [hl, hm]) (by simpa using h1)
    (hK _ _ ⟨put_defers _ _ _, hH _ (h.put m) ((Only.refl g wx).putRow g _ (Or.inl rfl)) (by simp)⟩)
/-- A variable's zero value. -/
theorem opAllocK (Z : List Value) (ty : TypeId) (hz : ∀ u, (zeroValue ty).run P u = .ok (.agg Z.toArray) u) (d : Nat) (hd : o.dst = some d) (hs : d < A.tmps.size)
    (hK : ∀ a' w', (a'.defers = A.defers ∧ φ (a'.tmps.getD d undef) w' ∧ G w' ∧ Below wx.heap.size wx w') → K a' w') (hop : o.op = .alloc ty)
    (hφ : ∀ w', Row w' wx.heap.size ty Z → Below wx.heap.size wx w' → φ (.pointer (some ⟨wx.heap.size, 0, none⟩)) w' ∧ G w') : o.wp P A wx K Q := by
  have h := hz wx
  unfold Oper.wp execOp
  simp only [hop, Instr.alloc, Sem.run_bind, h, Result.andThen_ok, newVar, Value.cells]
  simp [go_sem]
  have hb : Below wx.heap.size wx (wx.alloc (.cells Z.toArray ty)) := (Below.refl _ _).alloc (Nat.le_refl _) _
  have := hφ _ (Row.new wx ty Z) hb
  refine hK _ _ ⟨put_defers _ _ _, ?_, this.2, hb⟩
  rw [hd]
  show φ ((A.put (some d) (.pointer (some ⟨wx.heap.size, 0, none⟩))).tmps.getD d undef) _
  rw [put_get A d _ hs]
  exact this.1
/-- A part of a block, by value. -/
theorem wpLoadRK {ops : Array Oper} {rest : List Oper} {o : Oper} {a : Act} {w : World} {Q : Exit → Act → World → Prop} {g i : Nat} {y : List Value} (h : w.rangeAt g i y) (ty : TypeId) {n : Nat} (hf : Fits P ty n) (hy : y.length = n)
    (ho : loadOf o a = some (ty, .pointer (some ⟨g, i, none⟩))) (k : wpList P ops Q rest (a.put o.dst (.agg y.toArray)) w) : wpList P ops Q (o :: rest) a w := by
  obtain ⟨hg, p, ho, hp⟩ := loadOf_spec ho
  obtain ⟨d, hu, hd⟩ := hf.row
  exact wpList_load_mid hg ty p ho g i hp y d h hu hd (by rw [hy]; exact hf.size) k
theorem madeCells_same (v : Value) (m n : Nat) (hm : 0 < m) : madeCells (List.replicate m v).toArray n = (List.replicate n v).toArray := by
  apply Array.ext
  · simp [madeCells]
  · intro i h1 h2
    simp [madeCells, Nat.mod_lt _ hm]
/-- make([]T, n), T of s cells that are all alike. -/
theorem wpMakeS {ops : Array Oper} {rest : List Oper} {o : Oper} {a : Act} {w : World} {Q : Exit → Act → World → Prop} (T e : TypeId) (v : Value) (s n : Nat) (hT : P.underlying T = some (.slice e)) (hz : (P.info? e).map (fun i => (i.zero, i.size)) = some (some (.agg (List.replicate s v).toArray), s)) (hb : ((P.info? e).map fun i => decide (i.bytes ≤ 4096)) = some true) (hs : 0 < s)
    (hn : n ≤ 1000000) (ho : makeOf o a = some (T, .int .i64 (n : Int), .int .i64 (n : Int)))
    (k : ∀ w', Row w' w.heap.size e (List.replicate (n * s) v) → Below w.heap.size w w' → w'.heap.size = w.heap.size + 1 → wpList P ops Q rest (a.put o.dst (.slice (some ⟨w.heap.size, 0, none⟩) n n)) w') : wpList P ops Q (o :: rest) a w := by
  obtain ⟨hg, x, y, hop, hx, hy⟩ := makeOf_spec ho
  cases hq : P.info? e with
  | none => rw [hq] at hz; cases hz
  | some i =>
    rw [hq] at hz hb
    simp only [Option.map_some, Option.some.injEq, Prod.mk.injEq] at hz
    simp only [Option.map_some, Option.some.injEq, decide_eq_true_eq] at hb
    have hbb : (i.bytes : Int) * (n : Int) ≤ 281474976710656 := by
      have h1 : i.bytes * n ≤ 4096 * 1000000 := Nat.mul_le_mul hb hn
      have h2 : ((i.bytes * n : Nat) : Int) ≤ 281474976710656 := by omega
      rwa [Int.natCast_mul] at h2
    have hr := run_make (P := P) w T e i _ hT hq hz.1 .i64 .i64 (n : Int) (n : Int) (by omega) (by omega) hbb (by omega)
    rw [Int.toNat_natCast, hz.2] at hr
    have hm : madeCells (Value.agg (List.replicate s v).toArray).cells (n * s) = (List.replicate (n * s) v).toArray := madeCells_same v s (n * s) hs
    rw [hm] at hr
    refine wpList_plain hg fun K hK => ?_
    unfold Oper.wp execOp
    simp only [hop, hx, hy, Sem.run_bind, hr, Result.andThen_ok]
    exact hK _ _ (k _ (Row.new w e _) ((Below.refl _ _).alloc (Nat.le_refl _) _) (by simp))
end
/-- A new block that holds these values. -/
def Nb (base : World) (t : TypeId) (l : List Value) : Value → World → Prop := fun v w => ∃ g, v = .pointer (some ⟨g, 0, none⟩) ∧ base.heap.size ≤ g ∧ Row w g t l
theorem Nb.monot (base : World) (t : TypeId) (l : List Value) : Monot (Nb base t l) := fun _ _ _ ⟨g, h1, h2, h3⟩ hb => ⟨g, h1, h2, h3.step hb⟩
end Go.Proofs.Ytcehdgdgjjecmaa

/- Marking both sectors (gen_tal_e.py). -/
namespace Go.Proofs.Ytcehdgdgjjecmaa
open Go.RowKit FlaMath
set_option linter.unusedVariables false
set_option maxRecDepth 100000

theorem fits_sector : Fits Try.prog 45 2 := ⟨⟨_, Try.underlying45, rfl⟩, by kernel_rfl⟩
theorem fits_sectors : Fits Try.prog 46 4 := ⟨⟨_, Try.underlying46, rfl⟩, by kernel_rfl⟩
theorem zero_sector : ∀ u, (zeroValue 45).run Try.prog u = .ok (.agg ([.int .i64 0, .int .i64 0] : List Value).toArray) u := fun u => by kernel_rfl
theorem index_sector0 (x y z t : Value) (w : World) : (Instr.index 46 (.agg #[x, y, z, t]) (.int .i64 0)).run Try.prog w = .ok (.agg #[x, y]) w := by kernel_rfl
theorem index_sector1 (x y z t : Value) (w : World) : (Instr.index 46 (.agg #[x, y, z, t]) (.int .i64 1)).run Try.prog w = .ok (.agg #[z, t]) w := by kernel_rfl
/-- The device behind c programs, and what the next one tells. -/
def mkDS (D : Dv) (T m : Nat) : Nat → Dv
  | 0 => D
  | c + 1 => programD (mkDS D T m c) (mkAt (T + c) m : Int) (mkP m)
def mkES (D : Dv) (T m c : Nat) : Int := programE (mkDS D T m c) (mkAt (T + c) m : Int) (mkP m)
theorem mk_E (D : Dv) (T m : Nat) : mkE D T m = if mkES D T m 0 = 0 then mkES D T m 1 else mkES D T m 0 := rfl
theorem mk_D (D : Dv) (T m : Nat) : mkD D T m = if mkES D T m 0 = 0 then mkDS D T m 2 else mkDS D T m 1 := rfl
theorem mkDS_L (D : Dv) (T m : Nat) : ∀ c, (mkDS D T m c).L = D.L
  | 0 => rfl
  | c + 1 => by rw [mkDS, programD_L, mkDS_L D T m c]
def lift (m x : Nat) : Nat := if 128 * ((m - 1) / 128) ≤ x then m else x
def mkV (D : Dv) (T m : Nat) (V : TV) : TV := if mkE D T m = 0 then ⟨lift m V.a, lift m V.b, V.ev⟩ else V
theorem lift_le {m x : Nat} (h : m ≤ 512) (h2 : x ≤ 512) : lift m x ≤ 512 := by unfold lift; split <;> omega
section
variable {w w' : World} {A : TalD} {D D' : Dv} {V : TV}
/-- A count in memory is another one. -/
theorem TalAt.setA (h : TalAt w A D V) (x : Nat) (hx : x ≤ 512) (hr : Row w' A.t 48 ((talL A V).set 2 (.int .i64 (x : Int)))) (ho : Only A.t w w') : TalAt w' A D { V with a := x } :=
  ⟨h.dev.onl (S := [A.t]) ⟨ho.1, ho.2.1, ho.2.2.1, ho.2.2.2.1, fun k hk hn => ho.2.2.2.2 k hk fun e => hn (by simp [e])⟩ (fun k hk he => h.t_dev (by rw [List.mem_singleton] at he; rwa [← he])), hr, h.fit, hx, h.vb⟩
theorem TalAt.setB (h : TalAt w A D V) (x : Nat) (hx : x ≤ 512) (hr : Row w' A.t 48 ((talL A V).set 4 (.int .i64 (x : Int)))) (ho : Only A.t w w') : TalAt w' A D { V with b := x } :=
  ⟨h.dev.onl (S := [A.t]) ⟨ho.1, ho.2.1, ho.2.2.1, ho.2.2.2.1, fun k hk hn => ho.2.2.2.2 k hk fun e => hn (by simp [e])⟩ (fun k hk he => h.t_dev (by rw [List.mem_singleton] at he; rwa [← he])), hr, h.fit, h.va, hx⟩
theorem TalAt.setE (h : TalAt w A D V) (x : Bool) (hr : Row w' A.t 48 ((talL A V).set 5 (.bool x))) (ho : Only A.t w w') : TalAt w' A D { V with ev := x } :=
  ⟨h.dev.onl (S := [A.t]) ⟨ho.1, ho.2.1, ho.2.2.1, ho.2.2.2.1, fun k hk hn => ho.2.2.2.2 k hk fun e => hn (by simp [e])⟩ (fun k hk he => h.t_dev (by rw [List.mem_singleton] at he; rwa [← he])), hr, h.fit, h.va, h.vb⟩
theorem TalAt.mid (h : TalAt w A D V) : w.rangeAt A.t 1 [.int .i64 (A.T : Int), .int .i64 (V.a : Int), .int .i64 ((A.T + 1 : Nat) : Int), .int .i64 (V.b : Int)] := by
  have e : talL A V = [.pointer (some ⟨A.sh.b, 0, none⟩)] ++ [.int .i64 (A.T : Int), .int .i64 (V.a : Int), .int .i64 ((A.T + 1 : Nat) : Int), .int .i64 (V.b : Int)] ++ [.bool V.ev] := rfl
  have := h.row
  rw [e] at this
  exact this.mid 1 rfl
theorem Only.onl_cons {S : List Nat} {k : Nat} {a b : World} (ho : Only k a b) : Onl (k :: S) a b := ⟨ho.1, ho.2.1, ho.2.2.1, ho.2.2.2.1, fun j hj hn => ho.2.2.2.2 j hj fun e => hn (by simp [e])⟩
theorem Only.below_onl {S : List Nat} {t : Nat} {w a b : World} (h : Only t a b) (ht : w.heap.size ≤ t) (ho : Onl S w a) : Onl S w b := ⟨h.1.trans ho.1, h.2.1.trans ho.2.1, h.2.2.1.trans ho.2.2.1, Nat.le_trans ho.2.2.2.1 h.2.2.2.1, fun k hk hn => (h.2.2.2.2 k (Nat.lt_of_lt_of_le hk ho.2.2.2.1) (by omega)).trans (ho.2.2.2.2 k hk hn)⟩
theorem Onl.cons {S : List Nat} {k : Nat} {a b : World} (ho : Onl S a b) : Onl (k :: S) a b := ⟨ho.1, ho.2.1, ho.2.2.1, ho.2.2.2.1, fun j hj hn => ho.2.2.2.2 j hj fun e => hn (by simp [e])⟩
end

set_option maxHeartbeats 2000000 in
theorem tal_mark_any {w : World} {A : TalD} {D : Dv} {V : TV} (h : TalAt w A D V) (m : Nat) (h1 : 1 ≤ m) (hm : m ≤ 512) :
    Calls Try.prog 29 #[.pointer (some ⟨A.t, 0, none⟩), .int .i64 (m : Int)] w fun e w' => e = .returned (.int .i64 (mkE D A.T m)) ∧ TalAt w' A (mkD D A.T m) (mkV D A.T m V) ∧ Onl A.S w w' := by
  obtain ⟨p, hp⟩ : ∃ p, (m - 1) / 128 = p := ⟨_, rfl⟩
  obtain ⟨F, hF⟩ : ∃ F, p * 128 = F := ⟨_, rfl⟩
  obtain ⟨f8, hf8⟩ : ∃ f, F / 8 = f := ⟨_, rfl⟩
  obtain ⟨n1, hn1⟩ : ∃ n, m - F = n := ⟨_, rfl⟩
  have hT := h.tT
  have HPG : Hid (∀ (u : World) (c : Nat), c < 2 → TalAt u A (mkDS D A.T m c) V → Calls Try.prog 42 #[.pointer (some ⟨A.sh.b, 0, none⟩), .int .i64 ((mkAt (A.T + c) m : Nat) : Int), .string (str (mkP m))] u fun e w' => e = .returned (.int .i64 (mkES D A.T m c)) ∧ TalAt w' A (mkDS D A.T m (c + 1)) V ∧ Onl A.sh.S u w') := Lib.hid fun u c hc hu => by
    have := dvx_program A.sh (mkDS D A.T m c) (mkAt (A.T + c) m : Nat) (str (mkP m)) u hu.dev (by unfold mkAt; omega) (by rw [str_size]; unfold mkP; rw [tpg_length]; omega)
    rw [str_list] at this
    exact this.mono fun e w' ⟨g1, g2, g3⟩ => ⟨g1, hu.go g3 g2 (by rw [mkDS_L, mkDS_L]), g3⟩
  have HPA : Hid (∀ (u : World), Calls Try.prog 43 #[.int .i64 (n1 : Int)] u fun e w' => e = .returned (.string (str (mkP m))) ∧ Below u.heap.size u w') := Lib.hid fun u => by
    have := tal_page_any n1 (by omega) u
    have e : mkP m = tpg n1 := by unfold mkP; rw [hp, ← hn1, ← hF, Nat.mul_comm]
    rw [e]; exact this
  have HAT : Hid (∀ c, mkAt (A.T + c) m = (A.T + c) * 64 + f8) := Lib.hid fun c => by unfold mkAt; omega
  have HC0 : Hid (∀ (u : World) (E : Dv) (U : TV), TalAt u A E U → u.cell? ⟨A.t, 0, none⟩ = some (.pointer (some ⟨A.sh.b, 0, none⟩)) ∧ A.t < u.heap.size) := Lib.hid fun u E U hu => ⟨hu.c0, hu.row.lt⟩
  have HCA : Hid (∀ (u : World) (E : Dv) (U : TV), TalAt u A E U → u.cell? ⟨A.t, 2, none⟩ = some (.int .i64 (U.a : Int)) ∧ u.cell? ⟨A.t, 4, none⟩ = some (.int .i64 (U.b : Int))) := Lib.hid fun u E U hu => ⟨hu.c2, hu.c4⟩
  have MID := Lib.hid h.mid
  have HST : Hid (∀ (u u' : World) (E : Dv) (U : TV), TalAt u A E U → Below u.heap.size u u' → TalAt u' A E U) := Lib.hid fun u u' E U a b => a.step b
  have HE : Hid (mkE D A.T m = if mkES D A.T m 0 = 0 then mkES D A.T m 1 else mkES D A.T m 0) := Lib.hid (mk_E D A.T m)
  have HD : Hid (mkD D A.T m = if mkES D A.T m 0 = 0 then mkDS D A.T m 2 else mkDS D A.T m 1) := Lib.hid (mk_D D A.T m)
  have HV0 : Hid (mkE D A.T m = 0 → mkV D A.T m V = ⟨lift m V.a, lift m V.b, V.ev⟩) := Lib.hid fun e => by unfold mkV; rw [if_pos e]
  have HV1 : Hid (mkE D A.T m ≠ 0 → mkV D A.T m V = V) := Lib.hid fun e => by unfold mkV; rw [if_neg e]
  have HSA : Hid (∀ (u u' : World) (E : Dv) (U : TV), TalAt u A E U → Row u' A.t 48 ((talL A U).set 2 (.int .i64 (m : Int))) → Only A.t u u' → TalAt u' A E { U with a := m }) := Lib.hid fun u u' E U a b c => a.setA m hm b c
  have HSB : Hid (∀ (u u' : World) (E : Dv) (U : TV), TalAt u A E U → Row u' A.t 48 ((talL A U).set 4 (.int .i64 (m : Int))) → Only A.t u u' → TalAt u' A E { U with b := m }) := Lib.hid fun u u' E U a b c => a.setB m hm b c
  have HLEN : Hid (∀ U, 2 < (talL A U).length ∧ 4 < (talL A U).length) := Lib.hid fun U => ⟨by show 2 < 6; omega, by show 4 < 6; omega⟩
  have HRW : Hid (∀ (u : World) (E : Dv) (U : TV), TalAt u A E U → Row u A.t 48 (talL A U)) := Lib.hid fun u E U a => a.row
  have HLF : Hid (∀ x, lift m x = if F ≤ x then m else x) := Lib.hid fun x => by unfold lift; rw [hp, ← hF, Nat.mul_comm]
  have H0 : Hid (TalAt w A (mkDS D A.T m 0) V) := Lib.hid h
  generalize mkE D A.T m = RE at *
  generalize mkD D A.T m = RD at *
  generalize mkV D A.T m V = RV at *
  generalize mkDS D A.T m = DS at *
  generalize mkES D A.T m = ES at *
  generalize str (mkP m) = S at *
  obtain ⟨t, sh, T⟩ := A
  obtain ⟨va, vb, ve⟩ := V
  dsimp only at HPG HAT HC0 HCA MID HST H0 HSA HSB HRW hT HV0 ⊢
  obtain ⟨d, hd⟩ : ∃ d, sh.b = d := ⟨_, rfl⟩
  rw [hd] at HPG HC0
  obtain ⟨m1, hm1⟩ : ∃ k, m - 1 = k := ⟨_, rfl⟩
  have e1 : (m : Int) - 1 = (m1 : Int) := by omega
  have e2 : (m1 : Int) / 128 = (p : Int) := by omega
  have e2t : (m1 : Int).tdiv 128 = (p : Int) := by rw [Int.tdiv_eq_ediv_of_nonneg (by omega)]; exact e2
  have e3 : (p : Int) * 128 = (F : Int) := by omega
  have e4 : (F : Int) / 8 = (f8 : Int) := by omega
  have e4t : (F : Int).tdiv 8 = (f8 : Int) := by rw [Int.tdiv_eq_ediv_of_nonneg (by omega)]; exact e4
  have e5 : (m : Int) - (F : Int) = (n1 : Int) := by omega
  have i1 : (m : Int) ≤ 512 := by omega
  have i1b : 1 ≤ (m : Int) := by omega
  have i2 : (p : Int) ≤ 3 := by omega
  have i3 : (F : Int) ≤ 384 := by omega
  have i4 : (f8 : Int) ≤ 48 := by omega
  have i5 : (n1 : Int) ≤ 128 := by omega
  have i6 : (m1 : Int) ≤ 511 := by omega
  have w1 : IntKind.i64.wrap (f8 : Int) = (f8 : Int) := by rw [IntKind.wrap_i64]; omega
  have w2 : IntKind.i64.wrap (n1 : Int) = (n1 : Int) := by rw [IntKind.wrap_i64]; omega
  have w3 : IntKind.i64.wrap (p : Int) = (p : Int) := by rw [IntKind.wrap_i64]; omega
  have HT5 : Hid (T ≤ 510) := Lib.hid (by omega)
  have HGA : Hid ((lift m va = m ∧ (F : Int) ≤ (va : Int)) ∨ (lift m va = va ∧ ¬ (F : Int) ≤ (va : Int))) := Lib.hid (by
    rw [HLF.out]
    by_cases e : F ≤ va
    · exact .inl ⟨if_pos e, by omega⟩
    · exact .inr ⟨if_neg e, by omega⟩)
  have HGB : Hid ((lift m vb = m ∧ (F : Int) ≤ (vb : Int)) ∨ (lift m vb = vb ∧ ¬ (F : Int) ≤ (vb : Int))) := Lib.hid (by
    rw [HLF.out]
    by_cases e : F ≤ vb
    · exact .inl ⟨if_pos e, by omega⟩
    · exact .inr ⟨if_neg e, by omega⟩)
  obtain ⟨T1, hT1⟩ : ∃ k, T + 1 = k := ⟨_, rfl⟩
  rw [hT1] at MID
  have HT1 := Lib.hid hT1
  clear h hd hp hF hf8 hn1 hm1 h1 hm hT HLF hT1
  go_enter Try.func29, Try.ntmps29
  go_wp2_with ((with_reducible refine wpLoadRK MID.out 46 fits_sectors rfl ?_ ?_); rfl)
  go_loopw [18] (fun i wr => ∃ c : Nat, c ≤ 2 ∧ i = .int .i64 c ∧ (∀ j, j < c → ES j = 0) ∧ TalAt wr ⟨t, sh, T⟩ (DS c) ⟨va, vb, ve⟩ ∧ Onl (t :: sh.S) w wr) (fun i _ => 2 - (intOf i).toNat)
  case atStart => exact ⟨0, Nat.zero_le _, rfl, fun j hj => absurd hj (Nat.not_lt_zero _), H0.out, Onl.refl _ _⟩
  case round =>
    clear H0
    obtain ⟨c, hc, rfl, hrz, hla, hon⟩ := hrel
    have HRZ := Lib.hid hrz
    have LA := Lib.hid hla
    have ON := Lib.hid hon
    clear hrz hla hon
    by_cases hlt : c < 2
    · have hk1 : (c : Int) < 2 := by omega
      obtain ⟨no, hno⟩ : ∃ k, T + c = k := ⟨_, rfl⟩
      obtain ⟨cn, hcn⟩ : ∃ k, (if c = 0 then va else vb) = k := ⟨_, rfl⟩
      have hix : (Instr.index 46 (.agg ([.int .i64 (T : Int), .int .i64 (va : Int), .int .i64 (T1 : Int), .int .i64 (vb : Int)] : List Value).toArray) (.int .i64 (c : Int))).run Try.prog wr = .ok (.agg #[.int .i64 (no : Int), .int .i64 (cn : Int)]) wr := by
        have : c = 0 ∨ c = 1 := by omega
        rcases this with rfl | rfl
        · rw [← hno, ← hcn, if_pos rfl]
          exact index_sector0 _ _ _ _ wr
        · rw [← hno, ← hcn, if_neg (by decide), ← HT1.out]
          exact index_sector1 _ _ _ _ wr
      obtain ⟨q0, hq0⟩ : ∃ q, no * 64 = q := ⟨_, rfl⟩
      obtain ⟨q, hq⟩ : ∃ q, q0 + f8 = q := ⟨_, rfl⟩
      have hT5 := HT5.out
      have k1 : (no : Int) ≤ 511 := by omega
      have k2 : (no : Int) * 64 = (q0 : Int) := by omega
      have k3 : (q0 : Int) + (f8 : Int) = (q : Int) := by omega
      have k4 : (q0 : Int) ≤ 40000 := by omega
      have k5 : (q : Int) ≤ 40000 := by omega
      have w4 : IntKind.i64.wrap (q0 : Int) = (q0 : Int) := by rw [IntKind.wrap_i64]; omega
      have w5 : IntKind.i64.wrap (q : Int) = (q : Int) := by rw [IntKind.wrap_i64]; omega
      have HPGC : Hid (∀ u, Below wr.heap.size wr u → Calls Try.prog 42 #[.pointer (some ⟨d, 0, none⟩), .int .i64 (q : Int), .string S] u fun e w' => e = .returned (.int .i64 (ES c)) ∧ TalAt w' ⟨t, sh, T⟩ (DS (c + 1)) ⟨va, vb, ve⟩ ∧ Onl sh.S u w') := Lib.hid fun u hu => by
        have := HPG.out u c hlt (HST.out _ _ _ _ LA.out hu)
        rw [HAT.out c, hno, hq0, hq] at this
        exact this
      have C00 := Lib.hid (HC0.out wr _ _ LA.out).1
      have HTX := Lib.hid (HC0.out wr _ _ LA.out).2
      have HGO : Hid (ES c = 0 → ∀ j, j < c + 1 → ES j = 0) := Lib.hid fun e j hj => by
        by_cases e2 : j = c
        · rw [e2]; exact e
        · exact HRZ.out j (by omega)
      have HSTOP : Hid (ES c ≠ 0 → RE = ES c ∧ RD = DS (c + 1)) := Lib.hid fun e => by
        have : c = 0 ∨ c = 1 := by omega
        rcases this with rfl | rfl
        · rw [HE.out, HD.out, if_neg e, if_neg e]; exact ⟨rfl, rfl⟩
        · rw [HE.out, HD.out, if_pos (HRZ.out 0 (by omega)), if_pos (HRZ.out 0 (by omega))]; exact ⟨rfl, rfl⟩
      generalize ES c = E at *
      obtain ⟨DN, hDN⟩ : ∃ x, DS (c + 1) = x := ⟨_, rfl⟩
      rw [hDN] at HPGC HSTOP
      have HDN := Lib.hid hDN
      clear hDN hq hq0 hno hcn hT5 HPG HAT MID HE HD
      go_wp2_with (first
        | ((with_reducible refine wpAllocK (w := wr) [.int .i64 0, .int .i64 0] 45 zero_sector ?_ ?_); rfl; intro u1 r_ b_ s_; have R1 := Lib.hid r_; have B1 := Lib.hid b_; clear r_ b_ s_)
        | ((with_reducible refine R1.out.wpStoreK 45 [.int .i64 (no : Int), .int .i64 (cn : Int)] fits_sector rfl rfl rfl ?_ ?_); rfl; intro u2 r_ o_ s_; have R2 := Lib.hid r_; have B2 : Hid (Below wr.heap.size wr u2) := Lib.hid (B1.out.trans (o_.below (Nat.le_refl _) B1.out.size)); clear r_ o_ s_ R1 B1))
      have C0 : Hid (u2.cell? ⟨t, 0, none⟩ = some (.pointer (some ⟨d, 0, none⟩))) := Lib.hid ((B2.out.cell (p := ⟨t, 0, none⟩) HTX.out).trans C00.out)
      have HTX2 : Hid (t < u2.heap.size) := Lib.hid (Nat.lt_of_lt_of_le HTX.out B2.out.size)
      have CR : Hid (u2.cell? ⟨wr.heap.size, 0, none⟩ = some (.int .i64 (no : Int))) := Lib.hid (R2.out.cell 0)
      have HRX : Hid (wr.heap.size < u2.heap.size) := Lib.hid R2.out.lt
      refine region_tail 14 [(0, 21), (1, 22), (2, 23), (3, 24), (4, 25), (5, 26), (6, 27), (7, 28), (8, 29), (9, 30), (10, 31), (11, 32), (12, 33), (13, 34)]
        (fun ii => [Is (.pointer (some ⟨t, 0, none⟩)), Is (.pointer (some ⟨t, 0, none⟩)), Is (.pointer (some ⟨t, 0, none⟩)), Is (.pointer (some ⟨d, 0, none⟩)), Is (.pointer (some ⟨wr.heap.size, 0, none⟩)), Is (.int .i64 (no : Int)), Is (.int .i64 (q0 : Int)), Is (.int .i64 (F : Int)), Is (.int .i64 (f8 : Int)), Is (.int .i64 (q : Int)), Is (.int .i64 (m : Int)), Is (.int .i64 (F : Int)), Is (.int .i64 (n1 : Int)), Is (.string S)].getD ii (Is undef))
        (fun w' => Below u2.heap.size u2 w') (by kernel_rfl) (by decide) (by kernel_rfl) (by kernel_rfl) (by kernel_rfl) (by decide) (by decide) (by kernel_rfl) rfl ?monoq ((Below.refl _ _).drew) ?stepq ?finq
      case monoq =>
        intro i
        match i with
        | 0 | 1 | 2 | 3 | 4 | 5 | 6 | 7 | 8 | 9 | 10 | 11 | 12 | 13 => exact Is.monot _
        | _ + 14 => exact Is.monot _
      case stepq =>
        refine List.forall_mem_cons.2 ⟨?qs0, List.forall_mem_cons.2 ⟨?qs1, List.forall_mem_cons.2 ⟨?qs2, List.forall_mem_cons.2 ⟨?qs3, List.forall_mem_cons.2 ⟨?qs4, List.forall_mem_cons.2 ⟨?qs5, List.forall_mem_cons.2 ⟨?qs6, List.forall_mem_cons.2 ⟨?qs7, List.forall_mem_cons.2 ⟨?qs8, List.forall_mem_cons.2 ⟨?qs9, List.forall_mem_cons.2 ⟨?qs10, List.forall_mem_cons.2 ⟨?qs11, List.forall_mem_cons.2 ⟨?qs12, List.forall_mem_cons.2 ⟨?qs13, List.forall_mem_nil _⟩⟩⟩⟩⟩⟩⟩⟩⟩⟩⟩⟩⟩⟩
        case qs0 =>
          intro u wx hg hC
          clear hC
          refine wpOp_step rfl (fun K hK => ?_)
          simp only [puts, List.foldl]
          go_simp
          exact hK _ _ ⟨rfl, rfl, hg, Below.refl _ _⟩
        case qs1 =>
          intro u wx hg hC
          have hJ0 : u 0 = (.pointer (some ⟨t, 0, none⟩)) := hC.at 0 (by kernel_rfl)
          clear hC
          refine wpOp_step rfl (fun K hK => ?_)
          simp only [puts, List.foldl]
          go_simp
          exact hK _ _ ⟨rfl, rfl, hg, Below.refl _ _⟩
        case qs2 =>
          intro u wx hg hC
          have hJ1 : u 1 = (.pointer (some ⟨t, 0, none⟩)) := hC.at 1 (by kernel_rfl)
          clear hC
          refine wpOp_step rfl (fun K hK => ?_)
          simp only [puts, List.foldl]
          go_simp
          exact hK _ _ ⟨rfl, rfl, hg, Below.refl _ _⟩
        case qs3 =>
          intro u wx hg hC
          have hJ2 : u 2 = (.pointer (some ⟨t, 0, none⟩)) := hC.at 2 (by kernel_rfl)
          clear hC
          have hcl : wx.cell? ⟨t, 0, none⟩ = some (.pointer (some ⟨d, 0, none⟩)) := (hg.cell (p := ⟨t, 0, none⟩) HTX2.out).trans C0.out
          refine wpOp_step rfl (fun K hK => ?_)
          simp only [puts, List.foldl]
          go_simp
          exact hK _ _ ⟨rfl, rfl, hg, Below.refl _ _⟩
        case qs4 =>
          intro u wx hg hC
          clear hC
          refine wpOp_step rfl (fun K hK => ?_)
          simp only [puts, List.foldl]
          go_simp
          exact hK _ _ ⟨rfl, rfl, hg, Below.refl _ _⟩
        case qs5 =>
          intro u wx hg hC
          have hJ4 : u 4 = (.pointer (some ⟨wr.heap.size, 0, none⟩)) := hC.at 4 (by kernel_rfl)
          clear hC
          have hcl : wx.cell? ⟨wr.heap.size, 0, none⟩ = some (.int .i64 (no : Int)) := (hg.cell (p := ⟨wr.heap.size, 0, none⟩) HRX.out).trans CR.out
          refine wpOp_step rfl (fun K hK => ?_)
          simp only [puts, List.foldl]
          go_simp
          exact hK _ _ ⟨rfl, rfl, hg, Below.refl _ _⟩
        case qs6 =>
          intro u wx hg hC
          have hJ5 : u 5 = (.int .i64 (no : Int)) := hC.at 5 (by kernel_rfl)
          clear hC
          refine wpOp_step rfl (fun K hK => ?_)
          simp only [puts, List.foldl]
          go_simp
          exact hK _ _ ⟨rfl, rfl, hg, Below.refl _ _⟩
        case qs7 =>
          intro u wx hg hC
          clear hC
          refine wpOp_step rfl (fun K hK => ?_)
          simp only [puts, List.foldl]
          go_simp
          exact hK _ _ ⟨rfl, rfl, hg, Below.refl _ _⟩
        case qs8 =>
          intro u wx hg hC
          have hJ7 : u 7 = (.int .i64 (F : Int)) := hC.at 7 (by kernel_rfl)
          clear hC
          refine wpOp_step rfl (fun K hK => ?_)
          simp only [puts, List.foldl]
          go_simp
          exact hK _ _ ⟨rfl, rfl, hg, Below.refl _ _⟩
        case qs9 =>
          intro u wx hg hC
          have hJ6 : u 6 = (.int .i64 (q0 : Int)) := hC.at 6 (by kernel_rfl)
          have hJ8 : u 8 = (.int .i64 (f8 : Int)) := hC.at 8 (by kernel_rfl)
          clear hC
          refine wpOp_step rfl (fun K hK => ?_)
          simp only [puts, List.foldl]
          go_simp
          exact hK _ _ ⟨rfl, rfl, hg, Below.refl _ _⟩
        case qs10 =>
          intro u wx hg hC
          clear hC
          refine wpOp_step rfl (fun K hK => ?_)
          simp only [puts, List.foldl]
          go_simp
          exact hK _ _ ⟨rfl, rfl, hg, Below.refl _ _⟩
        case qs11 =>
          intro u wx hg hC
          clear hC
          refine wpOp_step rfl (fun K hK => ?_)
          simp only [puts, List.foldl]
          go_simp
          exact hK _ _ ⟨rfl, rfl, hg, Below.refl _ _⟩
        case qs12 =>
          intro u wx hg hC
          have hJ10 : u 10 = (.int .i64 (m : Int)) := hC.at 10 (by kernel_rfl)
          have hJ11 : u 11 = (.int .i64 (F : Int)) := hC.at 11 (by kernel_rfl)
          clear hC
          refine wpOp_step rfl (fun K hK => ?_)
          simp only [puts, List.foldl]
          go_simp
          exact hK _ _ ⟨rfl, rfl, hg, Below.refl _ _⟩
        case qs13 =>
          intro u wx hg hC
          have hJ12 : u 12 = (.int .i64 (n1 : Int)) := hC.at 12 (by kernel_rfl)
          clear hC
          refine wpOp_step rfl (fun K hK => ?_)
          simp only [puts, List.foldl]
          go_simp
          refine (HPA.out wx).mono ?_
          rintro e w' ⟨rfl, hb'⟩
          exact hK _ _ ⟨rfl, rfl, hg.next hb', hb'⟩
      case finq =>
        intro u x4 hb4 hφ
        have e24 : u 3 = .pointer (some ⟨d, 0, none⟩) := hφ (3, 24) (by decide)
        have e30 : u 9 = .int .i64 (q : Int) := hφ (9, 30) (by decide)
        have e34 : u 13 = .string S := hφ (13, 34) (by decide)
        clear hφ
        simp only [puts, List.foldl]
        rw [e24, e30, e34]
        go_simp
        have HPU := Lib.hid (HPGC.out x4 (B2.out.next hb4))
        have O4 := Lib.hid (ON.out.step (B2.out.next hb4))
        clear hb4 e24 e30 e34
        by_cases hez : E = 0
        · have HGO2 := Lib.hid (HGO.out hez)
          subst hez
          clear HGO HSTOP
          go_wp2_with (go_at_call 42; (with_reducible refine HPU.out.mono ?_); rintro e u3 ⟨rfl, l_, o_⟩; have L3 := Lib.hid l_; have O3 := Lib.hid (O4.out.trans o_.cons); clear l_ o_)
          go_roundw
          case rel => exact ⟨c + 1, by omega, by go_num, HGO2.out, by rw [HDN.out]; exact L3.out, O3.out⟩
          case measure => simp [intOf]; omega
        · have hne1 : (E != 0) = true := bne_iff_ne.2 hez
          have HST2 := Lib.hid (HSTOP.out hez)
          have HRV : Hid (RV = ⟨va, vb, ve⟩) := Lib.hid (HV1.out (by rw [HST2.out.1]; exact hez))
          clear HGO HSTOP hez
          go_wp2_with (go_at_call 42; (with_reducible refine HPU.out.mono ?_); rintro e u3 ⟨rfl, l_, o_⟩; have L3 := Lib.hid l_; have O3 := Lib.hid (O4.out.trans o_.cons); clear l_ o_)
          go_ret
          exact ⟨ret_int HST2.out.1.symm, by rw [HST2.out.2, HRV.out]; exact L3.out, O3.out⟩
    · have hce : c = 2 := by omega
      have hk1 : ¬ (c : Int) < 2 := by omega
      have HZ0 := HRZ.out 0 (by omega)
      have HZ1 := HRZ.out 1 (by omega)
      have HRE : Hid (RE = 0) := Lib.hid (by rw [HE.out, if_pos HZ0]; exact HZ1)
      have LA2 : Hid (TalAt wr ⟨t, sh, T⟩ RD ⟨va, vb, ve⟩) := Lib.hid (by rw [HD.out, if_pos HZ0, ← hce]; exact LA.out)
      have HRV := Lib.hid (HV0.out HRE.out)
      clear hce HZ0 HZ1 LA HPG HPA HAT HC0 HE HD HV0 HV1 HRZ MID
      go_wp2
      go_loopw [40] (fun i w2 => (i = .int .i64 0 ∧ TalAt w2 ⟨t, sh, T⟩ RD ⟨va, vb, ve⟩ ∧ Onl (t :: sh.S) w w2) ∨ (i = .int .i64 1 ∧ TalAt w2 ⟨t, sh, T⟩ RD ⟨lift m va, vb, ve⟩ ∧ Onl (t :: sh.S) w w2) ∨ (i = .int .i64 2 ∧ TalAt w2 ⟨t, sh, T⟩ RD ⟨lift m va, lift m vb, ve⟩ ∧ Onl (t :: sh.S) w w2)) (fun i _ => 2 - (intOf i).toNat)
      case atStart => exact Or.inl ⟨rfl, LA2.out, ON.out⟩
      case round =>
        clear LA2 ON
        rcases hrel with ⟨rfl, hla, hon⟩ | ⟨rfl, hla, hon⟩ | ⟨rfl, hla, hon⟩
        · have LA := Lib.hid hla
          have ON := Lib.hid hon
          have c2 := (HCA.out _ _ _ hla).1
          dsimp only at c2
          have RR := Lib.hid (HRW.out _ _ _ hla)
          clear hla hon
          rcases HGA.out with ⟨g1, g2⟩ | ⟨g1, g2⟩
          · have G1 := Lib.hid g1
            clear g1
            go_wp2_with ((with_reducible refine RR.out.wpStore1K 2 3 (.int .i64 (m : Int)) finfo_int (HLEN.out _).1 (int_cells _ _) (int_one _ _) ?_ ?_); rfl; intro u1 r1 o1 s1; have LB : Hid (TalAt u1 ⟨t, sh, T⟩ RD ⟨lift m va, vb, ve⟩) := Lib.hid (by rw [G1.out]; exact HSA.out _ _ _ _ LA.out r1 o1); have OB : Hid (Onl (t :: sh.S) w u1) := Lib.hid (ON.out.trans o1.onl_cons); clear r1 o1 s1)
            go_roundw
            case rel => exact Or.inr (Or.inl ⟨rfl, LB.out, OB.out⟩)
            case measure => simp [intOf]
          · have G1 := Lib.hid g1
            clear g1
            go_wp2
            go_roundw
            case rel => exact Or.inr (Or.inl ⟨rfl, by rw [G1.out]; exact LA.out, ON.out⟩)
            case measure => simp [intOf]
        · have LA := Lib.hid hla
          have ON := Lib.hid hon
          have c4 := (HCA.out _ _ _ hla).2
          dsimp only at c4
          have RR := Lib.hid (HRW.out _ _ _ hla)
          clear hla hon
          rcases HGB.out with ⟨g1, g2⟩ | ⟨g1, g2⟩
          · have G1 := Lib.hid g1
            clear g1
            go_wp2_with ((with_reducible refine RR.out.wpStore1K 4 3 (.int .i64 (m : Int)) finfo_int (HLEN.out _).2 (int_cells _ _) (int_one _ _) ?_ ?_); rfl; intro u1 r1 o1 s1; have LB : Hid (TalAt u1 ⟨t, sh, T⟩ RD ⟨lift m va, lift m vb, ve⟩) := Lib.hid (by rw [G1.out]; exact HSB.out _ _ _ _ LA.out r1 o1); have OB : Hid (Onl (t :: sh.S) w u1) := Lib.hid (ON.out.trans o1.onl_cons); clear r1 o1 s1)
            go_roundw
            case rel => exact Or.inr (Or.inr ⟨rfl, LB.out, OB.out⟩)
            case measure => simp [intOf]
          · have G1 := Lib.hid g1
            clear g1
            go_wp2
            go_roundw
            case rel => exact Or.inr (Or.inr ⟨rfl, by rw [G1.out]; exact LA.out, ON.out⟩)
            case measure => simp [intOf]
        · have LA := Lib.hid hla
          have ON := Lib.hid hon
          clear hla hon
          go_wp2
          go_ret
          exact ⟨ret_int HRE.out.symm, by rw [HRV.out]; exact LA.out, ON.out⟩
end Go.Proofs.Ytcehdgdgjjecmaa

/- Bump, Level; of none. -/
namespace Go.Proofs.Ytcehdgdgjjecmaa
open Go.RowKit FlaMath
set_option linter.unusedVariables false
set_option maxRecDepth 100000

theorem tal_bump_nil (w : World) : Calls Try.prog 13 #[.pointer none] w fun e w' => e = .returned (.int .i64 1) ∧ w = w' := by
  go_enter Try.func13, Try.ntmps13
  go_wp2_with (go_at_call 28; (with_reducible refine (tal_none_nil w).mono ?_); rintro e _ ⟨rfl, rfl⟩)
  go_ret
  exact ⟨rfl, rfl⟩
theorem tal_reset_nil (w : World) : Calls Try.prog 14 #[.pointer none] w fun e w' => e = .returned (.int .i64 1) ∧ w = w' := by
  go_enter Try.func14, Try.ntmps14
  go_wp2_with (go_at_call 28; (with_reducible refine (tal_none_nil w).mono ?_); rintro e _ ⟨rfl, rfl⟩)
  go_ret
  exact ⟨rfl, rfl⟩
def bumpV (D : Dv) (T m : Nat) (V : TV) : TV := if mkE D T m = 0 then ⟨lift m V.a, lift m V.b, decide (lift m V.a = lift m V.b)⟩ else V
def levV (D : Dv) (T m : Nat) (V : TV) : TV := if mkE D T m = 0 then ⟨lift m V.a, lift m V.b, true⟩ else V
set_option maxHeartbeats 1000000 in
theorem tal_bump_any {w : World} {A : TalD} {D : Dv} {V : TV} (h : TalAt w A D V) (m : Nat) (hm : max V.a V.b = m) (hlt : m < 512) :
    Calls Try.prog 13 #[.pointer (some ⟨A.t, 0, none⟩)] w fun e w' => e = .returned (.int .i64 (mkE D A.T (m + 1))) ∧ TalAt w' A (mkD D A.T (m + 1)) (bumpV D A.T (m + 1) V) ∧ Onl A.S w w' := by
  have HN := Lib.hid (tal_none_any h)
  have HCT : Hid (∀ u, TalAt u A D V → Calls Try.prog 12 #[.pointer (some ⟨A.t, 0, none⟩)] u fun e w' => e = .returned (.int .i64 (m : Int)) ∧ Below u.heap.size u w') := Lib.hid fun u hu => tal_count_any hu m hm
  have HMK : Hid (∀ u, TalAt u A D V → Calls Try.prog 29 #[.pointer (some ⟨A.t, 0, none⟩), .int .i64 ((m + 1 : Nat) : Int)] u fun e w' => e = .returned (.int .i64 (mkE D A.T (m + 1))) ∧ TalAt w' A (mkD D A.T (m + 1)) (mkV D A.T (m + 1) V) ∧ Onl A.S u w') := Lib.hid fun u hu => tal_mark_any hu (m + 1) (by omega) (by omega)
  have HST : Hid (∀ (u u' : World) (E : Dv) (U : TV), TalAt u A E U → Below u.heap.size u u' → TalAt u' A E U) := Lib.hid fun u u' E U a b => a.step b
  have HV0 : Hid (mkE D A.T (m + 1) = 0 → mkV D A.T (m + 1) V = ⟨lift (m + 1) V.a, lift (m + 1) V.b, V.ev⟩ ∧ bumpV D A.T (m + 1) V = ⟨lift (m + 1) V.a, lift (m + 1) V.b, decide (lift (m + 1) V.a = lift (m + 1) V.b)⟩) := Lib.hid fun e => ⟨by unfold mkV; rw [if_pos e], by unfold bumpV; rw [if_pos e]⟩
  have HV1 : Hid (mkE D A.T (m + 1) ≠ 0 → mkV D A.T (m + 1) V = bumpV D A.T (m + 1) V) := Lib.hid fun e => by unfold mkV bumpV; rw [if_neg e, if_neg e]
  have HAL : Hid (∀ (u : World) (E : Dv) (U : TV), TalAt u A E U → Calls Try.prog 25 #[.pointer (some ⟨A.t, 0, none⟩)] u fun e w' => e = .returned (.bool (decide (U.a = U.b))) ∧ Below u.heap.size u w') := Lib.hid fun u E U hu => tal_alike_any hu.c2 hu.c4
  have HSE : Hid (∀ (u u' : World) (E : Dv) (U : TV) (x : Bool), TalAt u A E U → Row u' A.t 48 ((talL A U).set 5 (.bool x)) → Only A.t u u' → TalAt u' A E { U with ev := x }) := Lib.hid fun u u' E U x a b c => a.setE x b c
  have HRW : Hid (∀ (u : World) (E : Dv) (U : TV), TalAt u A E U → Row u A.t 48 (talL A U) ∧ 5 < (talL A U).length) := Lib.hid fun u E U a => ⟨a.row, by show 5 < 6; omega⟩
  have HOC : Hid (∀ (u u' : World), Only A.t u u' → Onl A.S u u') := Lib.hid fun u u' a => a.onl_cons
  have LA0 := Lib.hid h
  generalize mkE D A.T (m + 1) = E at *
  generalize mkD D A.T (m + 1) = RD at *
  generalize mkV D A.T (m + 1) V = MV at *
  generalize bumpV D A.T (m + 1) V = RV at *
  generalize lift (m + 1) V.a = xa at *
  generalize lift (m + 1) V.b = xb at *
  obtain ⟨t, ht⟩ : ∃ t, A.t = t := ⟨_, rfl⟩
  rw [ht] at HN HCT HMK HAL HRW HOC HSE ⊢
  obtain ⟨S, hS⟩ : ∃ S, A.S = S := ⟨_, rfl⟩
  rw [hS] at HMK HOC ⊢
  obtain ⟨m1, hm1⟩ : ∃ k, m + 1 = k := ⟨_, rfl⟩
  rw [hm1] at HMK
  have e1 : (m : Int) + 1 = (m1 : Int) := by omega
  have e2 : (m : Int) < 512 := by omega
  have e3 : IntKind.i64.wrap (m1 : Int) = (m1 : Int) := by rw [IntKind.wrap_i64]; omega
  have e4 : ((m : Int) == 512) = false := by rw [beq_eq_false_iff_ne]; omega
  have e5 : ¬ (m : Int) = 512 := by omega
  clear h hm hlt ht hS hm1
  by_cases hz : E = 0
  · have HV := Lib.hid (HV0.out hz)
    subst hz
    clear HV0 HV1
    go_enter Try.func13, Try.ntmps13
    go_wp2_with (first
      | (go_at_call 28; (with_reducible refine HN.out.mono ?_); rintro e _ ⟨rfl, rfl⟩)
      | (go_at_call 12; (with_reducible refine (HCT.out w LA0.out).mono ?_); rintro e u1 ⟨rfl, b_⟩; have LA1 := Lib.hid (HST.out _ _ _ _ LA0.out b_); have B1 := Lib.hid b_; clear b_ LA0)
      | (go_at_call 12; (with_reducible refine (HCT.out u1 LA1.out).mono ?_); rintro e u2 ⟨rfl, b_⟩; have LA2 := Lib.hid (HST.out _ _ _ _ LA1.out b_); have B2 := Lib.hid (B1.out.next b_); clear b_ LA1)
      | (go_at_call 29; (with_reducible refine (HMK.out u2 LA2.out).mono ?_); rintro e u3 ⟨rfl, l_, o_⟩; have LA3 : Hid (TalAt u3 A RD ⟨xa, xb, V.ev⟩) := Lib.hid (by rw [← HV.out.1]; exact l_); have O3 := Lib.hid ((Onl.of_below B2.out).trans o_); clear l_ o_ LA2)
      | (go_at_call 25; (with_reducible refine (HAL.out u3 _ _ LA3.out).mono ?_); rintro e u4 ⟨rfl, b_⟩; have LA4 := Lib.hid (HST.out _ _ _ _ LA3.out b_); have O4 := Lib.hid (O3.out.step b_); have RR := Lib.hid (HRW.out _ _ _ LA4.out).1; have RL := Lib.hid (HRW.out _ _ _ LA4.out).2; clear b_ LA3)
      | ((with_reducible refine RR.out.wpStore1K 5 4 (.bool (decide (xa = xb))) finfo_bool RL.out (bool_cells _) (bool_one _) ?_ ?_); rfl; intro u5 r_ o_ s_; have LA5 := Lib.hid (HSE.out _ _ _ _ _ LA4.out r_ o_); have O5 := Lib.hid (O4.out.trans (HOC.out _ _ o_)); clear r_ o_ s_))
    go_ret
    exact ⟨rfl, by rw [HV.out.2]; exact LA5.out, O5.out⟩
  · have hne1 : (E != 0) = true := bne_iff_ne.2 hz
    have HV := Lib.hid (HV1.out hz)
    clear HV0 HV1
    go_enter Try.func13, Try.ntmps13
    go_wp2_with (first
      | (go_at_call 28; (with_reducible refine HN.out.mono ?_); rintro e _ ⟨rfl, rfl⟩)
      | (go_at_call 12; (with_reducible refine (HCT.out w LA0.out).mono ?_); rintro e u1 ⟨rfl, b_⟩; have LA1 := Lib.hid (HST.out _ _ _ _ LA0.out b_); have B1 := Lib.hid b_; clear b_ LA0)
      | (go_at_call 12; (with_reducible refine (HCT.out u1 LA1.out).mono ?_); rintro e u2 ⟨rfl, b_⟩; have LA2 := Lib.hid (HST.out _ _ _ _ LA1.out b_); have B2 := Lib.hid (B1.out.next b_); clear b_ LA1)
      | (go_at_call 29; (with_reducible refine (HMK.out u2 LA2.out).mono ?_); rintro e u3 ⟨rfl, l_, o_⟩; have LA3 : Hid (TalAt u3 A RD RV) := Lib.hid (by rw [← HV.out]; exact l_); have O3 := Lib.hid ((Onl.of_below B2.out).trans o_); clear l_ o_ LA2))
    go_ret
    exact ⟨rfl, LA3.out, O3.out⟩
set_option maxHeartbeats 1000000 in
theorem tal_level_zero {w : World} {A : TalD} {D : Dv} {V : TV} (h : TalAt w A D V) (hm : max V.a V.b = 0) :
    Calls Try.prog 18 #[.pointer (some ⟨A.t, 0, none⟩)] w fun e w' => e = .returned (.int .i64 0) ∧ Below w.heap.size w w' := by
  have HN := Lib.hid (tal_none_any h)
  have HCT := Lib.hid (tal_count_any h 0 hm)
  clear h hm
  go_enter Try.func18, Try.ntmps18
  go_wp2_with (first
    | (go_at_call 28; (with_reducible refine HN.out.mono ?_); rintro e _ ⟨rfl, rfl⟩)
    | (go_at_call 12; (with_reducible refine HCT.out.mono ?_); rintro e u1 ⟨rfl, b_⟩; have B1 := Lib.hid b_; clear b_))
  go_ret
  exact ⟨rfl, B1.out⟩
set_option maxHeartbeats 1000000 in
theorem tal_level_any {w : World} {A : TalD} {D : Dv} {V : TV} (h : TalAt w A D V) (m : Nat) (hm : max V.a V.b = m) (h0 : 0 < m) :
    Calls Try.prog 18 #[.pointer (some ⟨A.t, 0, none⟩)] w fun e w' => e = .returned (.int .i64 (mkE D A.T m)) ∧ TalAt w' A (mkD D A.T m) (levV D A.T m V) ∧ Onl A.S w w' := by
  have HN := Lib.hid (tal_none_any h)
  have HCT : Hid (∀ u, TalAt u A D V → Calls Try.prog 12 #[.pointer (some ⟨A.t, 0, none⟩)] u fun e w' => e = .returned (.int .i64 (m : Int)) ∧ Below u.heap.size u w') := Lib.hid fun u hu => tal_count_any hu m hm
  have HMK : Hid (∀ u, TalAt u A D V → Calls Try.prog 29 #[.pointer (some ⟨A.t, 0, none⟩), .int .i64 (m : Int)] u fun e w' => e = .returned (.int .i64 (mkE D A.T m)) ∧ TalAt w' A (mkD D A.T m) (mkV D A.T m V) ∧ Onl A.S u w') := Lib.hid fun u hu => tal_mark_any hu m (by omega) (by have := h.va; have := h.vb; omega)
  have HST : Hid (∀ (u u' : World) (E : Dv) (U : TV), TalAt u A E U → Below u.heap.size u u' → TalAt u' A E U) := Lib.hid fun u u' E U a b => a.step b
  have HV0 : Hid (mkE D A.T m = 0 → mkV D A.T m V = ⟨lift m V.a, lift m V.b, V.ev⟩ ∧ levV D A.T m V = ⟨lift m V.a, lift m V.b, true⟩) := Lib.hid fun e => ⟨by unfold mkV; rw [if_pos e], by unfold levV; rw [if_pos e]⟩
  have HV1 : Hid (mkE D A.T m ≠ 0 → mkV D A.T m V = levV D A.T m V) := Lib.hid fun e => by unfold mkV levV; rw [if_neg e, if_neg e]
  have HSE : Hid (∀ (u u' : World) (E : Dv) (U : TV) (x : Bool), TalAt u A E U → Row u' A.t 48 ((talL A U).set 5 (.bool x)) → Only A.t u u' → TalAt u' A E { U with ev := x }) := Lib.hid fun u u' E U x a b c => a.setE x b c
  have HRW : Hid (∀ (u : World) (E : Dv) (U : TV), TalAt u A E U → Row u A.t 48 (talL A U) ∧ 5 < (talL A U).length) := Lib.hid fun u E U a => ⟨a.row, by show 5 < 6; omega⟩
  have HOC : Hid (∀ (u u' : World), Only A.t u u' → Onl A.S u u') := Lib.hid fun u u' a => a.onl_cons
  have LA0 := Lib.hid h
  generalize mkE D A.T m = E at *
  generalize mkD D A.T m = RD at *
  generalize mkV D A.T m V = MV at *
  generalize levV D A.T m V = RV at *
  generalize lift m V.a = xa at *
  generalize lift m V.b = xb at *
  obtain ⟨t, ht⟩ : ∃ t, A.t = t := ⟨_, rfl⟩
  rw [ht] at HN HCT HMK HRW HOC HSE ⊢
  obtain ⟨S, hS⟩ : ∃ S, A.S = S := ⟨_, rfl⟩
  rw [hS] at HMK HOC ⊢
  have e2 : 0 < (m : Int) := by omega
  have e4 : ((m : Int) == 0) = false := by rw [beq_eq_false_iff_ne]; omega
  have e5 : ¬ (m : Int) = 0 := by omega
  have e6 : ¬ m = 0 := by omega
  clear h hm ht hS h0
  by_cases hz : E = 0
  · have HV := Lib.hid (HV0.out hz)
    subst hz
    clear HV0 HV1
    go_enter Try.func18, Try.ntmps18
    go_wp2_with (first
      | (go_at_call 28; (with_reducible refine HN.out.mono ?_); rintro e _ ⟨rfl, rfl⟩)
      | (go_at_call 12; (with_reducible refine (HCT.out w LA0.out).mono ?_); rintro e u1 ⟨rfl, b_⟩; have LA1 := Lib.hid (HST.out _ _ _ _ LA0.out b_); have B1 := Lib.hid b_; clear b_ LA0)
      | (go_at_call 12; (with_reducible refine (HCT.out u1 LA1.out).mono ?_); rintro e u2 ⟨rfl, b_⟩; have LA2 := Lib.hid (HST.out _ _ _ _ LA1.out b_); have B2 := Lib.hid (B1.out.next b_); clear b_ LA1)
      | (go_at_call 29; (with_reducible refine (HMK.out u2 LA2.out).mono ?_); rintro e u3 ⟨rfl, l_, o_⟩; have LA3 : Hid (TalAt u3 A RD ⟨xa, xb, V.ev⟩) := Lib.hid (by rw [← HV.out.1]; exact l_); have O3 := Lib.hid ((Onl.of_below B2.out).trans o_); have RR := Lib.hid (HRW.out _ _ _ LA3.out).1; have RL := Lib.hid (HRW.out _ _ _ LA3.out).2; clear l_ o_ LA2)
      | ((with_reducible refine RR.out.wpStore1K 5 4 (.bool true) finfo_bool RL.out (bool_cells _) (bool_one _) ?_ ?_); rfl; intro u5 r_ o_ s_; have LA5 := Lib.hid (HSE.out _ _ _ _ _ LA3.out r_ o_); have O5 := Lib.hid (O3.out.trans (HOC.out _ _ o_)); clear r_ o_ s_))
    go_ret
    exact ⟨rfl, by rw [HV.out.2]; exact LA5.out, O5.out⟩
  · have hne1 : (E != 0) = true := bne_iff_ne.2 hz
    have HV := Lib.hid (HV1.out hz)
    clear HV0 HV1
    go_enter Try.func18, Try.ntmps18
    go_wp2_with (first
      | (go_at_call 28; (with_reducible refine HN.out.mono ?_); rintro e _ ⟨rfl, rfl⟩)
      | (go_at_call 12; (with_reducible refine (HCT.out w LA0.out).mono ?_); rintro e u1 ⟨rfl, b_⟩; have LA1 := Lib.hid (HST.out _ _ _ _ LA0.out b_); have B1 := Lib.hid b_; clear b_ LA0)
      | (go_at_call 12; (with_reducible refine (HCT.out u1 LA1.out).mono ?_); rintro e u2 ⟨rfl, b_⟩; have LA2 := Lib.hid (HST.out _ _ _ _ LA1.out b_); have B2 := Lib.hid (B1.out.next b_); clear b_ LA1)
      | (go_at_call 29; (with_reducible refine (HMK.out u2 LA2.out).mono ?_); rintro e u3 ⟨rfl, l_, o_⟩; have LA3 : Hid (TalAt u3 A RD RV) := Lib.hid (by rw [← HV.out]; exact l_); have O3 := Lib.hid ((Onl.of_below B2.out).trans o_); clear l_ o_ LA2))
    go_ret
    exact ⟨rfl, LA3.out, O3.out⟩
end Go.Proofs.Ytcehdgdgjjecmaa

/- Geometries as numbers: no program in it. -/
namespace Go.Proofs.Ytcehdgdgjjecmaa.GeoMath
set_option linter.unusedVariables false

structure Gm where
  d : Int
  p : Int
  s : Int
structure Sp where
  n : Int
  lo : Int
  hi : Int
def Sp.ok (s : Sp) : Bool := !(decide (s.n < s.lo) || decide (s.hi < s.n))
def okAll (L : List Sp) : Bool := L.all Sp.ok
def right (g : Gm) : Bool := okAll [⟨g.d, 1, 8⟩, ⟨g.p, 2, 6⟩, ⟨g.s, 1, 8⟩]
structure Rt (g : Gm) : Prop where
  d1 : 1 ≤ g.d
  d8 : g.d ≤ 8
  p2 : 2 ≤ g.p
  p6 : g.p ≤ 6
  s1 : 1 ≤ g.s
  s8 : g.s ≤ 8
theorem ok_iff (s : Sp) : s.ok = true ↔ s.lo ≤ s.n ∧ s.n ≤ s.hi := by simp [Sp.ok]
theorem right_iff (g : Gm) : right g = true ↔ Rt g := by
  rw [right, okAll]
  simp only [List.all_cons, List.all_nil, Bool.and_true, Bool.and_eq_true, ok_iff]
  exact ⟨fun ⟨⟨a, b⟩, ⟨c, d⟩, e, f⟩ => ⟨a, b, c, d, e, f⟩, fun ⟨a, b, c, d, e, f⟩ => ⟨⟨a, b⟩, ⟨c, d⟩, e, f⟩⟩
def wide (g : Gm) : Int := if right g = true then g.d + g.p else 0
def slot (g : Gm) : Int := wide g * g.s
def log (g : Gm) : Int := 3 * slot g
def tal (g : Gm) : Int := log g + 16
def all (g : Gm) : Int := if right g = true then tal g + 2 else 0
def room (g : Gm) : Int := if right g = true then max 0 (60 * g.d * g.s - 48) else 0
def askF (g : Gm) (L : List Sp) : Int := if right g = true then (if okAll L = true then 0 else 2) else 1
theorem wide_yes {g : Gm} (h : right g = true) : wide g = g.d + g.p := if_pos h
theorem wide_no {g : Gm} (h : right g = false) : wide g = 0 := if_neg (by rw [h]; decide)
theorem slot_no {g : Gm} (h : right g = false) : slot g = 0 := by rw [slot, wide_no h, Int.zero_mul]
theorem wide_le (g : Gm) : 0 ≤ wide g ∧ wide g ≤ 14 := by
  cases h : right g with
  | false => rw [wide_no h]; decide
  | true =>
    have hr := (right_iff g).1 h
    rw [wide_yes h]
    have h1 := hr.d1; have h2 := hr.d8; have h3 := hr.p2; have h4 := hr.p6
    omega
theorem slot_le (g : Gm) : 0 ≤ slot g ∧ slot g ≤ 112 := by
  cases h : right g with
  | false => rw [slot_no h]; decide
  | true =>
    have hr := (right_iff g).1 h
    have hw := wide_le g
    have h1 := hr.s1
    have h8 := hr.s8
    rw [slot]
    refine ⟨Int.mul_nonneg hw.1 (by omega), ?_⟩
    have h2 : wide g * g.s ≤ 14 * g.s := Int.mul_le_mul_of_nonneg_right hw.2 (by omega)
    omega
/-- What is wrong with a place: 0 nothing, 1 the geometry, 2 the place. -/
def sectQ (g : Gm) (a b c : Int) : Int := askF g [⟨a, 0, 2⟩, ⟨b, 0, g.s - 1⟩, ⟨c, 0, wide g - 1⟩]
def sect (g : Gm) (a b c : Int) : Int := if sectQ g a b c = 0 then a * slot g + c * g.s + b else 0
def halfQ (g : Gm) (a b : Int) : Int := askF g [⟨a, 0, 1⟩, ⟨b, 0, 1⟩]
def half (g : Gm) (a b : Int) : Int := if halfQ g a b = 0 then log g + (a * 2 + b) * 4 else 0
def talQ (g : Gm) (a : Int) : Int := askF g [⟨a, 0, 1⟩]
def talA (g : Gm) (a : Int) : Int := if talQ g a = 0 then tal g + a else 0
def ofQ (g : Gm) (n : Int) : Int := askF g [⟨n, 0, log g - 1⟩]
theorem ask_cases (g : Gm) (L : List Sp) : (right g = false ∧ askF g L = 1) ∨ (right g = true ∧ okAll L = false ∧ askF g L = 2) ∨ (right g = true ∧ okAll L = true ∧ askF g L = 0) := by
  rw [askF]
  cases right g <;> cases okAll L <;> simp
theorem ask_wrap (g : Gm) (L M : List Sp) (h : right g = true → L = M) : askF g L = askF g M := by
  rw [askF, askF]
  cases hr : right g with
  | false => simp
  | true => rw [h hr]
theorem okAll3 (a b c : Sp) : okAll [a, b, c] = true ↔ (a.lo ≤ a.n ∧ a.n ≤ a.hi) ∧ (b.lo ≤ b.n ∧ b.n ≤ b.hi) ∧ (c.lo ≤ c.n ∧ c.n ≤ c.hi) := by
  simp [okAll, ok_iff]
theorem okAll2 (a b : Sp) : okAll [a, b] = true ↔ (a.lo ≤ a.n ∧ a.n ≤ a.hi) ∧ (b.lo ≤ b.n ∧ b.n ≤ b.hi) := by simp [okAll, ok_iff]
theorem okAll1 (a : Sp) : okAll [a] = true ↔ (a.lo ≤ a.n ∧ a.n ≤ a.hi) := by simp [okAll, ok_iff]
structure SIn (g : Gm) (a b c : Int) : Prop where
  r : Rt g
  a0 : 0 ≤ a
  a2 : a ≤ 2
  b0 : 0 ≤ b
  bs : b < g.s
  c0 : 0 ≤ c
  cw : c < g.d + g.p
theorem sectQ_zero (g : Gm) (a b c : Int) : sectQ g a b c = 0 ↔ SIn g a b c := by
  rw [sectQ]
  rcases ask_cases g [⟨a, 0, 2⟩, ⟨b, 0, g.s - 1⟩, ⟨c, 0, wide g - 1⟩] with ⟨h1, h2⟩ | ⟨h1, h2, h3⟩ | ⟨h1, h2, h3⟩
  · rw [h2]
    refine ⟨fun h => absurd h (by decide), fun h => ?_⟩
    rw [(right_iff g).2 h.r] at h1
    cases h1
  · rw [h3]
    refine ⟨fun h => absurd h (by decide), fun h => ?_⟩
    have : okAll [⟨a, 0, 2⟩, ⟨b, 0, g.s - 1⟩, ⟨c, 0, wide g - 1⟩] = true := (okAll3 _ _ _).2 ⟨⟨h.a0, h.a2⟩, ⟨h.b0, by have := h.bs; show b ≤ g.s - 1; omega⟩, h.c0, by have := h.cw; show c ≤ wide g - 1; rw [wide_yes h1]; omega⟩
    rw [this] at h2
    cases h2
  · rw [h3]
    refine ⟨fun _ => ?_, fun _ => rfl⟩
    obtain ⟨⟨x1, x2⟩, ⟨x3, x4⟩, x5, x6⟩ := (okAll3 _ _ _).1 h2
    dsimp only at x1 x2 x3 x4 x5 x6
    rw [wide_yes h1] at x6
    exact ⟨(right_iff g).1 h1, x1, x2, x3, by omega, x5, by omega⟩
theorem ask3 (g : Gm) (L : List Sp) : askF g L = 0 ∨ askF g L = 1 ∨ askF g L = 2 := by
  rcases ask_cases g L with ⟨_, h⟩ | ⟨_, _, h⟩ | ⟨_, _, h⟩
  · exact Or.inr (Or.inl h)
  · exact Or.inr (Or.inr h)
  · exact Or.inl h
theorem ask_zero {g : Gm} {L : List Sp} (h : askF g L = 0) : Rt g ∧ okAll L = true := by
  rcases ask_cases g L with ⟨_, h2⟩ | ⟨_, _, h2⟩ | ⟨h1, h2, _⟩
  · rw [h2] at h; exact absurd h (by decide)
  · rw [h2] at h; exact absurd h (by decide)
  · exact ⟨(right_iff g).1 h1, h2⟩
theorem slot_yes {g : Gm} (h : Rt g) : slot g = (g.d + g.p) * g.s := by rw [slot, wide_yes ((right_iff g).2 h)]
theorem slot_pos {g : Gm} (h : Rt g) : 3 ≤ slot g := by
  rw [slot_yes h]
  have h1 := h.d1
  have h2 := h.p2
  have h3 := h.s1
  have : 3 * g.s ≤ (g.d + g.p) * g.s := Int.mul_le_mul_of_nonneg_right (by omega) (by omega)
  omega
def ofA (g : Gm) (n : Int) : Int := if ofQ g n = 0 then n / slot g else 0
def ofB (g : Gm) (n : Int) : Int := if ofQ g n = 0 then n % slot g % g.s else 0
def ofC (g : Gm) (n : Int) : Int := if ofQ g n = 0 then n % slot g / g.s else 0
def ofK (g : Gm) (n : Int) : Bool := decide (ofQ g n = 0)
end Go.Proofs.Ytcehdgdgjjecmaa.GeoMath
