/- As region_store, where operations stand behind the one that writes, too. -/
import Derived.Test.YtbpdnaiackfdmaaInvS
namespace Go.Proofs.Ytbpdnaiackfdmaa
open Go.RowKit

section
variable {P : Program} {ops : Array Oper} {Q : Exit → Act → World → Prop}

theorem region_storeT {id : Nat} {a : Act} {w : World} (s k : Nat) (X : List Nat) (hkX : k ∉ X) (D : List (Nat × Nat)) (φ : Nat → Value → World → Prop) (G : World → Prop) (H : Value → World → Prop) (hm : P.follows .mixedOrders = true)
    (hsz : s < ops.size) (hord : ordX ops = true) (hcl : ((List.range ops.size).all fun j => (j == s) || X.contains j || reachB ops ops.size s j) = true)
    (hD1 : D.map (·.1) = (List.range ops.size).filter fun j => j != s) (hD2 : (D.map (·.2)).Nodup) (hD3 : (D.all fun p => (ops[p.1]?.bind (·.dst)) == some p.2) = true) (hD4 : (D.all fun p => Nat.blt p.2 a.tmps.size) = true)
    (hS : (ops[s]?.map (·.dst)) = some none) (hmono : ∀ i v w w', φ i v w → Below w.heap.size w w' → φ i v w') (hG : G w.drew)
    (step : ∀ p ∈ D, waitsB ops p.1 s = false → ∀ u w, G w → Came ops φ u w p.1 →
      wpOp P ops Q p.1 (fun a' w' => a'.defers = (puts D a u).defers ∧ φ p.1 (a'.tmps.getD p.2 undef) w' ∧ G w' ∧ Below w.heap.size w w') (puts D a u) w)
    (stepX : ∀ p ∈ D, p.1 ∈ X → ∀ u w, H (u k) w → Came ops (fun i v _ => i ≠ s → ∃ w1, φ i v w1) u w p.1 →
      wpOp P ops Q p.1 (fun a' w' => a'.defers = (puts D a u).defers ∧ (∃ w1, φ p.1 (a'.tmps.getD p.2 undef) w1) ∧ H (u k) w') (puts D a u) w)
    (stepS : ∀ u w, G w → (∀ p ∈ D, p.1 ∉ X → φ p.1 (u p.1) w) → wpOp P ops Q s (fun a' w' => a'.defers = (puts D a u).defers ∧ H (u k) w') (puts D a u) w)
    (fin : ∀ u w, H (u k) w → (∀ p ∈ D, ∃ w1, φ p.1 (u p.1) w1) → Q .normal (puts D a u) w) : (Code.region id ops true).wp P Q a w := by
  refine wp_region_any hm ?_
  have hnd1 : (D.map (·.1)).Nodup := by rw [hD1]; exact List.nodup_range.filter _
  have hmemD : ∀ i, i < ops.size → i ≠ s → ∃ d, (i, d) ∈ D := fun i hi hne => by
    have : i ∈ D.map (·.1) := by rw [hD1]; exact List.mem_filter.2 ⟨List.mem_range.2 hi, by simpa using hne⟩
    obtain ⟨⟨i', d⟩, hp, rfl⟩ := List.mem_map.1 this
    exact ⟨d, hp⟩
  have hltD : ∀ p ∈ D, p.1 < ops.size ∧ p.1 ≠ s := fun p hp => by
    have : p.1 ∈ D.map (·.1) := List.mem_map.2 ⟨p, hp, rfl⟩
    rw [hD1] at this
    have h := List.mem_filter.1 this
    exact ⟨List.mem_range.1 h.1, by simpa using h.2⟩
  have hclX : ∀ j, j < ops.size → j ≠ s → j ∉ X → reachB ops ops.size s j = true := fun j hj hne hx => by
    have := List.all_eq_true.1 hcl j (List.mem_range.2 hj)
    rw [Bool.or_eq_true, Bool.or_eq_true] at this
    rcases this with (h | h) | h
    · exact absurd (by simpa using h) hne
    · exact absurd (by simpa using h) hx
    · exact h
  have hslot : ∀ p ∈ D, ∀ o, ops[p.1]? = some o → o.dst = some p.2 ∧ p.2 < a.tmps.size := fun p hp o ho => by
    have hd3 := List.all_eq_true.1 hD3 _ hp
    have hd4 := List.all_eq_true.1 hD4 _ hp
    simp only [ho, Option.bind_some, beq_iff_eq] at hd3
    exact ⟨hd3, by simp [Nat.blt] at hd4; omega⟩
  -- behind the write
  have keyB : ∀ (fuel : Nat) (listed : Array Bool) (w : World) (u : Nat → Value) (L : List Nat), listed.size = ops.size → L.length ≤ fuel → (∀ i, listed.getD i true = false → i ∈ L) → H (u k) w →
      (∀ i, listed.getD i true = false → i ≠ s ∧ i ∈ X) → (∀ i, i < ops.size → i ≠ s → listed.getD i true = true → ∃ w1, φ i (u i) w1) → wpAny P .any ops Q fuel listed (puts D a u) w := by
    intro fuel
    induction fuel with
    | zero =>
      intro listed w u L hs hL hin hh hX hφ
      have hall : ∀ i, listed.getD i true = true := fun i => by
        cases hi : listed.getD i true with
        | true => rfl
        | false => have := hin i hi; rw [List.length_eq_zero_iff.1 (Nat.le_zero.1 hL)] at this; cases this
      refine ⟨?_, fin u w hh fun p hp => hφ p.1 (hltD p hp).1 (hltD p hp).2 (hall _)⟩
      rw [List.eq_nil_iff_forall_not_mem]
      intro i hi
      have := (mem_ready.1 hi).2.1
      rw [hall i] at this
      cases this
    | succ fuel ih =>
      intro listed w u L hs hL hin hh hX hφ
      refine ⟨fun hr => fin u w hh fun p hp => hφ p.1 (hltD p hp).1 (hltD p hp).2 (all_listedX hord hs hr _), fun i hi => ?_⟩
      obtain ⟨h1, h2, o, ho, h3⟩ := mem_ready.1 hi
      obtain ⟨his, hiX⟩ := hX i h2
      obtain ⟨d, hp⟩ := hmemD i h1 his
      have hst := stepX _ hp hiX u w hh (fun o' ho' e he hb => by
        obtain rfl := Option.some.inj (ho'.symm.trans ho)
        have hl := h3 e he hb
        have hlt : e.on < ops.size := by
          rw [← hs]
          by_cases hl2 : e.on < listed.size
          · exact hl2
          · simp [Array.getD, hl2] at hl
        intro hes
        refine hφ e.on hlt hes ?_
        rw [getD_tf (by omega)]
        exact hl)
      obtain ⟨hd3, hd5⟩ := hslot _ hp o ho
      have hst2 := wpOp_value (R := fun v w' => (∃ w1, φ i v w1) ∧ H (u k) w') ho hd3 (by rw [puts_size]; exact hd5) hst
      refine wpOp_mono ?_ hst2
      rintro a' w' ⟨v, rfl, hv, hh'⟩
      rw [puts_put u i d v D a hnd1 hD2 hp]
      have eku : upd u i v k = u k := by simp [upd]; intro e; rw [e] at hkX; exact absurd hiX hkX
      refine ih _ w' (upd u i v) (L.erase i) (by simpa using hs) ?_ ?_ (by rw [eku]; exact hh') ?_ ?_
      · rw [List.length_erase_of_mem (hin i h2)]
        omega
      · intro j hj
        have hji : j ≠ i := fun e => by
          subst e
          have : j < listed.size := by omega
          simp [Array.getD, this] at hj
        rw [getD_set_other (Ne.symm hji)] at hj
        exact (List.mem_erase_of_ne hji).2 (hin j hj)
      · intro j hj
        have hji : j ≠ i := fun e => by
          subst e
          have : j < listed.size := by omega
          simp [Array.getD, this] at hj
        rw [getD_set_other (Ne.symm hji)] at hj
        exact hX j hj
      · intro j hj hjs hl
        by_cases hji : j = i
        · subst hji
          simpa [upd] using hv
        · have e1 : upd u i v j = u j := by simp [upd, hji]
          rw [e1]
          rw [getD_set_other (Ne.symm hji)] at hl
          exact hφ j hj hjs hl
  -- ahead of the write
  have keyA : ∀ (fuel : Nat) (listed : Array Bool) (w : World) (u : Nat → Value) (L : List Nat), listed.size = ops.size → L.length ≤ fuel → (∀ i, listed.getD i true = false → i ∈ L) → listed.getD s true = false → Anc ops listed → G w →
      (∀ i, i < ops.size → i ≠ s → listed.getD i true = true → φ i (u i) w) → wpAny P .any ops Q fuel listed (puts D a u) w := by
    intro fuel
    induction fuel with
    | zero =>
      intro listed w u L hs hL hin hns _ hg hφ
      have := hin s hns
      rw [List.length_eq_zero_iff.1 (Nat.le_zero.1 hL)] at this
      cases this
    | succ fuel ih =>
      intro listed w u L hs hL hin hns hanc hg hφ
      refine ⟨fun hr => ?_, fun i hi => ?_⟩
      · have := all_listedX hord hs hr s
        rw [hns] at this
        cases this
      · obtain ⟨h1, h2, o, ho, h3⟩ := mem_ready.1 hi
        have hancn : Anc ops (listed.setIfInBounds i true) := by
          intro j o' ho' hl e he hb
          by_cases ej : i = j
          · subst ej
            obtain rfl := Option.some.inj (ho'.symm.trans ho)
            have := h3 e he hb
            by_cases e2 : i = e.on
            · rw [← e2, getD_set_self (by omega)]
            · rw [getD_set_other e2]; exact this
          · rw [getD_set_other ej] at hl
            have := hanc j o' ho' hl e he hb
            by_cases e2 : i = e.on
            · rw [← e2, getD_set_self (by omega)]
            · rw [getD_set_other e2]; exact this
        by_cases his : i = s
        · subst his
          have hall : ∀ j, j < ops.size → j ≠ i → j ∉ X → listed.getD j false = true := fun j hj hne hx =>
            reach_listed hanc ops.size i j (fun o' ho' e he hb => by
              obtain rfl := Option.some.inj (ho'.symm.trans ho)
              exact h3 e he hb) (hclX j hj hne hx)
          have hod : o.dst = none := by
            rw [ho] at hS
            simpa using hS
          refine wpOp_mono ?_ (wpOp_none ho hod (stepS u w hg fun p hp hx => hφ p.1 (hltD p hp).1 (hltD p hp).2 (by rw [getD_tf (by have := (hltD p hp).1; omega)]; exact hall p.1 (hltD p hp).1 (hltD p hp).2 hx)))
          rintro a' w' ⟨rfl, hh⟩
          refine keyB fuel _ w' u (L.erase i) (by simpa using hs) ?_ ?_ hh ?_ ?_
          · rw [List.length_erase_of_mem (hin i h2)]
            omega
          · intro j hj
            have hji : j ≠ i := fun e => by
              subst e
              have : j < listed.size := by omega
              simp [Array.getD, this] at hj
            rw [getD_set_other (Ne.symm hji)] at hj
            exact (List.mem_erase_of_ne hji).2 (hin j hj)
          · intro j hj
            have hji : j ≠ i := fun e => by
              subst e
              have : j < listed.size := by omega
              simp [Array.getD, this] at hj
            rw [getD_set_other (Ne.symm hji)] at hj
            have hjl : j < listed.size := by
              by_cases hl : j < listed.size
              · exact hl
              · simp [Array.getD, hl] at hj
            refine ⟨hji, Classical.byContradiction fun hx => ?_⟩
            have := hall j (by omega) hji hx
            rw [← getD_tf hjl, hj] at this
            cases this
          · intro j hj hjs hl
            rw [getD_set_other (Ne.symm hjs)] at hl
            exact ⟨w, hφ j hj hjs hl⟩
        · obtain ⟨d, hp⟩ := hmemD i h1 his
          have hws : waitsB ops i s = false := by
            cases hw : waitsB ops i s with
            | false => rfl
            | true =>
              unfold waitsB at hw
              rw [ho] at hw
              simp only [Option.map_some, Option.getD_some, List.any_eq_true, Bool.and_eq_true, Nat.beq_eq] at hw
              obtain ⟨e, he, hb, rfl⟩ := hw
              have hl := h3 e he hb
              rw [← getD_tf (by omega), hns] at hl
              cases hl
          have hst := step _ hp hws u w hg (fun o' ho' e he hb => by
            obtain rfl := Option.some.inj (ho'.symm.trans ho)
            have hl := h3 e he hb
            have hlt : e.on < listed.size := by
              by_cases hl2 : e.on < listed.size
              · exact hl2
              · simp [Array.getD, hl2] at hl
            have hes : e.on ≠ s := fun e2 => by
              rw [e2] at hl
              rw [← getD_tf (by omega), hns] at hl
              cases hl
            refine hφ e.on (by omega) hes ?_
            rw [getD_tf hlt]
            exact hl)
          obtain ⟨hd3, hd5⟩ := hslot _ hp o ho
          have hst2 := wpOp_value (R := fun v w' => φ i v w' ∧ G w' ∧ Below w.heap.size w w') ho hd3 (by rw [puts_size]; exact hd5) hst
          refine wpOp_mono ?_ hst2
          rintro a' w' ⟨v, rfl, hv, hg', hb'⟩
          rw [puts_put u i d v D a hnd1 hD2 hp]
          refine ih _ w' (upd u i v) (L.erase i) (by simpa using hs) ?_ ?_ (by rw [getD_set_other his]; exact hns) hancn hg' ?_
          · rw [List.length_erase_of_mem (hin i h2)]
            omega
          · intro j hj
            have hji : j ≠ i := fun e => by
              subst e
              have : j < listed.size := by omega
              simp [Array.getD, this] at hj
            rw [getD_set_other (Ne.symm hji)] at hj
            exact (List.mem_erase_of_ne hji).2 (hin j hj)
          · intro j hj hjs hl
            by_cases hji : j = i
            · subst hji
              simpa [upd] using hv
            · have e1 : upd u i v j = u j := by simp [upd, hji]
              rw [e1]
              rw [getD_set_other (Ne.symm hji)] at hl
              exact hmono j _ w w' (hφ j hj hjs hl) hb'
  have hu : ∃ u : Nat → Value, puts D a u = a := by
    refine ⟨fun i => ((D.find? fun p => p.1 == i).map fun p => a.tmps.getD p.2 undef).getD undef, puts_self _ _ _ fun p hp => ?_⟩
    have : D.find? (fun q => q.1 == p.1) = some p := by
      clear fin step stepX stepS hD2 hD1 hD3 hD4 keyA keyB hmemD hltD hslot
      induction D with
      | nil => cases hp
      | cons q D ih =>
        rw [List.map_cons, List.nodup_cons] at hnd1
        rcases List.mem_cons.1 hp with rfl | hp
        · simp
        · have hne : (q.1 == p.1) = false := by
            rw [beq_eq_false_iff_ne]
            intro e
            exact hnd1.1 (List.mem_map.2 ⟨p, hp, e.symm⟩)
          rw [List.find?_cons, hne]
          exact ih hnd1.2 hp
    simp only [this, Option.map_some, Option.getD_some]
  obtain ⟨u, hu⟩ := hu
  have hfF : ∀ i, (Array.replicate ops.size false).getD i false = false := fun i => by
    by_cases h : i < ops.size <;> simp [Array.getD, h]
  have := keyA ops.size (Array.replicate ops.size false) w.drew u (List.range ops.size) (by simp) (by simp) (fun i hi => by
    rw [List.mem_range]
    by_cases hl : i < ops.size
    · exact hl
    · simp [Array.getD, hl] at hi) (by simp [Array.getD, hsz]) (fun i o _ hl => by rw [hfF] at hl; cases hl) hG (fun i hi _ hl => by
    simp [Array.getD, hi] at hl)
  rw [hu] at this
  exact this
end

end Go.Proofs.Ytbpdnaiackfdmaa
