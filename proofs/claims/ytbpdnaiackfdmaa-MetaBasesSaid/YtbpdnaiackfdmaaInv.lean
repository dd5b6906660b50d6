/- A region that draws its order, whose operations read, call and make memory but write into none that was there: what each operation yields, shown one by one, in whatever order. -/
import Derived.Test.YtbpdnaiackfdmaaKit
import Derived.RegionTactic
import Derived.StillTail
namespace Go.Proofs.Ytbpdnaiackfdmaa
open Go.RowKit

section
variable {P : Program} {ops : Array Oper} {Q : Exit → Act → World → Prop}

/-- The frame a with what the operations D (number, slot) yielded. -/
def puts (D : List (Nat × Nat)) (a : Act) (u : Nat → Value) : Act := D.foldl (fun a p => a.put (some p.2) (u p.1)) a

def upd (u : Nat → Value) (i : Nat) (v : Value) : Nat → Value := fun j => if j = i then v else u j

theorem put_put (a : Act) (d : Nat) (v v' : Value) : (a.put (some d) v).put (some d) v' = a.put (some d) v' := by
  simp [Act.put]
theorem put_self (a : Act) (d : Nat) : a.put (some d) (a.tmps.getD d undef) = a := by
  simp only [Act.put]
  congr 1
  apply Array.ext_getElem?
  intro i
  rw [Array.getElem?_setIfInBounds]
  split
  · rename_i h
    subst h
    split
    · rename_i h; simp [h]
    · rename_i h; rw [Array.getElem?_eq_none (by omega)]
  · rfl

theorem puts_congr (u u' : Nat → Value) : ∀ (D : List (Nat × Nat)) (a : Act), (∀ p ∈ D, u p.1 = u' p.1) → puts D a u = puts D a u'
  | [], _, _ => rfl
  | p :: D, a, h => by
    show puts D (a.put (some p.2) (u p.1)) u = puts D (a.put (some p.2) (u' p.1)) u'
    rw [h p (List.mem_cons_self ..)]
    exact puts_congr u u' D _ fun q hq => h q (List.mem_cons_of_mem _ hq)

theorem puts_put_out (u : Nat → Value) : ∀ (D : List (Nat × Nat)) (a : Act) (d : Nat) (v : Value), (∀ p ∈ D, p.2 ≠ d) → (puts D a u).put (some d) v = puts D (a.put (some d) v) u
  | [], _, _, _, _ => rfl
  | p :: D, a, d, v, h => by
    show (puts D _ u).put (some d) v = puts D _ u
    rw [puts_put_out u D _ d v fun q hq => h q (List.mem_cons_of_mem _ hq)]
    rw [Act.put_comm a _ _ (fun x hx hy => h p (List.mem_cons_self ..) (by cases hx; cases hy; rfl))]

theorem puts_put (u : Nat → Value) (i d : Nat) (v : Value) : ∀ (D : List (Nat × Nat)) (a : Act), (D.map (·.1)).Nodup → (D.map (·.2)).Nodup → (i, d) ∈ D →
    (puts D a u).put (some d) v = puts D a (upd u i v)
  | p :: D, a, h1, h2, hm => by
    rw [List.map_cons, List.nodup_cons] at h1 h2
    show (puts D _ u).put (some d) v = puts D (a.put (some p.2) (upd u i v p.1)) (upd u i v)
    rcases List.mem_cons.1 hm with rfl | hm
    · rw [puts_put_out u D _ d v (fun q hq e => h2.1 (List.mem_map.2 ⟨q, hq, e⟩)), put_put]
      have e1 : upd u i v i = v := by simp [upd]
      show puts D (a.put (some d) v) u = puts D (a.put (some d) (upd u i v i)) (upd u i v)
      rw [e1]
      refine puts_congr _ _ D _ fun q hq => ?_
      have : q.1 ≠ i := fun e => h1.1 (List.mem_map.2 ⟨q, hq, e⟩)
      simp [upd, this]
    · have hne : p.1 ≠ i := fun e => h1.1 (List.mem_map.2 ⟨(i, d), hm, e.symm⟩)
      have e1 : upd u i v p.1 = u p.1 := by simp [upd, hne]
      rw [e1]
      exact puts_put u i d v D _ h1.2 h2.2 hm

theorem puts_self (u : Nat → Value) (a : Act) : ∀ (D : List (Nat × Nat)), (∀ p ∈ D, u p.1 = a.tmps.getD p.2 undef) → puts D a u = a
  | [], _ => rfl
  | p :: D, h => by
    show puts D (a.put (some p.2) (u p.1)) u = a
    rw [h p (List.mem_cons_self ..), put_self]
    exact puts_self u a D fun q hq => h q (List.mem_cons_of_mem _ hq)

/-- What operation i waits for has come: what each of these yielded is as it should be. -/
def Came (ops : Array Oper) (φ : Nat → Value → World → Prop) (u : Nat → Value) (w : World) (i : Nat) : Prop :=
  ∀ o, ops[i]? = some o → ∀ e ∈ o.after.toList, Region.binds .any e = true → φ e.on (u e.on) w

def waitsB (ops : Array Oper) (i j : Nat) : Bool := (ops[i]?.map fun o => o.after.toList.any fun e => Region.binds .any e && Nat.beq e.on j).getD false
theorem Came.at {φ : Nat → Value → World → Prop} {u : Nat → Value} {w : World} {i : Nat} (h : Came ops φ u w i) (j : Nat) (hw : waitsB ops i j = true) : φ j (u j) w := by
  unfold waitsB at hw
  cases ho : ops[i]? with
  | none => rw [ho] at hw; cases hw
  | some o =>
    rw [ho] at hw
    simp only [Option.map_some, Option.getD_some, List.any_eq_true, Bool.and_eq_true, Nat.beq_eq] at hw
    obtain ⟨e, he, hb, rfl⟩ := hw
    exact h o ho e he hb

theorem mem_ready {listed : Array Bool} {i : Nat} : i ∈ Region.ready .any ops listed ↔
    i < ops.size ∧ listed.getD i true = false ∧ ∃ o, ops[i]? = some o ∧ ∀ e ∈ o.after.toList, Region.binds .any e = true → listed.getD e.on false = true := by
  unfold Region.ready
  rw [List.mem_filter, List.mem_range]
  simp only [Bool.and_eq_true, Bool.not_eq_true']
  constructor
  · rintro ⟨h1, h2, h3⟩
    refine ⟨h1, h2, ?_⟩
    rw [Array.getElem?_eq_getElem h1] at h3
    refine ⟨_, Array.getElem?_eq_getElem h1, fun e he hb => ?_⟩
    simp only [Option.map_some, Option.getD_some, Array.all_eq_true_iff_forall_mem] at h3
    have := h3 e (by simpa using he)
    simpa [hb] using this
  · rintro ⟨h1, h2, o, ho, h3⟩
    refine ⟨h1, h2, ?_⟩
    rw [ho]
    simp only [Option.map_some, Option.getD_some, Array.all_eq_true_iff_forall_mem]
    intro e he
    cases hb : Region.binds .any e with
    | false => simp
    | true => simpa using h3 e (by simpa using he) hb

/-- Each operation waits for none behind it. -/
def ordB (ops : Array Oper) : Bool := (List.range ops.size).all fun i => (ops[i]?.map fun o => o.after.all fun e => decide (e.on < i)).getD true

theorem all_listed (hord : ordB ops = true) {listed : Array Bool} (hs : listed.size = ops.size) (h : Region.ready .any ops listed = []) : ∀ i, listed.getD i true = true := by
  intro i
  induction i using Nat.strongRecOn with
  | ind i ih =>
    cases hi : listed.getD i true with
    | true => rfl
    | false =>
      have hlt : i < ops.size := by
        rw [← hs]
        by_cases hl : i < listed.size
        · exact hl
        · simp [Array.getD, hl] at hi
      have : i ∈ Region.ready .any ops listed := by
        refine mem_ready.2 ⟨hlt, hi, _, Array.getElem?_eq_getElem hlt, fun e he _ => ?_⟩
        unfold ordB at hord
        rw [List.all_eq_true] at hord
        have h1 := hord i (List.mem_range.2 hlt)
        rw [Array.getElem?_eq_getElem hlt] at h1
        simp only [Option.map_some, Option.getD_some, Array.all_eq_true_iff_forall_mem] at h1
        have h2 := h1 e (by simpa using he)
        have hlt2 : e.on < i := by simpa using h2
        have h3 := ih e.on hlt2
        have hl : e.on < listed.size := by omega
        simpa [Array.getD, hl] using h3
      rw [h] at this
      cases this

/-- What an operation yields is what its slot holds then. -/
theorem upon_value {o : Oper} {a : Act} {d : Nat} {R : Value → World → Prop} (hd : o.dst = some d) (hs : d < a.tmps.size) (r : Result Next)
    (h : o.upon P a (fun a' w' => a'.defers = a.defers ∧ R (a'.tmps.getD d undef) w') Q r) : o.upon P a (fun a' w' => ∃ v, a' = a.put (some d) v ∧ R v w') Q r := by
  have hg : ∀ v, (a.put o.dst v).tmps.getD d undef = v := fun v => by rw [hd]; simp [Act.put, hs]
  have hk : ∀ v w', (fun (a' : Act) (w' : World) => a'.defers = a.defers ∧ R (a'.tmps.getD d undef) w') (a.put o.dst v) w' → (fun (a' : Act) (w' : World) => ∃ v, a' = a.put (some d) v ∧ R v w') (a.put o.dst v) w' := fun v w' h => by
    have h2 := h.2
    rw [hg] at h2
    exact ⟨v, by rw [hd], h2⟩
  cases r with
  | ok n w' =>
    cases n with
    | value v => exact hk v w' h
    | skip => exact hk undef w' h
    | defer e =>
      simp only [Oper.upon, hd, Act.put] at h
      have := congrArg List.length h.1
      simp at this
    | enter f args =>
      simp only [Oper.upon] at h ⊢
      refine Calls.mono h fun e w'' he => ?_
      cases e with
      | returned v => exact hk v w'' he
      | panicked c => exact he
      | outgrown => exact he
    | row row args =>
      simp only [Oper.upon] at h ⊢
      exact Rows.mono h fun v w'' he => hk v w'' he
    | _ => exact h
  | halt x w' => cases x <;> exact h
theorem wpOp_value {i d : Nat} {o : Oper} {a : Act} {w : World} {R : Value → World → Prop} (ho : ops[i]? = some o) (hd : o.dst = some d) (hs : d < a.tmps.size)
    (h : wpOp P ops Q i (fun a' w' => a'.defers = a.defers ∧ R (a'.tmps.getD d undef) w') a w) : wpOp P ops Q i (fun a' w' => ∃ v, a' = a.put (some d) v ∧ R v w') a w := by
  unfold wpOp at *
  rw [ho] at h ⊢
  simp only at h ⊢
  split at h
  · rename_i hw
    rw [if_pos hw]
    rcases h with h | h
    · exact Or.inl (upon_value hd hs _ h)
    · exact Or.inr h
  · rename_i hw
    rw [if_neg hw]
    have h2 := h.2
    rw [hd] at h2 ⊢
    refine ⟨undef, rfl, ?_⟩
    simpa [Act.put, hs] using h2
theorem puts_size (u : Nat → Value) : ∀ (D : List (Nat × Nat)) (a : Act), (puts D a u).tmps.size = a.tmps.size
  | [], _ => rfl
  | p :: D, a => by
    show (puts D (a.put (some p.2) (u p.1)) u).tmps.size = _
    rw [puts_size u D]
    simp [Act.put]

theorem region_inv {id : Nat} {a : Act} {w : World} (D : List (Nat × Nat)) (φ : Nat → Value → World → Prop) (G : World → Prop) (hm : P.follows .mixedOrders = true)
    (hord : ordB ops = true) (hD1 : D.map (·.1) = List.range ops.size) (hD2 : (D.map (·.2)).Nodup) (hD3 : (D.all fun p => (ops[p.1]?.bind (·.dst)) == some p.2) = true) (hD4 : (D.all fun p => Nat.blt p.2 a.tmps.size) = true)
    (hmono : ∀ i v w w', φ i v w → Below w.heap.size w w' → φ i v w') (hG : G w.drew)
    (step : ∀ p ∈ D, ∀ u w, G w → Came ops φ u w p.1 →
      wpOp P ops Q p.1 (fun a' w' => a'.defers = (puts D a u).defers ∧ φ p.1 (a'.tmps.getD p.2 undef) w' ∧ G w' ∧ Below w.heap.size w w') (puts D a u) w)
    (fin : ∀ u w, G w → (∀ p ∈ D, φ p.1 (u p.1) w) → Q .normal (puts D a u) w) : (Code.region id ops true).wp P Q a w := by
  refine wp_region_any hm ?_
  have hnd1 : (D.map (·.1)).Nodup := by rw [hD1]; exact List.nodup_range
  have key : ∀ (fuel : Nat) (listed : Array Bool) (w : World) (u : Nat → Value) (L : List Nat), listed.size = ops.size → L.length ≤ fuel → (∀ i, listed.getD i true = false → i ∈ L) → G w →
      (∀ i, i < ops.size → listed.getD i true = true → φ i (u i) w) → wpAny P .any ops Q fuel listed (puts D a u) w := by
    intro fuel
    induction fuel with
    | zero =>
      intro listed w u L hs hL hin hg hφ
      have hall : ∀ i, listed.getD i true = true := fun i => by
        cases hi : listed.getD i true with
        | true => rfl
        | false => have := hin i hi; rw [List.length_eq_zero_iff.1 (Nat.le_zero.1 hL)] at this; cases this
      refine ⟨?_, fin u w hg fun p hp => hφ p.1 ?_ (hall _)⟩
      · rw [List.eq_nil_iff_forall_not_mem]
        intro i hi
        have := (mem_ready.1 hi).2.1
        rw [hall i] at this
        cases this
      · have : p.1 ∈ D.map (·.1) := List.mem_map.2 ⟨p, hp, rfl⟩
        rw [hD1] at this
        exact List.mem_range.1 this
    | succ fuel ih =>
      intro listed w u L hs hL hin hg hφ
      refine ⟨fun hr => fin u w hg fun p hp => hφ p.1 ?_ (all_listed hord hs hr _), fun i hi => ?_⟩
      · have : p.1 ∈ D.map (·.1) := List.mem_map.2 ⟨p, hp, rfl⟩
        rw [hD1] at this
        exact List.mem_range.1 this
      · obtain ⟨h1, h2, o, ho, h3⟩ := mem_ready.1 hi
        have hiD : i ∈ D.map (·.1) := by rw [hD1]; exact List.mem_range.2 h1
        obtain ⟨⟨i', d⟩, hp, rfl⟩ := List.mem_map.1 hiD
        have hst := step _ hp u w hg (fun o' ho' e he hb => by
          have heq : o' = o := Option.some.inj (ho'.symm.trans ho)
          subst heq
          have hl := h3 e he hb
          have hlt : e.on < ops.size := by
            rw [← hs]
            by_cases hl2 : e.on < listed.size
            · exact hl2
            · simp [Array.getD, hl2] at hl
          refine hφ e.on hlt ?_
          have hl2 : e.on < listed.size := by omega
          simpa [Array.getD, hl2] using hl)
        have hd3 := List.all_eq_true.1 hD3 _ hp
        have hd4 := List.all_eq_true.1 hD4 _ hp
        simp only [ho, Option.bind_some, beq_iff_eq] at hd3
        have hd5 : d < a.tmps.size := by simp [Nat.blt] at hd4; omega
        have hst2 := wpOp_value (R := fun v w' => φ i' v w' ∧ G w' ∧ Below w.heap.size w w') ho hd3 (by rw [puts_size]; exact hd5) hst
        clear hst
        refine wpOp_mono ?_ hst2
        rintro a' w' ⟨v, rfl, hv, hg', hb'⟩
        rw [puts_put u i' d v D a hnd1 hD2 hp]
        refine ih _ w' (upd u i' v) (L.erase i') (by simpa using hs) ?_ ?_ hg' ?_
        · rw [List.length_erase_of_mem (hin i' h2)]
          omega
        · intro j hj
          have hji : j ≠ i' := fun e => by
            subst e
            have : j < listed.size := by omega
            simp [Array.getD, this] at hj
          refine (List.mem_erase_of_ne hji).2 (hin j ?_)
          simp only [Array.getD] at hj ⊢
          split at hj
          · rename_i hl
            rw [Array.size_setIfInBounds] at hl
            rw [dif_pos hl]
            rwa [Array.getInternal_eq_getElem, Array.getElem_setIfInBounds_ne (h := Ne.symm hji)] at hj
          · cases hj
        · intro j hj hl
          by_cases hji : j = i'
          · subst hji
            simpa [upd] using hv
          · have e1 : upd u i' v j = u j := by simp [upd, hji]
            rw [e1]
            refine hmono j _ w w' (hφ j hj ?_) hb'
            have hl2 : j < listed.size := by omega
            simp only [Array.getD, Array.size_setIfInBounds, hl2, dif_pos, Array.getInternal_eq_getElem] at hl ⊢
            rwa [Array.getElem_setIfInBounds_ne (h := Ne.symm hji)] at hl
  have hu : ∃ u : Nat → Value, puts D a u = a := by
    refine ⟨fun i => ((D.find? fun p => p.1 == i).map fun p => a.tmps.getD p.2 undef).getD undef, puts_self _ _ _ fun p hp => ?_⟩
    have : D.find? (fun q => q.1 == p.1) = some p := by
      clear fin step hD2 hD1 hD3 hD4 key
      induction D with
      | nil => cases hp
      | cons q D ih =>
        rw [List.map_cons, List.nodup_cons] at hnd1
        rcases List.mem_cons.1 hp with rfl | hp
        · simp
        · have hne : (q.1 == p.1) = false := by
            rw [beq_eq_false_iff_ne]
            intro e
            exact hnd1.1 (List.mem_map.2 ⟨p, hp, e.symm⟩)
          rw [List.find?_cons, hne]
          exact ih hnd1.2 hp
    simp only [this, Option.map_some, Option.getD_some]
  obtain ⟨u, hu⟩ := hu
  have := key ops.size (Array.replicate ops.size false) w.drew u (List.range ops.size) (by simp) (by simp) (fun i hi => by
    rw [List.mem_range]
    by_cases hl : i < ops.size
    · exact hl
    · simp [Array.getD, hl] at hi) hG (fun i hi hl => by simp [Array.getD, hi] at hl)
  rw [hu] at this
  exact this

/-- Operation i waits, by some steps, for operation j. -/
def reachB (ops : Array Oper) : Nat → Nat → Nat → Bool
  | 0, _, _ => false
  | f + 1, i, j => (ops[i]?.map fun o => o.after.toList.any fun e => Region.binds .any e && (Nat.beq e.on j || reachB ops f e.on j)).getD false
/-- Whatever stands from n on waits for all that stands ahead of n. -/
def closeB (ops : Array Oper) (n f : Nat) : Bool := (List.range ops.size).all fun i => Nat.blt i n || (List.range n).all fun j => reachB ops f i j
def Anc (ops : Array Oper) (listed : Array Bool) : Prop := ∀ i o, ops[i]? = some o → listed.getD i false = true → ∀ e ∈ o.after.toList, Region.binds .any e = true → listed.getD e.on false = true
theorem reach_listed {listed : Array Bool} (h : Anc ops listed) : ∀ (f i j : Nat), (∀ o, ops[i]? = some o → ∀ e ∈ o.after.toList, Region.binds .any e = true → listed.getD e.on false = true) → reachB ops f i j = true → listed.getD j false = true
  | 0, _, _, _, hr => by cases hr
  | f + 1, i, j, hi, hr => by
    rw [reachB] at hr
    cases ho : ops[i]? with
    | none => rw [ho] at hr; cases hr
    | some o =>
      rw [ho] at hr
      simp only [Option.map_some, Option.getD_some, List.any_eq_true, Bool.and_eq_true, Bool.or_eq_true, Nat.beq_eq] at hr
      obtain ⟨e, he, hb, hr⟩ := hr
      have hl := hi o ho e he hb
      rcases hr with rfl | hr
      · exact hl
      · exact reach_listed h f e.on j (fun o' ho' e' he' hb' => h e.on o' ho' hl e' he' hb') hr
theorem getD_set_self {l : Array Bool} {i : Nat} (h : i < l.size) : (l.setIfInBounds i true).getD i false = true := by simp [Array.getD, h]
theorem getD_set_other {l : Array Bool} {i j : Nat} {d : Bool} (h : i ≠ j) : (l.setIfInBounds i true).getD j d = l.getD j d := by
  simp only [Array.getD, Array.size_setIfInBounds]
  split
  · rename_i hl
    rw [Array.getInternal_eq_getElem, Array.getElem_setIfInBounds_ne (h := h)]
    rfl
  · rfl

/-- A region whose first n operations, in whatever order, only read, call and make memory, and whose last ones wait for all of these and come one by one. -/
theorem region_tail {id : Nat} {a : Act} {w : World} (n : Nat) (D : List (Nat × Nat)) (φ : Nat → Value → World → Prop) (G : World → Prop) (hm : P.follows .mixedOrders = true) (hn : n ≤ ops.size)
    (hord : ordB ops = true) (hcl : closeB ops n ops.size = true) (hseq : Region.seqB .any ops (ops.size - n) n ((Array.range ops.size).map (Nat.blt · n)) = true)
    (hD1 : D.map (·.1) = List.range n) (hD2 : (D.map (·.2)).Nodup) (hD3 : (D.all fun p => (ops[p.1]?.bind (·.dst)) == some p.2) = true) (hD4 : (D.all fun p => Nat.blt p.2 a.tmps.size) = true)
    (hmono : ∀ i v w w', φ i v w → Below w.heap.size w w' → φ i v w') (hG : G w.drew)
    (step : ∀ p ∈ D, ∀ u w, G w → Came ops φ u w p.1 →
      wpOp P ops Q p.1 (fun a' w' => a'.defers = (puts D a u).defers ∧ φ p.1 (a'.tmps.getD p.2 undef) w' ∧ G w' ∧ Below w.heap.size w w') (puts D a u) w)
    (fin : ∀ u w, G w → (∀ p ∈ D, φ p.1 (u p.1) w) → wpList P ops Q (ops.toList.drop n) (puts D a u) w) : (Code.region id ops true).wp P Q a w := by
  refine wp_region_any hm ?_
  have hnd1 : (D.map (·.1)).Nodup := by rw [hD1]; exact List.nodup_range
  have hclose : ∀ i, n ≤ i → i < ops.size → ∀ j, j < n → reachB ops ops.size i j = true := by
    intro i h1 h2 j hj
    have := List.all_eq_true.1 hcl i (List.mem_range.2 h2)
    rw [Bool.or_eq_true] at this
    rcases this with h | h
    · simp [Nat.blt] at h; omega
    · exact List.all_eq_true.1 h j (List.mem_range.2 hj)
  have key : ∀ (m : Nat) (L : List Nat) (listed : Array Bool) (w : World) (u : Nat → Value), L.length = m → L.Nodup → listed.size = ops.size → (∀ i, i < n → (listed.getD i false = false ↔ i ∈ L)) → (∀ i ∈ L, i < n) →
      (∀ i, n ≤ i → listed.getD i false = false) → Anc ops listed → G w → (∀ i, i < n → listed.getD i false = true → φ i (u i) w) → wpAny P .any ops Q (m + (ops.size - n)) listed (puts D a u) w := by
    intro m
    induction m with
    | zero =>
      intro L listed w u hL _ hs hin _ hout _ hg hφ
      have hLe : L = [] := List.length_eq_zero_iff.1 hL
      subst hLe
      have hall : ∀ i, i < n → listed.getD i false = true := fun i hi => by
        cases h : listed.getD i false with
        | true => rfl
        | false => have := (hin i hi).1 h; cases this
      have el : listed = (Array.range ops.size).map (Nat.blt · n) := by
        apply Array.ext
        · simp [hs]
        · intro i h1 h2
          rw [Array.getElem_map, Array.getElem_range]
          have e1 : listed.getD i false = listed[i] := by simp [Array.getD, h1]
          rw [← e1]
          have hb : Nat.blt i n = decide (i < n) := by
            rw [Bool.eq_iff_iff, decide_eq_true_eq]
            exact Iff.of_eq Nat.ble_eq
          rw [hb]
          by_cases hi : i < n
          · rw [hall i hi, decide_eq_true hi]
          · rw [hout i (by omega), decide_eq_false hi]
      have hlen : (ops.toList.drop n).length = ops.size - n := by simp
      rw [Nat.zero_add, ← hlen]
      refine wpAny_of_seq (ops.toList.drop n) n listed _ w (fun j => by simp) (by rw [hlen, el]; exact hseq) (fin u w hg fun p hp => hφ p.1 ?_ ?_)
      · have : p.1 ∈ D.map (·.1) := List.mem_map.2 ⟨p, hp, rfl⟩
        rw [hD1] at this
        exact List.mem_range.1 this
      · have : p.1 ∈ D.map (·.1) := List.mem_map.2 ⟨p, hp, rfl⟩
        rw [hD1] at this
        exact hall _ (List.mem_range.1 this)
    | succ m ih =>
      intro L listed w u hL hnd hs hin hLn hout hanc hg hφ
      have hne : ∃ i0, i0 ∈ L := by
        cases L with
        | nil => cases hL
        | cons i0 L => exact ⟨i0, List.mem_cons_self ..⟩
      obtain ⟨i0, hi0⟩ := hne
      have hi0n := hLn i0 hi0
      have hi0f := (hin i0 hi0n).2 hi0
      rw [Nat.succ_add]
      refine ⟨fun hr => ?_, fun i hi => ?_⟩
      · have := all_listed hord hs hr i0
        have hl : i0 < listed.size := by omega
        simp [Array.getD, hl] at this hi0f
        rw [this] at hi0f
        cases hi0f
      · obtain ⟨h1, h2, o, ho, h3⟩ := mem_ready.1 hi
        have hin' : i < n := by
          by_cases hlt : i < n
          · exact hlt
          · have := reach_listed hanc ops.size i i0 (fun o' ho' e he hb => by
              obtain rfl := Option.some.inj (ho'.symm.trans ho)
              exact h3 e he hb) (hclose i (by omega) h1 i0 hi0n)
            rw [hi0f] at this
            cases this
        have hil : i < listed.size := by omega
        have h2f : listed.getD i false = false := by simp [Array.getD, hil] at h2 ⊢; exact h2
        have hiL := (hin i hin').1 h2f
        have hiD : i ∈ D.map (·.1) := by rw [hD1]; exact List.mem_range.2 hin'
        obtain ⟨⟨i', d⟩, hp, rfl⟩ := List.mem_map.1 hiD
        simp only at h1 h2 ho h3 hin' hil h2f hiL
        have hst := step _ hp u w hg (fun o' ho' e he hb => by
          obtain rfl := Option.some.inj (ho'.symm.trans ho)
          have hl := h3 e he hb
          have hen : e.on < n := by
            by_cases hlt : e.on < n
            · exact hlt
            · rw [hout e.on (by omega)] at hl; cases hl
          exact hφ e.on hen hl)
        have hd3 := List.all_eq_true.1 hD3 _ hp
        have hd4 := List.all_eq_true.1 hD4 _ hp
        simp only [ho, Option.bind_some, beq_iff_eq] at hd3
        have hd5 : d < a.tmps.size := by simp [Nat.blt] at hd4; omega
        have hst2 := wpOp_value (R := fun v w' => φ i' v w' ∧ G w' ∧ Below w.heap.size w w') ho hd3 (by rw [puts_size]; exact hd5) hst
        clear hst
        refine wpOp_mono ?_ hst2
        rintro a' w' ⟨v, rfl, hv, hg', hb'⟩
        rw [puts_put u i' d v D a hnd1 hD2 hp]
        refine ih (L.erase i') _ w' (upd u i' v) (by rw [List.length_erase_of_mem hiL]; omega) (hnd.erase i') (by simpa using hs) ?_ (fun j hj => hLn j (List.mem_of_mem_erase hj)) ?_ ?_ hg' ?_
        · intro j hj
          by_cases e : i' = j
          · subst e
            rw [getD_set_self hil]
            constructor
            · intro h; cases h
            · intro h; exact absurd h (hnd.not_mem_erase)
          · rw [getD_set_other e, hin j hj]
            exact (List.mem_erase_of_ne (Ne.symm e)).symm
        · intro j hj
          rw [getD_set_other (by omega)]
          exact hout j hj
        · intro j o' ho' hl e he hb
          by_cases ej : i' = j
          · subst ej
            obtain rfl := Option.some.inj (ho'.symm.trans ho)
            have := h3 e he hb
            by_cases e2 : i' = e.on
            · rw [← e2, getD_set_self hil]
            · rw [getD_set_other e2]; exact this
          · rw [getD_set_other ej] at hl
            have := hanc j o' ho' hl e he hb
            by_cases e2 : i' = e.on
            · rw [← e2, getD_set_self hil]
            · rw [getD_set_other e2]; exact this
        · intro j hj hl
          by_cases hji : j = i'
          · subst hji
            simpa [upd] using hv
          · have e1 : upd u i' v j = u j := by simp [upd, hji]
            rw [e1]
            rw [getD_set_other (Ne.symm hji)] at hl
            exact hmono j _ w w' (hφ j hj hl) hb'
  have hu : ∃ u : Nat → Value, puts D a u = a := by
    refine ⟨fun i => ((D.find? fun p => p.1 == i).map fun p => a.tmps.getD p.2 undef).getD undef, puts_self _ _ _ fun p hp => ?_⟩
    have : D.find? (fun q => q.1 == p.1) = some p := by
      clear fin step hD2 hD1 hD3 hD4 key
      induction D with
      | nil => cases hp
      | cons q D ih =>
        rw [List.map_cons, List.nodup_cons] at hnd1
        rcases List.mem_cons.1 hp with rfl | hp
        · simp
        · have hne : (q.1 == p.1) = false := by
            rw [beq_eq_false_iff_ne]
            intro e
            exact hnd1.1 (List.mem_map.2 ⟨p, hp, e.symm⟩)
          rw [List.find?_cons, hne]
          exact ih hnd1.2 hp
    simp only [this, Option.map_some, Option.getD_some]
  obtain ⟨u, hu⟩ := hu
  have hf : ∀ i, (Array.replicate ops.size false).getD i false = false := fun i => by
    by_cases h : i < ops.size <;> simp [Array.getD, h]
  have := key n (List.range n) (Array.replicate ops.size false) w.drew u (by simp) List.nodup_range (by simp) (fun i hi => by rw [hf]; simpa using hi) (fun i hi => List.mem_range.1 hi) (fun i _ => hf i)
    (fun i o _ hl => by rw [hf] at hl; cases hl) hG (fun i _ hl => by rw [hf] at hl; cases hl)
  rw [hu, show n + (ops.size - n) = ops.size by omega] at this
  exact this
end

/-! What operations yield. -/
def Is (x : Value) : Value → World → Prop := fun v _ => v = x
/-- A new slice that holds xs. -/
def New (xs : List Value) : Value → World → Prop := fun v w => ∃ b, v = .slice (some ⟨b, 0, none⟩) xs.length xs.length ∧ Lies w w.heap.size (some ⟨b, 0, none⟩) xs
def Monot (φ : Value → World → Prop) : Prop := ∀ v w w', φ v w → Below w.heap.size w w' → φ v w'
theorem Is.monot (x : Value) : Monot (Is x) := fun _ _ _ h _ => h
theorem New.monot (xs : List Value) : Monot (New xs) := fun _ _ _ ⟨b, h1, h2⟩ hb => ⟨b, h1, h2.step hb⟩

end Go.Proofs.Ytbpdnaiackfdmaa
