/- What Base tells, done from the beginning on (mathematics). -/
import Derived.Test.YtbpdnaiackfdmaaMetO
import Derived.Test.YtbpdnaiackfdmaaMetMath3
namespace Go.Proofs.Ytbpdnaiackfdmaa
open Go.RowKit MetMath
set_option linter.unusedVariables false
set_option linter.unusedSimpArgs false

theorem allF_append {x y z : Mt} {e : Int} {l k : List Rc} (h : allF x l = (y, 0)) (hk : allF y k = (z, e)) : allF x (l ++ k) = (z, e) := by
  induction l generalizing x with
  | nil =>
    simp only [allF, Prod.mk.injEq] at h
    rw [List.nil_append, h.1]
    exact hk
  | cons r l ih =>
    rw [List.cons_append, allF]
    rw [allF] at h
    split at h
    · rename_i h0
      rw [if_pos h0]
      exact ih h
    · rename_i h0
      simp only [Prod.mk.injEq] at h
      exact absurd h.2 h0
theorem allF_one {x y : Mt} {r : Rc} (h : Rc.doo x r = (y, 0)) : allF x [r] = (y, 0) := by
  simp [allF, h]
theorem allF_more {x y : Mt} {k s v : Int} (h : v ≠ 0 → Rc.doo x ⟨k, s, 0, v⟩ = (y, 0)) (h0 : v = 0 → x = y) : allF x (more k s v) = (y, 0) := by
  unfold more
  split
  · rename_i hv
    rw [h0 hv]
    rfl
  · rename_i hv
    exact allF_one (h hv)
theorem rOk_of {k s v : Int} (hk : 0 ≤ k ∧ k < 128) (hs : 0 ≤ s ∧ s < 4) (hv : Vl v) : rOk k s 0 v = true := by
  unfold rOk
  rw [decide_eq_true_eq]
  exact ⟨hk.1, hk.2, hs.1, hs.2, by omega, by omega, hv.1, by have := hv.2; omega⟩
theorem doo_rule {x y : Mt} {k s v : Int} (hk : 0 ≤ k ∧ k < 128) (hs : 0 ≤ s ∧ s < 3) (hv : Vl v) (h : x.rule k s v = some (true, y)) : Rc.doo x ⟨k, s, 0, v⟩ = (y, 0) := by
  unfold Rc.doo Mt.doo
  have hS : isS s = true := by simp only [isS, Bool.and_eq_true, decide_eq_true_eq]; exact hs
  rw [rOk_of hk ⟨hs.1, by omega⟩ hv, hS, if_neg (by simp), h]
theorem doo_is (x : Mt) (st i v : Int) (hs : 0 ≤ st ∧ st < 6) (hi : 0 ≤ i ∧ i < 3) (hv : Vl v) : Rc.doo x ⟨100 + st, i, 0, v⟩ = (x.put i ⟨st, v, (x.get i).b⟩, 0) := by
  refine doo_rule (by omega) hi hv ?_
  unfold Mt.rule
  rw [if_neg (by omega), if_neg (by omega), if_neg (by omega), if_neg (by omega), if_neg (by omega), if_neg (by omega), if_neg (by omega), if_neg (by omega), if_neg (by omega), if_neg (by omega), if_neg (by omega), if_neg (by omega), if_neg (by omega), if_neg (by omega), if_neg (by omega),
    if_pos (by simp only [stOk, Bool.and_eq_true, decide_eq_true_eq]; omega), show 100 + st - 100 = st by omega]
theorem sright_is {x : Sl} (h : x.right = true) : SR x := by
  simp only [Sl.right, stOk, val, Bool.and_eq_true, Bool.or_eq_true, decide_eq_true_eq, beq_iff_eq] at h
  obtain ⟨⟨⟨⟨⟨h1, h2⟩, h3, h4⟩, h5, h6⟩, h7⟩, h8⟩ := h
  refine ⟨⟨h1, h2⟩, ⟨h3, h4⟩, ⟨h5, h6⟩, h7, ?_⟩
  rcases h8 with ((h | h) | h) | h
  · exact Or.inl h
  · exact Or.inr (Or.inl h)
  · exact Or.inr (Or.inr (Or.inl h))
  · exact Or.inr (Or.inr (Or.inr h))
theorem right_is {m : Mt} (h : m.right = true) : SR m.a ∧ SR m.b ∧ SR m.c ∧ m.a.s = 4 ∧ Vl m.flo ∧ Vl m.cur ∧ Vl m.int ∧ (0 ≤ m.act ∧ m.act < 3) ∧ (m.b.s = 3 → m.act = 1) ∧ (m.c.s = 3 → m.act = 2) := by
  simp only [Mt.right, isS, Bool.and_eq_true, Bool.or_eq_true, decide_eq_true_eq, beq_iff_eq, bne_iff_ne, ne_eq] at h
  obtain ⟨⟨⟨⟨⟨⟨⟨⟨h1, h2⟩, h3⟩, h4⟩, ha, ha2⟩, hb, hb2⟩, hc, hc2⟩, hs⟩, hq⟩ := h
  simp only [val, Bool.and_eq_true, decide_eq_true_eq] at h2 h3 h4
  exact ⟨sright_is ha, sright_is hb, sright_is hc, hs, h2, h3, h4, h1, fun e => by rcases hb2 with h | h; exact absurd e h; exact h, fun e => by rcases hc2 with h | h; exact absurd e h; exact h⟩
theorem base_all {m : Mt} (h : m.right = true) : allF Mt.new (baseL m) = (m, 0) := by
  obtain ⟨ha, hb, hc, hs, hf, hu, hn, hac, _, _⟩ := right_is h
  obtain ⟨⟨a0, a1, a2⟩, ⟨b0, b1, b2⟩, ⟨c0, c1, c2⟩, ac, fl, cu, nt⟩ := m
  have hv2 : ∀ {x : Sl}, SR x → Vl x.b := fun {x} hx => ⟨hx.2.2.1.1, by have := hx.2.2.1.2; omega⟩
  simp only at hs hf hu hn hac
  have V0 : Vl 0 := by simp [Vl]
  unfold baseL
  simp only
  have e1 : allF Mt.new ([] ++ [⟨100 + a0, 0, 0, a1⟩]) = (⟨⟨a0, a1, 0⟩, ⟨0, 0, 0⟩, ⟨0, 0, 0⟩, 0, 0, 0, 0⟩, 0) := allF_one (doo_is Mt.new a0 0 a1 ha.1 (by omega) ha.2.1)
  have e2 := allF_append e1 (k := more 111 0 a2) (z := ⟨⟨a0, a1, a2⟩, ⟨0, 0, 0⟩, ⟨0, 0, 0⟩, 0, 0, 0, 0⟩) (e := 0)
    (allF_more (fun _ => doo_rule (by omega) (by omega) (hv2 ha) (by have h5 : a2 ≤ 512 := ha.2.2.1.2; simp [Mt.rule, Mt.put, Mt.get, h5])) (fun h0 => by rw [h0]))
  have e3 := allF_append e2 (allF_one (doo_is _ b0 1 b1 hb.1 (by omega) hb.2.1))
  have e4 := allF_append e3 (k := more 111 1 b2) (z := ⟨⟨a0, a1, a2⟩, ⟨b0, b1, b2⟩, ⟨0, 0, 0⟩, 0, 0, 0, 0⟩) (e := 0)
    (allF_more (fun _ => doo_rule (by omega) (by omega) (hv2 hb) (by have h5 : b2 ≤ 512 := hb.2.2.1.2; simp [Mt.rule, Mt.put, Mt.get, h5])) (fun h0 => by rw [h0]; rfl))
  have e5 := allF_append e4 (allF_one (doo_is _ c0 2 c1 hc.1 (by omega) hc.2.1))
  have e6 := allF_append e5 (k := more 111 2 c2) (z := ⟨⟨a0, a1, a2⟩, ⟨b0, b1, b2⟩, ⟨c0, c1, c2⟩, 0, 0, 0, 0⟩) (e := 0)
    (allF_more (fun _ => doo_rule (by omega) (by omega) (hv2 hc) (by have h5 : c2 ≤ 512 := hc.2.2.1.2; simp [Mt.rule, Mt.put, Mt.get, h5])) (fun h0 => by rw [h0]; rfl))
  have e7 := allF_append e6 (k := [⟨110, ac, 0, 0⟩]) (z := ⟨⟨a0, a1, a2⟩, ⟨b0, b1, b2⟩, ⟨c0, c1, c2⟩, ac, 0, 0, 0⟩) (e := 0)
    (allF_one (doo_rule (by omega) hac V0 (by simp [Mt.rule])))
  have e8 := allF_append e7 (k := more 8 0 fl) (z := ⟨⟨a0, a1, a2⟩, ⟨b0, b1, b2⟩, ⟨c0, c1, c2⟩, ac, fl, 0, 0⟩) (e := 0)
    (allF_more (fun hne => doo_rule (by omega) (by omega) hf (by have h5 : 0 < fl := by have := hf.1; omega
                                                                 simp [Mt.rule, h5])) (fun h0 => by rw [h0]))
  have e9 := allF_append e8 (k := more 9 0 cu) (z := ⟨⟨a0, a1, a2⟩, ⟨b0, b1, b2⟩, ⟨c0, c1, c2⟩, ac, fl, cu, 0⟩) (e := 0)
    (allF_more (fun hne => doo_rule (by omega) (by omega) hu (by simp [Mt.rule])) (fun h0 => by rw [h0]))
  exact allF_append e9 (allF_more (fun hne => doo_rule (by omega) (by omega) hn (by simp [Mt.rule, hne])) (fun h0 => by rw [h0]))
theorem base_length {m : Mt} (h : m.right = true) : (baseL m).length ≤ 9 := by
  obtain ⟨ha, hb, hc, hs, hf, hu, hn, hac, h1, h2⟩ := right_is h
  have e1 : more 111 0 m.a.b = [] := by
    unfold more
    rw [if_pos]
    rcases ha.2.2.2.1 with h | h
    · exact h
    · omega
  have e2 : (more 111 1 m.b.b).length + (more 111 2 m.c.b).length ≤ 1 := by
    have l1 := more_length 111 1 m.b.b
    have l2 := more_length 111 2 m.c.b
    by_cases h3 : m.b.b = 0
    · have : more 111 1 m.b.b = [] := by unfold more; rw [if_pos h3]
      rw [this]
      simpa using l2
    · have h4 : m.b.s = 3 := by rcases hb.2.2.2.1 with h | h; exact absurd h h3; exact h
      have h5 : m.c.b = 0 := by
        rcases hc.2.2.2.1 with h | h
        · exact h
        · have := h1 h4; have := h2 h; omega
      have : more 111 2 m.c.b = [] := by unfold more; rw [if_pos h5]
      rw [this]
      simpa using l1
  have l8 := more_length 8 0 m.flo
  have l9 := more_length 9 0 m.cur
  have l10 := more_length 10 0 m.int
  simp only [baseL, e1, List.length_append, List.length_cons, List.length_nil]
  omega
theorem more_all {P : Rc → Prop} {k s v : Int} (h : P ⟨k, s, 0, v⟩) : ∀ r ∈ more k s v, P r := fun r hr => by
  unfold more at hr
  split at hr
  · cases hr
  · rw [List.mem_singleton.1 hr]; exact h
theorem base_recs {m : Mt} (h : m.right = true) : ∀ r ∈ baseL m, rOk r.k r.s r.n r.v = true ∧ r.k ≤ 125 := by
  obtain ⟨ha, hb, hc, hs, hf, hu, hn, hac, _, _⟩ := right_is h
  have hv2 : ∀ {x : Sl}, SR x → Vl x.b := fun {x} hx => ⟨hx.2.2.1.1, by have := hx.2.2.1.2; omega⟩
  have V0 : Vl 0 := by simp [Vl]
  have one : ∀ {k s v : Int}, (0 ≤ k ∧ k ≤ 125) → (0 ≤ s ∧ s < 4) → Vl v → rOk (⟨k, s, 0, v⟩ : Rc).k (⟨k, s, 0, v⟩ : Rc).s (⟨k, s, 0, v⟩ : Rc).n (⟨k, s, 0, v⟩ : Rc).v = true ∧ (⟨k, s, 0, v⟩ : Rc).k ≤ 125 := fun {k s v} hk hs hv => ⟨rOk_of ⟨hk.1, Int.lt_of_le_of_lt hk.2 (by decide)⟩ hs hv, hk.2⟩
  have hA := ha.1
  have hB := hb.1
  have hC := hc.1
  intro r hr
  unfold baseL at hr
  simp only [List.mem_append, List.nil_append, List.mem_singleton] at hr
  rcases hr with (((((((((rfl | hr) | rfl) | hr) | rfl) | hr) | rfl) | hr) | hr) | hr)
  · exact one (by omega) (by omega) ha.2.1
  · exact more_all (P := fun r => rOk r.k r.s r.n r.v = true ∧ r.k ≤ 125) (one (by omega) (by omega) (hv2 ha)) r hr
  · exact one (by omega) (by omega) hb.2.1
  · exact more_all (P := fun r => rOk r.k r.s r.n r.v = true ∧ r.k ≤ 125) (one (by omega) (by omega) (hv2 hb)) r hr
  · exact one (by omega) (by omega) hc.2.1
  · exact more_all (P := fun r => rOk r.k r.s r.n r.v = true ∧ r.k ≤ 125) (one (by omega) (by omega) (hv2 hc)) r hr
  · exact one (by omega) (by omega) V0
  · exact more_all (P := fun r => rOk r.k r.s r.n r.v = true ∧ r.k ≤ 125) (one (by omega) (by omega) hf) r hr
  · exact more_all (P := fun r => rOk r.k r.s r.n r.v = true ∧ r.k ≤ 125) (one (by omega) (by omega) hu) r hr
  · exact more_all (P := fun r => rOk r.k r.s r.n r.v = true ∧ r.k ≤ 125) (one (by omega) (by omega) hn) r hr
end Go.Proofs.Ytbpdnaiackfdmaa
