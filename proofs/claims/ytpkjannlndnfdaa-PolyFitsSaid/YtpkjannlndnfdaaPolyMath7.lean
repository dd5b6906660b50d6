/- What is fitted. No program. -/
import Derived.Test.YtpkjannlndnfdaaPolyMath6
namespace PolyMath
open GfMath
set_option linter.unusedVariables false

/-- The partial values of Horner's rule: the quotient by x - r, and the rest. -/
def hq (l : List Nat) (r : Nat) : List Nat := (l.foldl (fun s b => (s.1 ++ [s.2], gm s.2 r ^^^ b)) (([] : List Nat), 0)).1
theorem horner (l : List Nat) (r : Nat) : l.foldl (fun s b => (s.1 ++ [s.2], gm s.2 r ^^^ b)) (([] : List Nat), 0) = (hq l r, ev l r) := by
  refine snocs (P := fun l => l.foldl (fun s b => (s.1 ++ [s.2], gm s.2 r ^^^ b)) (([] : List Nat), 0) = (hq l r, ev l r)) rfl (fun l a ih => ?_) l
  unfold hq
  rw [List.foldl_append, ih, ev_snoc]
  rfl
theorem hq_snoc (l : List Nat) (a r : Nat) : hq (l ++ [a]) r = hq l r ++ [ev l r] := by
  conv => lhs; unfold hq
  rw [List.foldl_append, horner]
  rfl
theorem hq_length (l : List Nat) (r : Nat) : (hq l r).length = l.length := by
  refine snocs (P := fun l => (hq l r).length = l.length) rfl (fun l a ih => ?_) l
  rw [hq_snoc, List.length_append, List.length_append, ih]; rfl
theorem hq_by {l : List Nat} {r : Nat} (hl : By l) (hr : r < 256) : By (hq l r) := by
  revert hl
  refine snocs (P := fun l => By l → By (hq l r)) (fun _ => by_nil) (fun l a ih h => ?_) l
  have hl : By l := fun y hy => h y (by simp [hy])
  rw [hq_snoc]
  intro x hx
  rcases List.mem_append.1 hx with h1 | h1
  · exact ih hl x h1
  · simp only [List.mem_singleton] at h1; rw [h1]; exact ev_lt hl hr
theorem ev_hq {l : List Nat} {r y : Nat} (hl : By l) (hr : r < 256) (hy : y < 256) : ev l y = gm (y ^^^ r) (ev (hq l r) y) ^^^ ev l r := by
  revert hl
  refine snocs (P := fun l => By l → ev l y = gm (y ^^^ r) (ev (hq l r) y) ^^^ ev l r) (fun _ => ?_) (fun l a ih h => ?_) l
  · show 0 = gm (y ^^^ r) 0 ^^^ 0
    rw [gm_zero_right]; rfl
  · have hl : By l := fun z hz => h z (by simp [hz])
    have h1 := ih hl
    have hQ := ev_lt (hq_by hl hr) hy
    have hE := ev_lt hl hr
    have hyr := xor_lt hy hr
    rw [ev_snoc, ev_snoc, hq_snoc, ev_snoc, h1]
    generalize ev (hq l r) y = Q at *
    generalize ev l r = E at *
    rw [gm_add_left, gm_assoc hyr hQ hy, gm_add_right (y ^^^ r), gm_add_left y r E, gm_comm hE hy, gm_comm hE hr, ← Nat.xor_assoc]
    congr 1
    generalize gm (y ^^^ r) (gm Q y) = A
    generalize gm y E = B
    generalize gm r E = C
    rw [Nat.xor_assoc A, Nat.xor_assoc B, Nat.xor_self, Nat.xor_zero]
theorem hq_head (l : List Nat) (r : Nat) : l = [] ∨ ∃ t, hq l r = 0 :: t := by
  refine snocs (P := fun l => l = [] ∨ ∃ t, hq l r = 0 :: t) (Or.inl rfl) (fun l a ih => Or.inr ?_) l
  rw [hq_snoc]
  rcases ih with rfl | ⟨t, ht⟩
  · exact ⟨[], rfl⟩
  · exact ⟨t ++ [ev l r], by rw [ht]; rfl⟩
theorem ev_zero_cons (t : List Nat) (y : Nat) : ev (0 :: t) y = ev t y := by
  show t.foldl _ (gm 0 y ^^^ 0) = t.foldl _ 0
  rw [gm_zero_left]; rfl
theorem ev_rep (k y : Nat) : ev (List.replicate k 0) y = 0 := by
  induction k with
  | zero => rfl
  | succ k ih => rw [List.replicate_succ, ev_zero_cons, ih]
theorem hq_zero (r : Nat) (l : List Nat) : (∀ b ∈ hq l r, b = 0) → l = [] ∨ ∃ k c, l = List.replicate k 0 ++ [c] := by
  refine snocs (P := fun l => (∀ b ∈ hq l r, b = 0) → l = [] ∨ ∃ k c, l = List.replicate k 0 ++ [c]) (fun _ => Or.inl rfl) (fun l a ih h => Or.inr ?_) l
  rw [hq_snoc] at h
  have h1 := ih fun b hb => h b (List.mem_append_left _ hb)
  have h2 := h (ev l r) (by simp)
  rcases h1 with rfl | ⟨k, c, rfl⟩
  · exact ⟨0, a, rfl⟩
  · rw [ev_snoc, ev_rep, gm_zero_left, Nat.zero_xor] at h2
    exact ⟨k + 1, a, by rw [h2, List.replicate_succ']⟩
/-- What has more roots than powers is 0. -/
theorem roots_zero : ∀ (n : Nat) (l xs : List Nat), By l → By xs → l.length ≤ n → xs.length = n → xs.Nodup → (∀ x ∈ xs, ev l x = 0) → ∀ b ∈ l, b = 0
  | 0, l, xs, _, _, hl, _, _, _ => by
    have : l = [] := List.eq_nil_of_length_eq_zero (by omega)
    subst this
    intro b hb; cases hb
  | n + 1, l, xs, hl8, hx8, hl, hn, hnd, h0 => by
    cases xs with
    | nil => simp at hn
    | cons r ys =>
      have hr := hx8 r (by simp)
      have hy8 : By ys := fun y hy => hx8 y (by simp [hy])
      rw [List.nodup_cons] at hnd
      rcases hq_head l r with rfl | ⟨t, ht⟩
      · intro b hb; cases hb
      · have hQ8 := hq_by hl8 hr
        have hQl := hq_length l r
        rw [ht] at hQ8 hQl
        have ht8 : By t := fun y hy => hQ8 y (by simp [hy])
        have hroot := h0 r (by simp)
        have hz : ∀ y ∈ ys, ev t y = 0 := fun y hy => by
          have hy256 := hy8 y hy
          have h1 := ev_hq hl8 hr hy256
          rw [h0 y (by simp [hy]), hroot, Nat.xor_zero, ht, ev_zero_cons] at h1
          have hne : y ^^^ r ≠ 0 := xor_ne fun e => hnd.1 (by rw [← e]; exact hy)
          exact (gm_eq_zero (xor_lt hy256 hr) (ev_lt ht8 hy256) h1.symm).resolve_left hne
        have hall := roots_zero n t ys ht8 hy8 (by simp at hQl; omega) (by simpa using hn) hnd.2 hz
        have hq0 : ∀ b ∈ hq l r, b = 0 := fun b hb => by
          rw [ht] at hb
          rcases List.mem_cons.1 hb with h | h
          · exact h
          · exact hall b h
        rcases hq_zero r l hq0 with rfl | ⟨k, c, rfl⟩
        · intro b hb; cases hb
        · rw [ev_snoc, ev_rep, gm_zero_left, Nat.zero_xor] at hroot
          intro b hb
          rcases List.mem_append.1 hb with h | h
          · exact (List.mem_replicate.1 h).2
          · simp only [List.mem_singleton] at h
            rw [h, hroot]

theorem ct_pos (l : List Nat) (x : Nat) : x ∈ l → 0 < ct l x := by
  refine snocs (P := fun l => x ∈ l → 0 < ct l x) (fun h => by cases h) (fun l a ih h => ?_) l
  rw [ct_snoc]
  rcases List.mem_append.1 h with h | h
  · have := ih h; split <;> omega
  · simp only [List.mem_singleton] at h; rw [if_pos h.symm]; omega
theorem ct_mem (l : List Nat) (x : Nat) : 0 < ct l x → x ∈ l := by
  refine snocs (P := fun l => 0 < ct l x → x ∈ l) (fun h => by simp [ct] at h) (fun l a ih h => ?_) l
  rw [ct_snoc] at h
  split at h
  · rename_i e; simp [e]
  · exact List.mem_append_left _ (ih h)
/-- Newton's steps: what is fitted to the first k values. -/
def fitN (xs ys : List Nat) : Nat → List Nat
  | 0 => []
  | k + 1 => addl [fitN xs ys k, pms [[gm (sq ys k ^^^ ev (fitN xs ys k) (sq xs k)) (iv (ev (rt (xs.take k)) (sq xs k)))], rt (xs.take k)]]
theorem fitN_all {xs ys : List Nat} (hx : By xs) (hy : By ys) : ∀ k, k ≤ xs.length → By (fitN xs ys k) ∧ Can (fitN xs ys k) ∧ (fitN xs ys k).length ≤ k
  | 0, _ => ⟨by_nil, fun h => absurd h (by simp [fitN]), Nat.zero_le _⟩
  | k + 1, hk => by
    obtain ⟨h1, h2, h3⟩ := fitN_all hx hy k (by omega)
    have hxt : By (xs.take k) := fun x h => hx x (List.mem_of_mem_take h)
    obtain ⟨r1, r2, r3⟩ := rt_all (xs.take k) hxt
    have hc : gm (sq ys k ^^^ ev (fitN xs ys k) (sq xs k)) (iv (ev (rt (xs.take k)) (sq xs k))) < 256 := gm_lt (xor_lt (hy.sq k) (ev_lt h1 (hx.sq k))) (iv_lt _)
    rw [fitN]
    generalize gm (sq ys k ^^^ ev (fitN xs ys k) (sq xs k)) (iv (ev (rt (xs.take k)) (sq xs k))) = c at hc ⊢
    have hp : ∀ l ∈ [[c], rt (xs.take k)], By l := by intro l hl; simp at hl; rcases hl with rfl | rfl; exact by_one hc; exact r1
    have hpm := (pms_all [[c], rt (xs.take k)] hp).1
    have h8 : ∀ l ∈ [fitN xs ys k, pms [[c], rt (xs.take k)]], By l := by intro l hl; simp at hl; rcases hl with rfl | rfl <;> assumption
    refine ⟨addl_by _ h8, addl_can _, ?_⟩
    have hl := addl_le [fitN xs ys k, pms [[c], rt (xs.take k)]]
    have hm : mx [fitN xs ys k, pms [[c], rt (xs.take k)]] = max (fitN xs ys k).length (pms [[c], rt (xs.take k)]).length := by simp [mx]
    have hpl : (pms [[c], rt (xs.take k)]).length ≤ k + 1 := by
      show (pm (pm [1] (beh [c])) (beh (rt (xs.take k)))).length ≤ k + 1
      rw [r3.beh]
      rw [List.length_take] at r2
      by_cases h0 : (pm [1] (beh [c])).length = 0
      · rw [List.eq_nil_of_length_eq_zero h0, pm_nil_left]; simp
      · have hb1 := beh_le [c]
        have hb2 : (pm [1] (beh [c])).length ≤ 1 := by
          by_cases h5 : (beh [c]).length = 0
          · rw [List.eq_nil_of_length_eq_zero h5, pm_nil_right]; simp
          · rw [pm_length _ _ (by simp) (by omega)]; simp at hb1 ⊢; omega
        rw [pm_length _ _ (by omega) (by omega)]
        omega
    omega
/-- It has the values at the places, as long as none stands there twice. -/
theorem fitN_ev {xs ys : List Nat} (hx : By xs) (hy : By ys) : ∀ k, k ≤ xs.length → (∀ j, j < k → ev (rt (xs.take j)) (sq xs j) ≠ 0) → ∀ j, j < k → ev (fitN xs ys k) (sq xs j) = sq ys j
  | 0, _, _, j, hj => absurd hj (by omega)
  | k + 1, hk, hne, j, hj => by
    obtain ⟨h1, h2, h3⟩ := fitN_all hx hy k (by omega)
    have hxt : By (xs.take k) := fun x h => hx x (List.mem_of_mem_take h)
    obtain ⟨r1, r2, r3⟩ := rt_all (xs.take k) hxt
    have hxj := hx.sq j
    have hc : gm (sq ys k ^^^ ev (fitN xs ys k) (sq xs k)) (iv (ev (rt (xs.take k)) (sq xs k))) < 256 := gm_lt (xor_lt (hy.sq k) (ev_lt h1 (hx.sq k))) (iv_lt _)
    have hev1 : ∀ c x, c < 256 → x < 256 → ev [c] x = c := fun c x _ _ => by show gm 0 x ^^^ c = c; rw [gm_zero_left, Nat.zero_xor]
    have hp : ∀ c, c < 256 → By (pms [[c], rt (xs.take k)]) := fun c hc => (pms_all _ (by intro l hl; simp at hl; rcases hl with rfl | rfl; exact by_one hc; exact r1)).1
    rw [fitN, ev_addl2 h1 (hp _ hc) hxj, ev_pms2 (by_one hc) r1 hxj, hev1 _ _ hc hxj]
    by_cases e : j = k
    · subst e
      have hE := ev_lt r1 hxj
      have hn := hne j (by omega)
      have hd := xor_lt (hy.sq j) (ev_lt h1 hxj)
      rw [gm_assoc hd (iv_lt _) hE, iv_gm hE hn, gm_one hd, Nat.xor_comm (sq ys j), ← Nat.xor_assoc, Nat.xor_self, Nat.zero_xor]
    · rw [fitN_ev hx hy k (by omega) (fun i hi => hne i (by omega)) j (by omega)]
      have hz : ev (rt (xs.take k)) (sq xs j) = 0 := by
        refine ((rt_roots (xs.take k) hxt hxj).1).2 ?_
        have hjl : j < xs.length := by omega
        have hmem : sq xs j ∈ xs.take k := by
          rw [sq_get xs j hjl]
          exact List.mem_iff_getElem.2 ⟨j, by simp; omega, by simp⟩
        exact ct_pos _ _ hmem
      rw [hz, gm_zero_right, Nat.xor_zero]
end PolyMath
