/- A codeword of which few places are wrong is mended to itself. No program. -/
import Derived.Test.YtkcnmiaedcenoaaSolMath5
namespace SolMath
open GfMath PolyMath RsMath
set_option linter.unusedVariables false

theorem filter_or_len {α : Type} (P Q : α → Bool) : ∀ l : List α, (l.filter fun x => P x || Q x).length = (l.filter P).length + (l.filter fun x => !P x && Q x).length
  | [] => rfl
  | a :: l => by
    have ih := filter_or_len P Q l
    rw [List.filter_cons, List.filter_cons, List.filter_cons]
    cases P a <;> cases Q a <;> simp [ih] <;> omega
section
variable {n p : Nat} {W D : List Nat} {G : List Bool}
/-- The wrong places that aren't erased. -/
def oth (W D : List Nat) (G : List Bool) (j : Nat) : Nat := if gAt G j then 0 else er W D j
def Sl (W D : List Nat) (G : List Bool) (n : Nat) : List Nat := (List.range n).filter fun j => gAt G j || decide (er W D j ≠ 0)
theorem Sl_mem (j : Nat) : j ∈ Sl W D G n ↔ j < n ∧ (gAt G j = true ∨ er W D j ≠ 0) := by simp [Sl]
theorem Sl_len (hG : G.length = n) : (Sl W D G n).length = cnt G + ocnt (oth W D G) n := by
  unfold Sl ocnt
  rw [filter_or_len, ← gcnt_cnt G, hG, gcnt]
  congr 1
  congr 1
  apply List.filter_congr
  intro j _
  unfold oth
  cases gAt G j <;> simp
theorem map_nodup {α β : Type} {f : α → β} : ∀ {l : List α}, l.Nodup → (∀ x ∈ l, ∀ y ∈ l, f x = f y → x = y) → (l.map f).Nodup
  | [], _, _ => List.nodup_nil
  | a :: l, h, hi => by
    rw [List.nodup_cons] at h
    rw [List.map_cons, List.nodup_cons]
    refine ⟨fun hm => ?_, map_nodup h.2 fun x hx y hy => hi x (List.mem_cons_of_mem _ hx) y (List.mem_cons_of_mem _ hy)⟩
    obtain ⟨b, hb, e⟩ := List.mem_map.1 hm
    have := hi b (List.mem_cons_of_mem _ hb) a (List.mem_cons_self ..) e
    exact h.1 (this ▸ hb)
theorem iv_inj {i j : Nat} (hn : n ≤ 255) (hi : i < n) (hj : j < n) (h : iv (mrk n i) = iv (mrk n j)) : i = j :=
  mk_inv hn hi hj (by rw [← h]; exact gm_iv (mrk_lt n i) (mrk_pos n i))
theorem Sl_nodup (hn : n ≤ 255) : ((Sl W D G n).map fun j => iv (mrk n j)).Nodup :=
  map_nodup (List.Pairwise.filter _ List.nodup_range) fun x hx y hy e => iv_inj hn ((Sl_mem x).1 hx).1 ((Sl_mem y).1 hy).1 e
theorem Sl_by (l : List Nat) : By (l.map fun j => iv (mrk n j)) := by
  intro x hx
  obtain ⟨j, _, rfl⟩ := List.mem_map.1 hx
  exact iv_lt _

/-- What a polynomial does that is 0 just where it must be: Forney's rule. -/
theorem forney (h : Dec n p W D) (hp : 1 ≤ p) (hG : G.length = n) {A : List Nat} (hA : By A) (hAl : A.length ≤ (Sl W D G n).length + 1) (hA0 : cf A 0 = 1) (hS : (Sl W D G n).length ≤ p) (hr : ∀ j, j ∈ Sl W D G n → ev A (iv (mrk n j)) = 0) :
    ∀ i, i < n → dAt n A (beh (dl A)) (lowl p (pms [valsR W p, A])) i = er W D i := by
  have hV8 : By (valsR W p) := fun x hx => tab_by _ (fun i _ => ev_lt h.W8 (ex_lt i)) x (List.mem_reverse.1 hx)
  have hm := fun j => mrk_lt n j
  have hm0 := fun j => mrk_pos n j
  have hx := fun j => iv_lt (mrk n j)
  intro i hi
  unfold dAt
  by_cases hiS : i ∈ Sl W D G n
  · rw [if_neg (by rw [hr i hiS]; simp)]
    have hSl1 : 1 ≤ (Sl W D G n).length := List.length_pos_of_mem hiS
    -- the quotient isn't 0 there
    have hlp : A.length ≤ p + 1 := by omega
    have hQo : ∀ j, j ∈ Sl W D G n → ∀ l, l ∈ Sl W D G n → l ≠ j → Qe A (mrk n j) (iv (mrk n l)) p = 0 := fun j hj l hl hne => by
      have h1 := Qe_ev hA (hm j) (hm0 j) (hx l) (hr j hj) hlp
      rw [hr l hl] at h1
      rcases gm_eq_zero (xor_lt (by omega) (gm_lt (hm j) (hx l))) (Qe_lt hA (hm j) (hx l) p) h1 with h2 | h2
      · have := mk_inv h.n255 ((Sl_mem j).1 hj).1 ((Sl_mem l).1 hl).1 (xor_eq_zero'.1 h2).symm
        exact absurd this.symm hne
      · exact h2
    have hQn : Qe A (mrk n i) (iv (mrk n i)) p ≠ 0 := fun h0 => by
      obtain ⟨m, hme⟩ : ∃ m, (Sl W D G n).length = m := ⟨_, rfl⟩
      have hz := roots_zero m (PolyMath.hi m (qf A (mrk n i))) ((Sl W D G n).map fun j => iv (mrk n j)) (tab_by _ fun k _ => qf_lt hA (hm i) _) (Sl_by _) (by rw [hi_length]; exact Nat.le_refl _) (by rw [List.length_map, hme]) (Sl_nodup h.n255) fun x hxm => by
        obtain ⟨l, hl, rfl⟩ := List.mem_map.1 hxm
        have hq8 : By (PolyMath.hi m (qf A (mrk n i))) := tab_by _ fun k _ => qf_lt hA (hm i) _
        rw [ev_E (hx l) hq8, hi_length]
        have e1 : E (cf (PolyMath.hi m (qf A (mrk n i)))) m (iv (mrk n l)) = Qe A (mrk n i) (iv (mrk n l)) m := xs_congr _ fun k hk => by rw [cf_hi, if_pos hk]
        have e2 : Qe A (mrk n i) (iv (mrk n l)) p = Qe A (mrk n i) (iv (mrk n l)) m := xs_ext _ (by omega) fun k hk _ => by rw [qf_far hA (hm i) (hm0 i) (hr i hiS) k (by omega), gm_zero_left]
        rw [e1, ← e2]
        by_cases e : l = i
        · rw [e]; exact h0
        · exact hQo i hiS l hl e
      have h1 : cf (PolyMath.hi m (qf A (mrk n i))) 0 = qf A (mrk n i) 0 := by rw [cf_hi, if_pos (by omega)]
      have h2 : cf (PolyMath.hi m (qf A (mrk n i))) 0 = 0 := by
        rw [cf_in _ _ (by rw [hi_length]; omega), sq_get _ _ (by rw [hi_length]; omega)]
        exact hz _ (List.getElem_mem _)
      rw [h2] at h1
      have h3 : qf A (mrk n i) 0 = 1 := hA0
      rw [h3] at h1
      cases h1
    -- the values' side
    have hL8 : By (lowl p (pms [valsR W p, A])) := lowl_by (pms_two_by hV8 hA) p
    have hev : ev (lowl p (pms [valsR W p, A])) (iv (mrk n i)) = gm (er W D i) (Qe A (mrk n i) (iv (mrk n i)) p) := by
      rw [ev_E_le (hx i) hL8 (N := p) (lowl_le' _ _)]
      unfold E
      rw [xs_congr p (g := fun k => xs (fun j => gm (er W D j) (gm (qf A (mrk n j) k) (pw (iv (mrk n i)) k))) n) fun k hk => by
        rw [cf_lowl, if_pos hk, cf_pms_two hV8 hA, cv_comm (fun k => hV8.cf k) (fun k => hA.cf k)]
        unfold cv
        rw [xs_congr (k + 1) (g := fun l => xs (fun j => gm (er W D j) (gm (cf A l) (pw (mrk n j) (k - l)))) n) fun l hl => by
          rw [cf_valsR (show k - l < p by omega), val_sum h (show k - l < p by omega), xs_gm]
          refine xs_congr _ fun j _ => ?_
          rw [← gm_assoc (hA.cf l) (er_lt h j) (pw_lt (hm j) _), gm_comm (hA.cf l) (er_lt h j), gm_assoc (er_lt h j) (hA.cf l) (pw_lt (hm j) _)], xs_swap]
        rw [xs_gm_right]
        refine xs_congr _ fun j _ => ?_
        rw [← xs_gm, qf_sum hA (hm j) k, gm_assoc (er_lt h j) (qf_lt hA (hm j) k) (pw_lt (hx i) k)], xs_swap]
      rw [xs_congr n (g := fun j => gm (er W D j) (Qe A (mrk n j) (iv (mrk n i)) p)) fun j _ => by rw [← xs_gm]; rfl]
      refine xs_single n hi fun j hj hne => ?_
      by_cases he : er W D j = 0
      · rw [he, gm_zero_left]
      · rw [hQo j ((Sl_mem j).2 ⟨hj, Or.inr he⟩) i hiS (fun e => hne e.symm), gm_zero_right]
    have hdv : ev (beh (dl A)) (iv (mrk n i)) = gm (mrk n i) (Qe A (mrk n i) (iv (mrk n i)) p) := by
      rw [ev_beh (hx i) (dl_by hA)]
      have e1 := dev_E (N := 2 * p) hA (hx i) (by omega)
      unfold dev at e1
      rw [e1, dev_root hA (hm i) (hm0 i) p]
      congr 1
      exact xs_ext _ (by omega) fun k hk _ => by rw [qf_far hA (hm i) (hm0 i) (hr i hiS) k (by omega), gm_zero_left]
    rw [hev, hdv]
    have hq := Qe_lt hA (hm i) (hx i) p
    have he := er_lt h i
    obtain ⟨X, hX⟩ : ∃ X, mrk n i = X := ⟨_, rfl⟩
    obtain ⟨Q, hQ⟩ : ∃ Q, Qe A (mrk n i) (iv (mrk n i)) p = Q := ⟨_, rfl⟩
    have hX8 := hm i
    have hX0 := hm0 i
    rw [hQ] at hq hQn ⊢
    rw [hX] at hX8 hX0 ⊢
    have hXQ := gm_lt hX8 hq
    have hXQ0 := gm_ne hX8 hq hX0 hQn
    rw [← gm_assoc hX8 (gm_lt he hq) (iv_lt _), ← gm_assoc hX8 he hq, gm_comm hX8 he, gm_assoc he hX8 hq, gm_assoc he hXQ (iv_lt _), gm_iv hXQ hXQ0, gm_one he]
  · have h0 : er W D i = 0 := Classical.byContradiction fun he => hiS ((Sl_mem i).2 ⟨hi, Or.inr he⟩)
    rw [h0]
    refine if_pos fun hz => ?_
    have hnz := roots_zero ((Sl W D G n).length + 1) A (iv (mrk n i) :: (Sl W D G n).map fun j => iv (mrk n j)) hA (by
      intro x hxm
      rcases List.mem_cons.1 hxm with rfl | hxm
      · exact hx i
      · exact Sl_by _ x hxm) hAl (by simp) (by
      rw [List.nodup_cons]
      refine ⟨fun hmm => ?_, Sl_nodup h.n255⟩
      obtain ⟨j, hj, e⟩ := List.mem_map.1 hmm
      have := iv_inj h.n255 ((Sl_mem j).1 hj).1 hi e
      exact hiS (this ▸ hj)) fun x hxm => by
      rcases List.mem_cons.1 hxm with rfl | hxm
      · exact hz
      · obtain ⟨j, hj, rfl⟩ := List.mem_map.1 hxm
        exact hr j hj
    have hl := cf_pos hA0
    rw [cf_in _ _ (by omega), sq_get _ _ (by omega)] at hA0
    rw [hnz _ (List.getElem_mem _)] at hA0
    cases hA0

/-- A codeword of which some erased places, and some others, have any other bytes, within what may be, is mended to itself. -/
theorem decode (h : Dec n p W D) (hp : 1 ≤ p) {el : List Int} (hb : inB n el = true) (hq : cnt (markE n el) + 2 * ocnt (oth W D (markE n el)) n ≤ p) :
    mendF masseyF n p W el = .ok D (atF (er W D) n) := by
  rw [mendF_eq, if_neg (by rw [hb]; simp)]
  have hG : (markE n el).length = n := by unfold markE; rw [setG_length]; exact List.length_replicate
  obtain ⟨G, hGe⟩ : ∃ G, markE n el = G := ⟨_, rfl⟩
  rw [hGe] at hq hG ⊢
  obtain ⟨hEl, hE0, hEr⟩ := erF_spec (n := n) (G := G) h.n255 n (Nat.le_refl _)
  have hE8 := (erF_all n G n).1
  rw [show gcnt G n = cnt G by rw [← gcnt_cnt G, hG]] at hEl
  have hV8 : By (valsR W p) := fun x hx => tab_by _ (fun i _ => ev_lt h.W8 (ex_lt i)) x (List.mem_reverse.1 hx)
  have hcc : ∀ j, j < n → (cc W D (erF n G n) n (cnt G) j ≠ 0 → oth W D G j ≠ 0) ∧ (oth W D G j ≠ 0 → cc W D (erF n G n) n (cnt G) j ≠ 0) := fun j hj => by
    unfold cc oth
    constructor
    · intro h1 h2
      cases hg : gAt G j with
      | true => exact h1 (by rw [(hEr j hj).2 ⟨hj, hg⟩, gm_zero_right])
      | false => rw [hg] at h2; simp only [Bool.false_eq_true, if_false] at h2; exact h1 (by rw [h2, gm_zero_left, gm_zero_left])
    · intro h1
      cases hg : gAt G j with
      | true => rw [hg] at h1; simp at h1
      | false =>
        rw [hg] at h1
        simp only [Bool.false_eq_true, if_false] at h1
        refine gm_ne (gm_lt (er_lt h j) (pw_lt (mrk_lt n j) _)) (ev_lt hE8 (iv_lt _)) (gm_ne (er_lt h j) (pw_lt (mrk_lt n j) _) h1 (by rw [mrk, pw_ex]; exact ex_pos _)) fun h2 => ?_
        have := ((hEr j hj).1 h2).2
        rw [hg] at this
        cases this
  have hoc : ocnt (cc W D (erF n G n) n (cnt G)) n ≤ ocnt (oth W D G) n := ocnt_le fun j hj => (hcc j hj).1
  obtain ⟨hCl, hC0, hCr⟩ := massey_finds h hE8 hEl hoc hq
  have hC8 : By (masseyF p (toldF p (valsR W p) (erF n G n)) (cnt G)) := (bm_ok (lowl_by (pms_two_by hV8 hE8) p) _ _).r8
  obtain ⟨C, hC⟩ : ∃ C, masseyF p (toldF p (valsR W p) (erF n G n)) (cnt G) = C := ⟨_, rfl⟩
  obtain ⟨E, hE⟩ : ∃ E, erF n G n = E := ⟨_, rfl⟩
  rw [hC] at hCl hC0 hCr hC8
  rw [hE] at hE8 hEl hE0 hEr hcc hCr hC
  have hSn := Sl_len (W := W) (D := D) hG
  have hA8 : By (pms [C, E]) := pms_two_by hC8 hE8
  have hAl := pms_two_le C E
  have hA0 : cf (pms [C, E]) 0 = 1 := by
    rw [cf_pms_two hC8 hE8]
    show 0 ^^^ gm (cf C 0) (cf E (0 - 0)) = 1
    rw [hC0, Nat.sub_self, hE0, Nat.zero_xor]
    exact gm_one (by omega)
  have hAr : ∀ j, j ∈ Sl W D G n → ev (pms [C, E]) (iv (mrk n j)) = 0 := fun j hj => by
    obtain ⟨h1, h2⟩ := (Sl_mem j).1 hj
    rw [ev_pms_two hC8 hE8 (iv_lt _)]
    cases hg : gAt G j with
    | true => rw [(hEr j h1).2 ⟨h1, hg⟩, gm_zero_right]
    | false =>
      rcases h2 with h2 | h2
      · rw [hg] at h2; cases h2
      · rw [hCr j h1 ((hcc j h1).2 (by unfold oth; rw [hg]; simpa using h2)), gm_zero_left]
  have hF := forney h hp hG hA8 (by omega) hA0 (by omega) hAr
  have hd : ∀ i, i < n → dF n p (valsR W p) C E i = er W D i := hF
  have hW : layW n p W (valsR W p) C E = D := by
    refine list_eq (by unfold layW wordF; rw [tab_length, h.Wl, h.Dl]) fun i hi => ?_
    unfold layW wordF at hi ⊢
    rw [tab_length, h.Wl] at hi
    rw [sq_tab, if_pos (by rw [h.Wl]; exact hi), if_pos hi, hd i hi, er, ← Nat.xor_assoc, Nat.xor_self, Nat.zero_xor]
  have hP : layP n p (valsR W p) C E = atF (er W D) n := by
    unfold layP atF
    apply List.filter_congr
    intro j hj
    rw [hd j (List.mem_range.1 hj)]
  have hO : othF G (atF (er W D) n) = ocnt (oth W D G) n := by
    unfold othF atF ocnt
    rw [List.filter_filter]
    congr 1
    apply List.filter_congr
    intro j _
    unfold oth
    cases gAt G j <;> simp
  unfold mendG
  simp only
  rw [hE, hC, hW, hP, hO]
  refine if_pos ⟨?_, by omega, by omega⟩
  rw [allz_zero]
  exact h.D0
end

end SolMath
