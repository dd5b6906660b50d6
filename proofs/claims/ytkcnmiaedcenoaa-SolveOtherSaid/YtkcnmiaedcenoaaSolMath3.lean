/- What the values of a word tell: sums over the wrong places; a sum with few places that is 0 often enough is 0 throughout. No program. -/
import Derived.Test.YtkcnmiaedcenoaaSolMath2
namespace SolMath
open GfMath PolyMath RsMath
set_option linter.unusedVariables false

theorem mrk_pos (n i : Nat) : mrk n i ≠ 0 := ex_pos _
theorem pw_zero' (a : Nat) : pw a 0 = 1 := rfl
theorem pw_one_iv {X : Nat} (hX : X < 256) (h0 : X ≠ 0) : ∀ j, gm (pw X j) (pw (iv X) j) = 1
  | 0 => by rw [pw_zero', pw_zero']; exact gm_one (by omega)
  | j + 1 => by
    have hx := iv_lt X
    have h1 := pw_lt hX j
    have h2 := pw_lt hx j
    rw [pw, pw, gm_assoc h1 hX (gm_lt h2 hx), ← gm_assoc hX h2 hx, gm_comm hX h2, gm_assoc h2 hX hx, gm_iv hX h0, gm_one h2, pw_one_iv hX h0 j]
theorem pw_sub {X : Nat} (hX : X < 256) (h0 : X ≠ 0) (k j : Nat) (h : j ≤ k) : pw X (k - j) = gm (pw X k) (pw (iv X) j) := by
  have e : pw X k = gm (pw X (k - j)) (pw X j) := by rw [← pw_add hX, show k - j + j = k by omega]
  rw [e, gm_assoc (pw_lt hX _) (pw_lt hX _) (pw_lt (iv_lt X) _), pw_one_iv hX h0, gm_one (pw_lt hX _)]
/-- A polynomial's value at the inverse, by powers that fall. -/
theorem ev_fall {X : Nat} (hX : X < 256) (h0 : X ≠ 0) {R : List Nat} (hR : By R) (k : Nat) (hk : R.length ≤ k + 1) : xs (fun l => gm (cf R l) (pw X (k - l))) R.length = gm (pw X k) (ev R (iv X)) := by
  rw [ev_E (iv_lt X) hR, E, xs_gm]
  refine xs_congr _ fun l hl => ?_
  rw [pw_sub hX h0 k l (by omega), ← gm_assoc (hR.cf l) (pw_lt hX k) (pw_lt (iv_lt X) l), gm_comm (hR.cf l) (pw_lt hX k), gm_assoc (pw_lt hX k) (hR.cf l) (pw_lt (iv_lt X) l)]

/-- How many of the first n are not 0. -/
def ocnt (y : Nat → Nat) (n : Nat) : Nat := ((List.range n).filter fun j => decide (y j ≠ 0)).length
theorem filter_len_le {α : Type} (P Q : α → Bool) : ∀ (l : List α), (∀ x ∈ l, P x = true → Q x = true) → (l.filter P).length ≤ (l.filter Q).length
  | [], _ => Nat.le_refl _
  | a :: l, h => by
    have ih := filter_len_le P Q l fun x hx => h x (List.mem_cons_of_mem _ hx)
    rw [List.filter_cons, List.filter_cons]
    have ha := h a (List.mem_cons_self ..)
    cases hp : P a with
    | false => cases hq : Q a <;> simp <;> omega
    | true => rw [ha hp]; simp; omega
theorem ocnt_le {y z : Nat → Nat} {n : Nat} (h : ∀ j, j < n → y j ≠ 0 → z j ≠ 0) : ocnt y n ≤ ocnt z n :=
  filter_len_le _ _ _ fun x hx hp => by
    rw [decide_eq_true_iff] at hp ⊢
    exact h x (List.mem_range.1 hx) hp
/-- A sum of powers with at most t places that is 0 for t powers one behind the other has no places. -/
theorem vand {n t a : Nat} {y : Nat → Nat} (hn : n ≤ 255) (hy : ∀ j, y j < 256) (ht : ocnt y n ≤ t) (h : ∀ i, i < t → xs (fun j => gm (y j) (pw (mrk n j) (a + i))) n = 0) : ∀ j, j < n → y j = 0 := by
  obtain ⟨l, hl⟩ : ∃ l, l = tab n fun j => gm (y j) (pw (mrk n j) a) := ⟨_, rfl⟩
  have hm := fun j => mrk_lt n j
  have hl8 : By l := by rw [hl]; exact tab_by _ fun j _ => gm_lt (hy j) (pw_lt (hm j) a)
  have hll : l.length = n := by rw [hl]; exact tab_length _ _
  have hsq : ∀ j, j < n → sq l j = gm (y j) (pw (mrk n j) a) := fun j hj => by rw [hl, sq_tab, if_pos hj]
  have hpn : ∀ j, pw (mrk n j) a ≠ 0 := fun j => by rw [mrk, pw_ex]; exact ex_pos _
  have hs : supp l = [] := by
    refine far_zero (p := t) hl8 (by omega) ?_ fun i hi => ?_
    · refine Nat.le_trans ?_ ht
      unfold supp ocnt
      rw [hll]
      refine filter_len_le _ _ _ fun j hj hp => ?_
      rw [decide_eq_true_iff] at hp ⊢
      rw [hsq j (List.mem_range.1 hj)] at hp
      intro e
      rw [e, gm_zero_left] at hp
      exact hp rfl
    · rw [ev_places hl8, hll, ← h i hi]
      refine xs_congr _ fun j hj => ?_
      rw [hsq j hj, gm_assoc (hy j) (pw_lt (hm j) a) (ex_lt _), pw_add (hm j)]
      congr 2
      rw [mrk, pw_ex, Nat.mul_comm]
  intro j hj
  have h0 := supp_nil hs j
  rw [hsq j hj] at h0
  rcases gm_eq_zero (hy j) (pw_lt (hm j) a) h0 with h1 | h1
  · exact h1
  · exact absurd h1 (hpn j)

theorem cf_pms_two {a b : List Nat} (ha : By a) (hb : By b) (k : Nat) : cf (pms [a, b]) k = cv (cf a) (cf b) k := by
  rw [pms_two, pm_cf]
  have e1 : cf (pm [1] (beh a)) = cf a := funext fun i => by
    rw [pm_cf]
    have h1 : ∀ j, 1 ≤ j → cf [1] j = 0 := fun j hj => cf_out _ _ (by simpa using hj)
    unfold cv
    rw [xs_ext (fun j => gm (cf [1] j) (cf (beh a) (i - j))) (show 1 ≤ i + 1 by omega) fun j h _ => by rw [h1 j h, gm_zero_left]]
    show 0 ^^^ gm (cf [1] 0) (cf (beh a) (i - 0)) = _
    rw [show cf [1] 0 = 1 from rfl, gm_one_left (ha.beh.cf _), Nat.zero_xor, Nat.sub_zero, cf_beh]
  have e2 : cf (beh b) = cf b := funext fun i => cf_beh b i
  rw [e1, e2]
theorem cf_lowl (p : Nat) (l : List Nat) (i : Nat) : cf (lowl p l) i = if i < p then cf l i else 0 := by
  unfold lowl
  by_cases h : i < (l.drop (l.length - p)).length
  · rw [cf_in _ _ h]
    rw [List.length_drop] at h
    rw [if_pos (by omega), cf_in _ _ (by omega), sq_get _ _ (by rw [List.length_drop]; omega), List.getElem_drop, ← sq_get]
    congr 1
    rw [List.length_drop]
    omega
  · rw [cf_out _ _ (by omega)]
    rw [List.length_drop] at h
    split
    · rw [cf_out _ _ (by omega)]
    · rfl
theorem cf_valsR {W : List Nat} {p i : Nat} (hi : i < p) : cf (valsR W p) i = ev W (ex i) := by
  have hl : (valsR W p).length = p := by rw [valsR, List.length_reverse]; exact vals_length _ _
  rw [cf_in _ _ (by rw [hl]; exact hi), sq_get _ _ (by rw [hl]; omega)]
  simp only [valsR]
  rw [List.getElem_reverse, ← sq_get, vals_length]
  rw [show p - 1 - ((vals W p).reverse.length - 1 - i) = i by rw [List.length_reverse, vals_length]; omega, vals, sq_tab, if_pos hi]

/-- A word that differs from a right one. -/
structure Dec (n p : Nat) (W D : List Nat) : Prop where
  n255 : n ≤ 255
  W8 : By W
  Wl : W.length = n
  D8 : By D
  Dl : D.length = n
  D0 : ∀ i, i < p → ev D (ex i) = 0
def er (W D : List Nat) (j : Nat) : Nat := sq W j ^^^ sq D j
section
variable {n p : Nat} {W D : List Nat}
theorem er_lt (h : Dec n p W D) (j : Nat) : er W D j < 256 := xor_lt (h.W8.sq j) (h.D8.sq j)
theorem val_sum (h : Dec n p W D) {i : Nat} (hi : i < p) : ev W (ex i) = xs (fun j => gm (er W D j) (pw (mrk n j) i)) n := by
  have h1 := ev_xl h.W8 h.D8 (by rw [h.Wl, h.Dl]) i
  rw [h.D0 i hi, Nat.xor_zero, ev_places (xl_by h.W8 h.D8), xl_length, h.Wl] at h1
  rw [← h1]
  refine xs_congr _ fun j hj => ?_
  rw [xl, sq_tab, if_pos (by rw [h.Wl]; exact hj), mrk, pw_ex, Nat.mul_comm]
  rfl
/-- What is told of a place: by how much it is wrong, times what the erased places make of it. -/
def cc (W D E : List Nat) (n q j : Nat) : Nat := gm (gm (er W D j) (pw (mrk n j) q)) (ev E (iv (mrk n j)))
theorem cc_lt (h : Dec n p W D) {E : List Nat} (hE : By E) (q j : Nat) : cc W D E n q j < 256 := gm_lt (gm_lt (er_lt h j) (pw_lt (mrk_lt n j) q)) (ev_lt hE (iv_lt _))
theorem xs_front_sum (f g : Nat → Nat → Nat) (hf : ∀ l j, f l j = g l j) (a b : Nat) : xs (fun l => xs (f l) b) a = xs (fun j => xs (fun l => g l j) a) b := by
  rw [xs_swap]
  exact xs_congr _ fun j _ => xs_congr _ fun l _ => hf l j
/-- The sum over a polynomial's powers of what the places tell. -/
theorem fall_sum {y : Nat → Nat} (hy : ∀ j, y j < 256) {R : List Nat} (hR : By R) (k : Nat) (hk : R.length ≤ k + 1) :
    xs (fun l => gm (cf R l) (xs (fun j => gm (y j) (pw (mrk n j) (k - l))) n)) R.length = xs (fun j => gm (gm (y j) (pw (mrk n j) k)) (ev R (iv (mrk n j)))) n := by
  rw [show (fun l => gm (cf R l) (xs (fun j => gm (y j) (pw (mrk n j) (k - l))) n)) = fun l => xs (fun j => gm (y j) (gm (cf R l) (pw (mrk n j) (k - l)))) n from funext fun l => by
    rw [xs_gm]
    refine xs_congr _ fun j _ => ?_
    rw [← gm_assoc (hR.cf l) (hy j) (pw_lt (mrk_lt n j) _), gm_comm (hR.cf l) (hy j), gm_assoc (hy j) (hR.cf l) (pw_lt (mrk_lt n j) _)], xs_swap]
  refine xs_congr _ fun j _ => ?_
  rw [← xs_gm, ev_fall (mrk_lt n j) (mrk_pos n j) hR k hk, gm_assoc (hy j) (pw_lt (mrk_lt n j) k) (ev_lt hR (iv_lt _))]
theorem told_sum (h : Dec n p W D) {E : List Nat} (hE : By E) {q i : Nat} (hEl : E.length ≤ q + 1) (hq : q ≤ i) (hi : i < p) :
    cf (toldF p (valsR W p) E) i = xs (fun j => gm (cc W D E n q j) (pw (mrk n j) (i - q))) n := by
  have hV8 : By (valsR W p) := fun x hx => tab_by _ (fun i _ => ev_lt h.W8 (ex_lt i)) x (List.mem_reverse.1 hx)
  rw [toldF, cf_lowl, if_pos hi, cf_pms_two hV8 hE, cv_comm (fun k => hV8.cf k) (fun k => hE.cf k)]
  unfold cv
  rw [xs_ext (fun l => gm (cf E l) (cf (valsR W p) (i - l))) (show E.length ≤ i + 1 by omega) fun l hl _ => by rw [cf_out _ _ hl, gm_zero_left]]
  rw [xs_congr E.length (g := fun l => gm (cf E l) (xs (fun j => gm (er W D j) (pw (mrk n j) (i - l))) n)) fun l hl => by rw [cf_valsR (show i - l < p by omega), val_sum h (show i - l < p by omega)]]
  rw [fall_sum (er_lt h) hE i (by omega)]
  refine xs_congr _ fun j _ => ?_
  have e1 := er_lt h j
  have e2 := pw_lt (mrk_lt n j) q
  have e3 := pw_lt (mrk_lt n j) (i - q)
  have e4 := ev_lt hE (iv_lt (mrk n j))
  rw [cc, show pw (mrk n j) i = gm (pw (mrk n j) q) (pw (mrk n j) (i - q)) by rw [← pw_add (mrk_lt n j), show q + (i - q) = i by omega],
    ← gm_assoc e1 e2 e3, gm_assoc (gm_lt e1 e2) e3 e4, gm_comm e3 e4, ← gm_assoc (gm_lt e1 e2) e4 e3]
/-- By how much a rule misses, as long as it reaches back no farther than the first thing. -/
theorem miss_sum (h : Dec n p W D) {E : List Nat} (hE : By E) {q : Nat} (hEl : E.length ≤ q + 1) {R : List Nat} (hR : By R) {k : Nat} (hk : R.length ≤ k + 1) (hkp : q + k < p) :
    missF (toldF p (valsR W p) E) R q k = xs (fun j => gm (gm (cc W D E n q j) (pw (mrk n j) k)) (ev R (iv (mrk n j)))) n := by
  rw [← fall_sum (cc_lt h hE q) hR k hk]
  unfold missF
  refine xs_congr _ fun l hl => ?_
  congr 1
  rw [fcI, if_neg (by omega), show ((q : Int) + (k : Int) - (l : Int)).toNat = q + k - l by omega, told_sum h hE hEl (by omega) (by omega), show q + k - l - q = k - l by omega]
end

end SolMath
