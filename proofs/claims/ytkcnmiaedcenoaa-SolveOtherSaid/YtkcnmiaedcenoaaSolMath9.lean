/- Euclid's division finds what Berlekamp's and Massey's steps do, but for a factor: both ways mend alike. No program. -/
import Derived.Test.YtkcnmiaedcenoaaSolMath8
namespace SolMath
open GfMath PolyMath RsMath
set_option linter.unusedVariables false

/-- Two rests, and the rules that belong to them. -/
structure EU where
  a : List Nat
  b : List Nat
  u : List Nat
  v : List Nat
def euStep (s : EU) : EU := ⟨s.b, dr s.a s.b, s.v, addl [s.u, pms [dq s.a s.b, s.v]]⟩
def euGo (p q : Nat) (s : EU) : Prop := p + q + 2 ≤ 2 * (beh s.b).length
instance (p q : Nat) (s : EU) : Decidable (euGo p q s) := by unfold euGo; infer_instance
def eu (p q : Nat) : Nat → EU → EU
  | 0, s => s
  | f + 1, s => if euGo p q s then eu p q f (euStep s) else s
def euS (p : Nat) (T : List Nat) : EU := ⟨shl [1] p, T, [], [1]⟩
def euclidF (p : Nat) (T : List Nat) (q : Nat) : List Nat := (eu p q (p + 1) (euS p T)).v

structure EBy (s : EU) : Prop where
  a8 : By s.a
  b8 : By s.b
  u8 : By s.u
  v8 : By s.v
theorem EBy.step {p q : Nat} {s : EU} (h : EBy s) (hg : euGo p q s) : EBy (euStep s) := by
  have h0 : 0 < (beh s.b).length := by unfold euGo at hg; omega
  obtain ⟨d1, _, d3, _⟩ := div_spec h.a8 h.b8 h0
  exact ⟨h.b8, d3, h.v8, addl_two_by h.u8 (pms_two_by d1 h.v8)⟩
theorem EBy.all {p q : Nat} : ∀ (f : Nat) {s : EU}, EBy s → EBy (eu p q f s)
  | 0, s, h => h
  | f + 1, s, h => by
    unfold eu
    split
    · exact EBy.all f (h.step (by assumption))
    · exact h
theorem EBy.start {p : Nat} {T : List Nat} (hT : By T) : EBy (euS p T) := ⟨shl_by (by_one (show 1 < 256 by omega)) p, hT, by_nil, by_one (show 1 < 256 by omega)⟩
theorem euclidF_by {p q : Nat} {T : List Nat} (hT : By T) : By (euclidF p T q) := (EBy.all (p + 1) (EBy.start hT)).v8

theorem cv_add_right (f g g' : Nat → Nat) (n : Nat) : cv f (fun i => g i ^^^ g' i) n = cv f g n ^^^ cv f g' n := by
  unfold cv
  rw [← xs_xor]
  exact xs_congr _ fun i _ => gm_add_right _ _ _
theorem cv_congr_right {f g g' : Nat → Nat} {n : Nat} (h : ∀ i, i ≤ n → g i = g' i) : cv f g n = cv f g' n := xs_congr _ fun i _ => by rw [h (n - i) (by omega)]
theorem cv_nil_left (g : Nat → Nat) (n : Nat) : cv (cf []) g n = 0 := xs_zero _ fun i _ => by rw [cf_out [] i (Nat.zero_le _), gm_zero_left]
theorem cv_nil_right (f : Nat → Nat) (n : Nat) : cv f (cf []) n = 0 := xs_zero _ fun i _ => by rw [cf_out [] _ (Nat.zero_le _), gm_zero_right]
theorem cf_far (l : List Nat) (k : Nat) (h : (beh l).length ≤ k) : cf l k = 0 := by rw [← cf_beh]; exact cf_out _ _ h
theorem dq_len {a b : List Nat} (h : (beh b).length < (beh a).length) : (dq a b).length = (beh a).length - (beh b).length + 1 := by
  unfold dq
  rw [if_neg (by omega), qs_length]
theorem shl_one (p : Nat) : shl [1] p = 1 :: List.replicate p 0 := by
  have hc : Can [1] := fun _ => by decide
  unfold shl
  rw [hc.beh, if_neg (by decide)]
  rfl
theorem shl_one_len (p : Nat) : (beh (shl [1] p)).length = p + 1 := by
  have hc : Can (shl [1] p) := fun _ => by rw [shl_one]; show sq _ 0 ≠ 0; unfold sq; simp
  rw [hc.beh, shl_one]
  simp

/-- What holds of the rests and their rules. -/
structure EInv (T : List Nat) (p q : Nat) (s : EU) : Prop where
  by_ : EBy s
  lt : (beh s.b).length < (beh s.a).length
  big : p + q + 2 ≤ 2 * (beh s.a).length
  det : ∀ k, cv (cf s.a) (cf s.v) k ^^^ cv (cf s.b) (cf s.u) k = if k = p then 1 else 0
  cb : ∀ k, k < p → cv (cf s.v) (cf T) k = cf s.b k
  ca : ∀ k, k < p → cv (cf s.u) (cf T) k = cf s.a k
  lv : s.v.length + (beh s.a).length ≤ p + 2
  lu : s.u.length + (beh s.a).length ≤ p + 2
theorem EInv.start {p q : Nat} {T : List Nat} (hT : By T) (hTl : T.length ≤ p) (hq : q ≤ p) : EInv T p q (euS p T) := by
  have hS := EBy.start (p := p) hT
  have hl := shl_one_len p
  have hbl := beh_le T
  refine ⟨hS, ?_, ?_, fun k => ?_, fun k hk => ?_, fun k hk => ?_, ?_, ?_⟩
  · show (beh T).length < (beh (shl [1] p)).length
    omega
  · show p + q + 2 ≤ 2 * (beh (shl [1] p)).length
    omega
  · show cv (cf (shl [1] p)) (cf [1]) k ^^^ cv (cf T) (cf []) k = _
    have ha8 : By (shl [1] p) := hS.a8
    rw [cv_nil_right, Nat.xor_zero, cv_comm (f := cf (shl [1] p)) (fun i => ha8.cf i) (fun i => (by_one (show 1 < 256 by omega)).cf i), cv_const, gm_one_left (ha8.cf k), cf_shl', cf_one]
    by_cases h1 : k < p
    · rw [if_pos h1, if_neg (by omega)]
    · rw [if_neg h1]
      by_cases h2 : k = p
      · rw [if_pos (by omega), if_pos h2]
      · rw [if_neg (by omega), if_neg h2]
  · show cv (cf [1]) (cf T) k = cf T k
    rw [cv_const, gm_one_left (hT.cf k)]
  · show cv (cf []) (cf T) k = cf (shl [1] p) k
    rw [cv_nil_left, cf_shl', if_pos hk]
  · show 1 + (beh (shl [1] p)).length ≤ p + 2
    omega
  · show 0 + (beh (shl [1] p)).length ≤ p + 2
    omega
theorem EInv.step {p q : Nat} {T : List Nat} (hT : By T) {s : EU} (h : EInv T p q s) (hg : euGo p q s) : EInv T p q (euStep s) := by
  have hS := h.by_.step hg
  have hg' : p + q + 2 ≤ 2 * (beh s.b).length := hg
  have h0 : 0 < (beh s.b).length := by omega
  obtain ⟨a8, b8, u8, v8⟩ := h.by_
  obtain ⟨d1, d2, d3, d4, d5, d6, d7⟩ := div_spec a8 b8 h0
  have d8 := dq_len h.lt
  have hv' : ∀ k, cf (addl [s.u, pms [dq s.a s.b, s.v]]) k = cf s.u k ^^^ cv (cf (dq s.a s.b)) (cf s.v) k := fun k => by rw [cf_addl_two, cf_pms_two d1 v8]
  have hr : ∀ k, cf (dr s.a s.b) k = cf s.a k ^^^ cv (cf (dq s.a s.b)) (cf s.b) k := fun k => by
    rw [d7 k, Nat.xor_comm (cv _ _ k), Nat.xor_assoc, Nat.xor_self, Nat.xor_zero]
  obtain ⟨Q, hQ⟩ : ∃ Q, dq s.a s.b = Q := ⟨_, rfl⟩
  have ebeh : beh (dr s.a s.b) = dr s.a s.b := d4.beh
  rw [hQ] at d1 d8 hv' hr
  refine ⟨hS, ?_, ?_, fun k => ?_, fun k hk => ?_, fun k hk => ?_, ?_, ?_⟩
  · show (beh (dr s.a s.b)).length < (beh s.b).length
    rw [ebeh]; exact d5
  · exact hg'
  · show cv (cf s.b) (cf (addl [s.u, pms [dq s.a s.b, s.v]])) k ^^^ cv (cf (dr s.a s.b)) (cf s.v) k = _
    rw [← h.det k, hQ, show cf (addl [s.u, pms [Q, s.v]]) = fun i => cf s.u i ^^^ cv (cf Q) (cf s.v) i from funext hv', show cf (dr s.a s.b) = fun i => cf s.a i ^^^ cv (cf Q) (cf s.b) i from funext hr,
      cv_add_right, cv_add_left]
    have e1 : cv (cf s.b) (cv (cf Q) (cf s.v)) k = cv (cv (cf Q) (cf s.b)) (cf s.v) k := by
      rw [← cf_assoc b8 d1 v8, show cv (cf s.b) (cf Q) = cv (cf Q) (cf s.b) from funext fun i => cv_comm (fun i => b8.cf i) (fun i => d1.cf i) i]
    rw [e1]
    generalize cv (cf s.b) (cf s.u) k = x
    generalize cv (cv (cf Q) (cf s.b)) (cf s.v) k = y
    generalize cv (cf s.a) (cf s.v) k = z
    rw [Nat.xor_comm z y, ← Nat.xor_assoc, Nat.xor_assoc x y y, Nat.xor_self, Nat.xor_zero, Nat.xor_comm]
  · show cv (cf (addl [s.u, pms [dq s.a s.b, s.v]])) (cf T) k = cf (dr s.a s.b) k
    rw [hQ, show cf (addl [s.u, pms [Q, s.v]]) = fun i => cf s.u i ^^^ cv (cf Q) (cf s.v) i from funext hv', cv_add_left, h.ca k hk, cf_assoc d1 v8 hT, hr k]
    congr 1
    exact cv_congr_right fun i hi => h.cb i (by omega)
  · exact h.cb k hk
  · show (addl [s.u, pms [dq s.a s.b, s.v]]).length + (beh s.b).length ≤ p + 2
    rw [hQ]
    have h1 := addl_two_le s.u (pms [Q, s.v])
    have h2 := pms_two_le Q s.v
    have h3 := h.lv
    have h4 := h.lu
    have h5 := h.lt
    omega
  · show s.v.length + (beh s.b).length ≤ p + 2
    have h3 := h.lv
    have h5 := h.lt
    omega
theorem eu_inv {p q : Nat} {T : List Nat} (hT : By T) : ∀ (f : Nat) {s : EU}, EInv T p q s → EInv T p q (eu p q f s)
  | 0, s, h => h
  | f + 1, s, h => by
    unfold eu
    split
    · exact eu_inv hT f (h.step hT (by assumption))
    · exact h
theorem eu_stop {p q : Nat} {T : List Nat} (hT : By T) : ∀ (f : Nat) {s : EU}, EInv T p q s → (beh s.b).length < f → ¬ euGo p q (eu p q f s)
  | 0, s, h, hf => absurd hf (Nat.not_lt_zero _)
  | f + 1, s, h, hf => by
    unfold eu
    split
    · rename_i hg
      have h1 := h.step hT hg
      have h2 : (beh (euStep s).b).length < (beh s.b).length := h1.lt
      exact eu_stop hT f h1 (by omega)
    · assumption

/-- A rest times a rule that is sought, and its rule times what that leaves below, are one. -/
theorem same_low {R T c d : List Nat} {om : Nat → Nat} {p q t : Nat} (hR : By R) (hT : By T) (hc : By c) (hd : By d) (ho : ∀ k, om k = if k < p then cv (cf R) (cf T) k else 0) (ho0 : ∀ k, q + t ≤ k → om k = 0)
    (hRl : R.length ≤ t + 1) (hcd : ∀ k, k < p → cv (cf d) (cf T) k = cf c k) (h1 : t + (beh c).length ≤ p) (h2 : d.length + q + t ≤ p + 1) (k : Nat) : cv (cf R) (cf c) k = cv (cf d) om k := by
  by_cases hk : k < p
  · rw [cv_congr_right (f := cf R) (g := cf c) (g' := cv (cf d) (cf T)) fun i hi => (hcd i (by omega)).symm, ← cf_assoc hR hd hT, show cv (cf R) (cf d) = cv (cf d) (cf R) from funext fun i => cv_comm (fun i => hR.cf i) (fun i => hd.cf i) i, cf_assoc hd hR hT]
    exact cv_congr_right fun i hi => by rw [ho i, if_pos (by omega)]
  · rw [cv_out (N := t + 1) (M := (beh c).length) (fun i hi => cf_out _ _ (by omega)) (fun i hi => cf_far _ _ hi) (by omega),
      cv_out (N := d.length) (M := q + t) (fun i hi => cf_out _ _ hi) ho0 (by omega)]

theorem missF_cv {T R : List Nat} {q k : Nat} (hk : R.length ≤ k + 1) : missF T R q k = cv (cf R) (cf T) (q + k) := by
  unfold missF cv
  rw [xs_ext (fun i => gm (cf R i) (cf T (q + k - i))) (show R.length ≤ q + k + 1 by omega) fun i hi _ => by rw [cf_out _ _ hi, gm_zero_left]]
  refine xs_congr _ fun l hl => ?_
  rw [fcI, if_neg (by omega), show ((q : Int) + (k : Int) - (l : Int)).toNat = q + k - l by omega]
theorem ev_zero_cf {l : List Nat} (hl : By l) : ev l 0 = cf l 0 := by
  rw [ev_E_le (by omega) hl (N := l.length + 1) (by omega)]
  show xs (fun k => gm (cf l k) (pw 0 k)) (l.length + 1) = _
  rw [xs_front, xs_zero (f := fun i => gm (cf l (i + 1)) (pw 0 (i + 1))) _ fun i _ => by
    rw [show pw 0 (i + 1) = gm (pw 0 i) 0 from rfl, gm_zero_right, gm_zero_right], Nat.xor_zero]
  exact gm_one (hl.cf 0)
theorem ev_one (a x : Nat) : ev [a] x = a := by
  show gm 0 x ^^^ a = a
  rw [gm_zero_left, Nat.zero_xor]

section
variable {n p : Nat} {W D : List Nat}
/-- What Euclid's division finds. -/
theorem euclid_finds (h : Dec n p W D) {E : List Nat} (hE : By E) {q t : Nat} (hEl : E.length ≤ q + 1) (ht : ocnt (cc W D E n q) n = t) (hqt : q + 2 * t ≤ p) :
    (euclidF p (toldF p (valsR W p) E) q).length ≤ t + 1 ∧ cf (euclidF p (toldF p (valsR W p) E) q) 0 ≠ 0 ∧ ∀ j, j < n → cc W D E n q j ≠ 0 → ev (euclidF p (toldF p (valsR W p) E) q) (iv (mrk n j)) = 0 := by
  have hV8 : By (valsR W p) := fun x hx => tab_by _ (fun i _ => ev_lt h.W8 (ex_lt i)) x (List.mem_reverse.1 hx)
  have hT : By (toldF p (valsR W p) E) := lowl_by (pms_two_by hV8 hE) p
  have hTl : (toldF p (valsR W p) E).length ≤ p := lowl_le' p _
  obtain ⟨m1, m2, m3⟩ := massey_finds h hE hEl (Nat.le_of_eq ht) hqt
  have mR : By (masseyF p (toldF p (valsR W p) E) q) := (bm_ok hT q (p - q)).r8
  have hms := fun {R : List Nat} (hR : By R) {k : Nat} (hk : R.length ≤ k + 1) (hkp : q + k < p) => miss_sum h hE hEl hR hk hkp
  obtain ⟨T, hTe⟩ : ∃ T, toldF p (valsR W p) E = T := ⟨_, rfl⟩
  rw [hTe] at hT hTl m1 m2 m3 mR hms ⊢
  obtain ⟨R, hRe⟩ : ∃ R, masseyF p T q = R := ⟨_, rfl⟩
  rw [hRe] at m1 m2 m3 mR
  have hbT := beh_le T
  have hI := eu_inv hT (p + 1) (EInv.start (q := q) hT hTl (by omega))
  have hN := eu_stop hT (p + 1) (EInv.start (q := q) hT hTl (by omega)) (by show (beh T).length < p + 1; omega)
  unfold euclidF
  obtain ⟨s, hs⟩ : ∃ s, eu p q (p + 1) (euS p T) = s := ⟨_, rfl⟩
  rw [hs] at hI hN ⊢
  obtain ⟨⟨a8, b8, u8, v8⟩, hlt, hbig, hdet, hcb, hca, hlv, hlu⟩ := hI
  have hstop : 2 * (beh s.b).length < p + q + 2 := by unfold euGo at hN; omega
  -- what the rule that is sought leaves
  obtain ⟨om, hom⟩ : ∃ om : Nat → Nat, om = fun k => if k < p then cv (cf R) (cf T) k else 0 := ⟨_, rfl⟩
  have ho : ∀ k, om k = if k < p then cv (cf R) (cf T) k else 0 := fun k => by rw [hom]
  have ho8 : ∀ k, om k < 256 := fun k => by
    rw [ho k]
    split
    · exact cv_lt (fun i => mR.cf i) (fun i => hT.cf i) k
    · omega
  have ho0 : ∀ k, q + t ≤ k → om k = 0 := fun k hk => by
    rw [ho k]
    split
    · rename_i hkp
      have e := missF_cv (T := T) (R := R) (q := q) (k := k - q) (by omega)
      rw [show q + (k - q) = k by omega] at e
      rw [← e, hms mR (by omega) (by omega)]
      refine xs_zero _ fun j hj => ?_
      by_cases h0 : cc W D E n q j = 0
      · rw [h0, gm_zero_left, gm_zero_left]
      · rw [m3 j hj h0, gm_zero_right]
    · rfl
  have hB := same_low (q := q) (t := t) mR hT b8 v8 ho ho0 m1 hcb (by omega) (by omega)
  have hlen : p + 1 ≤ t + (beh s.a).length := by
    refine Classical.byContradiction fun hc => ?_
    have hA := same_low (q := q) (t := t) mR hT a8 u8 ho ho0 m1 hca (by omega) (by omega)
    have e1 : cv (cf R) (fun k => cv (cf s.a) (cf s.v) k ^^^ cv (cf s.b) (cf s.u) k) p = 1 := by
      rw [show (fun k => cv (cf s.a) (cf s.v) k ^^^ cv (cf s.b) (cf s.u) k) = fun k => if k = p then 1 else 0 from funext hdet]
      unfold cv
      rw [xs_front, xs_zero (f := fun i => gm (cf R (i + 1)) (if p - (i + 1) = p then 1 else 0)) _ fun i hi => by rw [if_neg (by omega), gm_zero_right], Nat.xor_zero, m2]
      show gm 1 (if p - 0 = p then 1 else 0) = 1
      rw [if_pos (Nat.sub_zero p)]
      exact gm_one (by omega)
    rw [cv_add_right, ← cf_assoc mR a8 v8, ← cf_assoc mR b8 u8, show cv (cf R) (cf s.a) = cv (cf s.u) om from funext hA, show cv (cf R) (cf s.b) = cv (cf s.v) om from funext hB,
      cv_assoc (fun i => u8.cf i) ho8 (fun i => v8.cf i) s.u.length (fun i hi => cf_out _ _ hi), cv_assoc (fun i => v8.cf i) ho8 (fun i => u8.cf i) s.v.length (fun i hi => cf_out _ _ hi),
      cv_comm (f := cf s.u) (fun i => u8.cf i) (fun i => cv_lt ho8 (fun i => v8.cf i) i),
      cv_assoc ho8 (fun i => v8.cf i) (fun i => u8.cf i) p (fun i hi => by rw [ho i, if_neg (by omega)]),
      show cv om (cv (cf s.v) (cf s.u)) p = cv (cf s.v) (cv om (cf s.u)) p from by
        rw [← cv_assoc ho8 (fun i => v8.cf i) (fun i => u8.cf i) p (fun i hi => by rw [ho i, if_neg (by omega)]), show cv om (cf s.v) = cv (cf s.v) om from funext fun i => cv_comm ho8 (fun i => v8.cf i) i,
          cv_assoc (fun i => v8.cf i) ho8 (fun i => u8.cf i) s.v.length (fun i hi => cf_out _ _ hi)],
      Nat.xor_self] at e1
    omega
  have hvl : s.v.length ≤ t + 1 := by omega
  have hy : ∀ j, gm (cc W D E n q j) (ev s.v (iv (mrk n j))) < 256 := fun j => gm_lt (cc_lt h hE q j) (ev_lt v8 (iv_lt _))
  have h0 := vand (n := n) (t := t) (a := p - q - t) (y := fun j => gm (cc W D E n q j) (ev s.v (iv (mrk n j)))) h.n255 hy
    (Nat.le_trans (ocnt_le fun j _ hj e => hj (by show gm _ _ = 0; rw [e, gm_zero_left])) (Nat.le_of_eq ht)) fun k hk => by
      have e := hms (k := p - q - t + k) v8 (by omega) (by omega)
      rw [missF_cv (by omega), hcb _ (by omega), cf_far _ _ (by omega)] at e
      rw [e]
      refine xs_congr _ fun j _ => ?_
      have e1 := cc_lt h hE q j
      have e2 := pw_lt (mrk_lt n j) (p - q - t + k)
      have e3 := ev_lt v8 (iv_lt (mrk n j))
      rw [gm_assoc e1 e2 e3, gm_comm e2 e3, ← gm_assoc e1 e3 e2]
  have hroot : ∀ j, j < n → cc W D E n q j ≠ 0 → ev s.v (iv (mrk n j)) = 0 := fun j hj hc => by
    rcases gm_eq_zero (cc_lt h hE q j) (ev_lt v8 (iv_lt _)) (h0 j hj) with h1 | h1
    · exact absurd h1 hc
    · exact h1
  refine ⟨hvl, fun hz => ?_, hroot⟩
  -- were it 0 at 0 too, it would be 0
  obtain ⟨L, hL⟩ : ∃ L, ((List.range n).filter fun j => decide (cc W D E n q j ≠ 0)) = L := ⟨_, rfl⟩
  have hLm : ∀ j, j ∈ L → j < n ∧ cc W D E n q j ≠ 0 := fun j hj => by
    rw [← hL, List.mem_filter, List.mem_range, decide_eq_true_eq] at hj
    exact hj
  have hLl : L.length = t := by rw [← hL]; exact ht
  have hLn : (L.map fun j => iv (mrk n j)).Nodup := map_nodup (by rw [← hL]; exact List.Pairwise.filter _ List.nodup_range) fun x hx y hy e => iv_inj h.n255 (hLm x hx).1 (hLm y hy).1 e
  have hall := roots_zero (t + 1) s.v (0 :: L.map fun j => iv (mrk n j)) v8 (fun x hx => by
      rcases List.mem_cons.1 hx with rfl | hx
      · omega
      · exact Sl_by (n := n) L x hx) hvl (by rw [List.length_cons, List.length_map, hLl]) (List.nodup_cons.2 ⟨fun hx => by
        obtain ⟨j, _, e⟩ := List.mem_map.1 hx
        exact iv_ne' (mrk_lt n j) (mrk_pos n j) e, hLn⟩) fun x hx => by
      rcases List.mem_cons.1 hx with rfl | hx
      · rw [ev_zero_cf v8, hz]
      · obtain ⟨j, hj, rfl⟩ := List.mem_map.1 hx
        exact hroot j (hLm j hj).1 (hLm j hj).2
  have hv0 : ∀ k, cf s.v k = 0 := fun k => by
    by_cases hk : k < s.v.length
    · rw [cf_in _ _ hk, sq_get _ _ (by omega)]
      exact hall _ (List.getElem_mem _)
    · exact cf_out _ _ (by omega)
  have e2 := hdet p
  rw [if_pos rfl, show cv (cf s.a) (cf s.v) p = 0 from xs_zero _ fun i _ => by rw [hv0, gm_zero_right], Nat.zero_xor, cv_out (N := (beh s.b).length) (M := s.u.length) (fun i hi => cf_far _ _ hi) (fun i hi => cf_out _ _ hi) (by omega)] at e2
  omega

/-- A polynomial times a factor. -/
def Scd (z : Nat) (X Y : List Nat) : Prop := ∀ k, cf X k = gm z (cf Y k)
theorem Scd.ev {z : Nat} {X Y : List Nat} (h : Scd z X Y) (hz : z < 256) (hX : By X) (hY : By Y) {x : Nat} (hx : x < 256) : ev X x = gm z (ev Y x) := by
  rw [ev_E_le hx hX (N := X.length + Y.length) (by omega), ev_E_le hx hY (N := X.length + Y.length) (by omega)]
  show xs (fun k => gm (cf X k) (pw x k)) _ = gm z (xs (fun k => gm (cf Y k) (pw x k)) _)
  rw [xs_gm]
  refine xs_congr _ fun k _ => ?_
  show gm (cf X k) (pw x k) = gm z (gm (cf Y k) (pw x k))
  rw [h k, gm_assoc hz (hY.cf k) (pw_lt hx k)]
theorem gm_quot {z l s : Nat} (hz : z < 256) (hl : l < 256) (hs : s < 256) (h0 : z ≠ 0) : gm (gm z l) (iv (gm z s)) = gm l (iv s) := by
  by_cases e : s = 0
  · rw [e, gm_zero_right, show iv 0 = 0 from rfl, gm_zero_right, gm_zero_right]
  · have h1 : iv (gm z s) = gm (iv z) (iv s) := (iv_unique (gm_lt hz hs) (gm_lt (iv_lt z) (iv_lt s)) (by
      rw [gm_comm hz hs, gm_assoc hs hz (gm_lt (iv_lt z) (iv_lt s)), ← gm_assoc hz (iv_lt z) (iv_lt s), gm_iv hz h0, gm_one_left (iv_lt s), gm_iv hs e])).symm
    rw [h1, gm_comm hz hl, gm_assoc hl hz (gm_lt (iv_lt z) (iv_lt s)), ← gm_assoc hz (iv_lt z) (iv_lt s), gm_iv hz h0, gm_one_left (iv_lt s)]
theorem dAt_scaled {z : Nat} {A A' V : List Nat} (hz : z < 256) (h0 : z ≠ 0) (hA : By A) (hA' : By A') (hV : By V) (h : Scd z A' A) (i : Nat) :
    dAt n A' (beh (dl A')) (lowl p (pms [V, A'])) i = dAt n A (beh (dl A)) (lowl p (pms [V, A])) i := by
  have hx := iv_lt (mrk n i)
  have hdl : ∀ {X : List Nat}, By X → By (beh (dl X)) := fun hX => By.beh (tab_by _ fun n _ => by
    split
    · exact hX.sq _
    · omega)
  have hlo : ∀ {X : List Nat}, By X → By (lowl p (pms [V, X])) := fun hX => lowl_by (pms_two_by hV hX) p
  have h1 := h.ev hz hA' hA hx
  have h2 : ev (beh (dl A')) (iv (mrk n i)) = gm z (ev (beh (dl A)) (iv (mrk n i))) := Scd.ev (fun k => by
    rw [cf_beh, cf_beh, dl_cf, dl_cf]
    split
    · exact h _
    · rw [gm_zero_right]) hz (hdl hA') (hdl hA) hx
  have h3 : ev (lowl p (pms [V, A'])) (iv (mrk n i)) = gm z (ev (lowl p (pms [V, A])) (iv (mrk n i))) := Scd.ev (fun k => by
    rw [cf_lowl, cf_lowl, cf_pms_two hV hA', cf_pms_two hV hA]
    split
    · unfold cv
      rw [xs_gm]
      refine xs_congr _ fun j _ => ?_
      show gm (cf V j) (cf A' (k - j)) = gm z (gm (cf V j) (cf A (k - j)))
      rw [h (k - j), ← gm_assoc (hV.cf j) hz (hA.cf _), gm_comm (hV.cf j) hz, gm_assoc hz (hV.cf j) (hA.cf _)]
    · rw [gm_zero_right]) hz (hlo hA') (hlo hA) hx
  unfold dAt
  rw [h1, h2, h3, gm_quot hz (ev_lt (hlo hA) hx) (ev_lt (hdl hA) hx) h0]
  by_cases e : ev A (iv (mrk n i)) = 0
  · rw [e, gm_zero_right]
  · rw [if_pos (gm_ne hz (ev_lt hA hx) h0 e), if_pos e]

/-- What finds the wrong places mends to the codeword. -/
theorem decode_by (seek : Nat → List Nat → Nat → List Nat) (h : Dec n p W D) (hp : 1 ≤ p) {el : List Int} (hb : inB n el = true) (hq : cnt (markE n el) + 2 * ocnt (oth W D (markE n el)) n ≤ p)
    (hf : ∀ {E : List Nat}, By E → ∀ {q t : Nat}, E.length ≤ q + 1 → ocnt (cc W D E n q) n = t → q + 2 * t ≤ p → By (seek p (toldF p (valsR W p) E) q) ∧ (seek p (toldF p (valsR W p) E) q).length ≤ t + 1 ∧ cf (seek p (toldF p (valsR W p) E) q) 0 ≠ 0 ∧ ∀ j, j < n → cc W D E n q j ≠ 0 → ev (seek p (toldF p (valsR W p) E) q) (iv (mrk n j)) = 0) :
    mendF seek n p W el = .ok D (atF (er W D) n) := by
  rw [mendF_eq, if_neg (by rw [hb]; simp)]
  have hG : (markE n el).length = n := by unfold markE; rw [setG_length]; exact List.length_replicate
  obtain ⟨G, hGe⟩ : ∃ G, markE n el = G := ⟨_, rfl⟩
  rw [hGe] at hq hG ⊢
  obtain ⟨hEl, hE0, hEr⟩ := erF_spec (n := n) (G := G) h.n255 n (Nat.le_refl _)
  have hE8 := (erF_all n G n).1
  rw [show gcnt G n = cnt G by rw [← gcnt_cnt G, hG]] at hEl
  have hV8 : By (valsR W p) := fun x hx => tab_by _ (fun i _ => ev_lt h.W8 (ex_lt i)) x (List.mem_reverse.1 hx)
  have hcc : ∀ j, j < n → (cc W D (erF n G n) n (cnt G) j ≠ 0 → oth W D G j ≠ 0) ∧ (oth W D G j ≠ 0 → cc W D (erF n G n) n (cnt G) j ≠ 0) := fun j hj => by
    unfold cc oth
    constructor
    · intro h1 h2
      cases hg : gAt G j with
      | true => exact h1 (by rw [(hEr j hj).2 ⟨hj, hg⟩, gm_zero_right])
      | false => rw [hg] at h2; simp only [Bool.false_eq_true, if_false] at h2; exact h1 (by rw [h2, gm_zero_left, gm_zero_left])
    · intro h1
      cases hg : gAt G j with
      | true => rw [hg] at h1; simp at h1
      | false =>
        rw [hg] at h1
        simp only [Bool.false_eq_true, if_false] at h1
        refine gm_ne (gm_lt (er_lt h j) (pw_lt (mrk_lt n j) _)) (ev_lt hE8 (iv_lt _)) (gm_ne (er_lt h j) (pw_lt (mrk_lt n j) _) h1 (by rw [mrk, pw_ex]; exact ex_pos _)) fun h2 => ?_
        have := ((hEr j hj).1 h2).2
        rw [hg] at this
        cases this
  have hoc : ocnt (cc W D (erF n G n) n (cnt G)) n ≤ ocnt (oth W D G) n := ocnt_le fun j hj => (hcc j hj).1
  obtain ⟨hC8, hCl, hC0, hCr⟩ := hf hE8 hEl rfl (by omega)
  obtain ⟨C, hC⟩ : ∃ C, seek p (toldF p (valsR W p) (erF n G n)) (cnt G) = C := ⟨_, rfl⟩
  rw [hC] at hCl hC0 hCr hC8
  have hCl := Nat.le_trans hCl (Nat.add_le_add_right hoc 1)
  obtain ⟨E, hE⟩ : ∃ E, erF n G n = E := ⟨_, rfl⟩
  rw [hE] at hE8 hEl hE0 hEr hcc hCr hC
  have hSn := Sl_len (W := W) (D := D) hG
  -- the rule, its factor at 0 made 1
  have hz8 := iv_lt (cf C 0)
  have hz0 : iv (cf C 0) ≠ 0 := iv_ne' (hC8.cf 0) hC0
  obtain ⟨C', hC'⟩ : ∃ C', pms [[iv (cf C 0)], C] = C' := ⟨_, rfl⟩
  have hs : Scd (iv (cf C 0)) C' C := fun k => by rw [← hC', cf_scale hz8 hC8]
  have hC8' : By C' := by rw [← hC']; exact pms_two_by (by_one hz8) hC8
  have hCl' : C'.length ≤ C.length := by
    have := pms_two_le [iv (cf C 0)] C
    rw [hC', List.length_singleton] at this
    omega
  have hA8 : By (pms [C, E]) := pms_two_by hC8 hE8
  have hA8' : By (pms [C', E]) := pms_two_by hC8' hE8
  have hAl := pms_two_le C' E
  have hAs : Scd (iv (cf C 0)) (pms [C', E]) (pms [C, E]) := fun k => by
    rw [cf_pms_two hC8' hE8, cf_pms_two hC8 hE8]
    unfold cv
    rw [xs_gm]
    refine xs_congr _ fun j _ => ?_
    show gm (cf C' j) (cf E (k - j)) = gm (iv (cf C 0)) (gm (cf C j) (cf E (k - j)))
    rw [hs j, gm_assoc hz8 (hC8.cf j) (hE8.cf _)]
  have hA0 : cf (pms [C', E]) 0 = 1 := by
    rw [cf_pms_two hC8' hE8]
    show 0 ^^^ gm (cf C' 0) (cf E (0 - 0)) = 1
    rw [hs 0, Nat.sub_self, hE0, Nat.zero_xor, iv_gm (hC8.cf 0) hC0]
    exact gm_one (by omega)
  have hAr : ∀ j, j ∈ Sl W D G n → ev (pms [C', E]) (iv (mrk n j)) = 0 := fun j hj => by
    obtain ⟨h1, h2⟩ := (Sl_mem j).1 hj
    rw [hAs.ev hz8 hA8' hA8 (iv_lt _), ev_pms_two hC8 hE8 (iv_lt _)]
    cases hg : gAt G j with
    | true => rw [(hEr j h1).2 ⟨h1, hg⟩, gm_zero_right, gm_zero_right]
    | false =>
      rcases h2 with h2 | h2
      · rw [hg] at h2; cases h2
      · rw [hCr j h1 ((hcc j h1).2 (by unfold oth; rw [hg]; simpa using h2)), gm_zero_left, gm_zero_right]
  have hF := forney h hp hG hA8' (by omega) hA0 (by omega) hAr
  have hd : ∀ i, i < n → dF n p (valsR W p) C E i = er W D i := fun i hi => by
    rw [← hF i hi]
    exact (dAt_scaled hz8 hz0 hA8 hA8' hV8 hAs i).symm
  have hW : layW n p W (valsR W p) C E = D := by
    refine list_eq (by unfold layW wordF; rw [tab_length, h.Wl, h.Dl]) fun i hi => ?_
    unfold layW wordF at hi ⊢
    rw [tab_length, h.Wl] at hi
    rw [sq_tab, if_pos (by rw [h.Wl]; exact hi), if_pos hi, hd i hi, er, ← Nat.xor_assoc, Nat.xor_self, Nat.zero_xor]
  have hP : layP n p (valsR W p) C E = atF (er W D) n := by
    unfold layP atF
    apply List.filter_congr
    intro j hj
    rw [hd j (List.mem_range.1 hj)]
  have hO : othF G (atF (er W D) n) = ocnt (oth W D G) n := by
    unfold othF atF ocnt
    rw [List.filter_filter]
    congr 1
    apply List.filter_congr
    intro j _
    unfold oth
    cases gAt G j <;> simp
  unfold mendG
  simp only
  rw [hE, hC, hW, hP, hO]
  refine if_pos ⟨?_, by omega, by omega⟩
  rw [allz_zero]
  exact h.D0
theorem decode_other (h : Dec n p W D) (hp : 1 ≤ p) {el : List Int} (hb : inB n el = true) (hq : cnt (markE n el) + 2 * ocnt (oth W D (markE n el)) n ≤ p) :
    mendF euclidF n p W el = .ok D (atF (er W D) n) :=
  decode_by euclidF h hp hb hq fun hE _ _ h1 h2 h3 => ⟨euclidF_by (lowl_by (pms_two_by (fun x hx => tab_by _ (fun i _ => ev_lt h.W8 (ex_lt i)) x (List.mem_reverse.1 hx)) hE) p), euclid_finds h hE h1 h2 h3⟩
end

theorem mendF_by' {seek : Nat → List Nat → Nat → List Nat} (hs : ∀ p T q, By T → By (seek p T q)) {n p : Nat} {W m l : List Nat} {er : List Int} (hW : By W) (h : mendF seek n p W er = .ok m l) : By m := by
  unfold mendF at h
  cases hb : inB n er with
  | false => rw [hb] at h; simp at h
  | true =>
    rw [hb] at h
    simp only [Bool.true_eq_false, if_false] at h
    split at h
    · injection h with h1 h2
      subst h1
      refine tab_by _ fun i _ => xor_lt (hW.sq _) ?_
      have hV : By (valsR W p) := fun x hx => tab_by _ (fun i _ => ev_lt hW (ex_lt i)) x (List.mem_reverse.1 hx)
      split
      · exact dAt_lt n (lowl_by (pms_two_by hV (pms_two_by (hs _ _ _ (lowl_by (pms_two_by hV (erF_all _ _ _).1) p)) (erF_all _ _ _).1)) p) i
      · omega
    · cases h
/-- Both ways mend every word alike. -/
theorem mend_other {n p : Nat} {W : List Nat} {el : List Int} (hW : By W) (hn : W.length = n) (h255 : n ≤ 255) (hp : 1 ≤ p) : mendF euclidF n p W el = mendF masseyF n p W el := by
  have hnear : ∀ {seek : Nat → List Nat → Nat → List Nat}, (∀ p T q, By T → By (seek p T q)) → ∀ {m l : List Nat}, mendF seek n p W el = .ok m l → Dec n p W m ∧ inB n el = true ∧ cnt (markE n el) + 2 * ocnt (oth W m (markE n el)) n ≤ p := fun hs m l h => by
    obtain ⟨o1, o2, o3, o4⟩ := mendF_ok h
    have h1 := mendF_near hn h
    exact ⟨⟨h255, hW, hn, mendF_by' hs hW h, by omega, allz_zero.1 o2⟩, o1, by omega⟩
  have hE : ∀ p T q, By T → By (euclidF p T q) := fun p T q hT => euclidF_by hT
  have hM : ∀ p T q, By T → By (masseyF p T q) := fun p T q hT => (bm_ok hT q _).r8
  have hno : ∀ (seek : Nat → List Nat → Nat → List Nat), (∀ m l, mendF seek n p W el ≠ .ok m l) → mendF seek n p W el = if inB n el = false then .arg else .bad := fun seek h => by
    rw [mendF_eq] at h ⊢
    split
    · rfl
    · rename_i hb
      rw [if_neg hb] at h
      unfold mendG at h ⊢
      simp only at h ⊢
      split
      · rename_i hc
        exact absurd (if_pos hc) (h _ _)
      · rfl
  cases hm : mendF masseyF n p W el with
  | ok m l =>
    obtain ⟨h1, h2, h3⟩ := hnear hM hm
    rw [decode_other h1 hp h2 h3, ← hm, decode h1 hp h2 h3]
  | _ =>
    rw [← hm, hno masseyF (fun m l e => by rw [e] at hm; cases hm)]
    refine hno euclidF fun m l e => ?_
    obtain ⟨h1, h2, h3⟩ := hnear hE e
    rw [decode h1 hp h2 h3] at hm
    cases hm
end SolMath
