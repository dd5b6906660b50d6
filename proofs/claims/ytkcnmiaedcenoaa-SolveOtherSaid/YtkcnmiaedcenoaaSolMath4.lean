/- Berlekamp's and Massey's steps find the shortest rule: its value is 0 at each wrong place that isn't erased. No program. -/
import Derived.Test.YtkcnmiaedcenoaaSolMath3
namespace SolMath
open GfMath PolyMath RsMath
set_option linter.unusedVariables false

theorem cf_pad (l : List Nat) : ∀ (s j : Nat), cf (l ++ List.replicate s 0) j = if j < s then 0 else cf l (j - s)
  | 0, j => by simp
  | s + 1, j => by
    rw [List.replicate_succ', ← List.append_assoc, cf_snoc]
    by_cases h : j = 0
    · subst h; simp
    · rw [if_neg h, cf_pad l s (j - 1)]
      by_cases h2 : j - 1 < s
      · rw [if_pos h2, if_pos (by omega)]
      · rw [if_neg h2, if_neg (by omega)]
        congr 1
        omega
theorem cf_shl' (l : List Nat) (s j : Nat) : cf (shl l s) j = if j < s then 0 else cf l (j - s) := by
  unfold shl
  split
  · rename_i h
    have e : ∀ i, cf l i = 0 := fun i => by rw [← cf_beh, List.eq_nil_of_length_eq_zero h]; exact cf_out _ _ (by simp)
    rw [cf_out _ _ (by simp), e]
    split <;> rfl
  · rw [cf_pad]
    split
    · rfl
    · exact cf_beh l _
theorem cf_scale {q : Nat} (hq : q < 256) {l : List Nat} (hl : By l) (j : Nat) : cf (pms [[q], l]) j = gm q (cf l j) := by
  rw [cf_pms_two (by_one hq) hl]
  unfold cv
  rw [xs_ext (fun i => gm (cf [q] i) (cf l (j - i))) (show 1 ≤ j + 1 by omega) fun i h _ => by rw [cf_out _ _ (by simpa using h), gm_zero_left]]
  show 0 ^^^ gm (cf [q] 0) (cf l (j - 0)) = _
  rw [Nat.zero_xor, Nat.sub_zero]
  rfl
theorem cf_addl_two (a b : List Nat) (k : Nat) : cf (addl [a, b]) k = cf a k ^^^ cf b k := by
  rw [addl_cf]
  simp [sumf]
theorem missF_ext (T X : List Nat) (q k M : Nat) (h : X.length ≤ M) : missF T X q k = xs (fun j => gm (cf X j) (fcI T ((q : Int) + (k : Int) - (j : Int)))) M := by
  unfold missF
  exact (xs_ext _ h fun j hj _ => by rw [cf_out _ _ hj, gm_zero_left]).symm
theorem next_miss {T R B : List Nat} (hT : By T) (hR : By R) (hB : By B) {c : Nat} (hc : c < 256) (s q k : Nat) (hs : s ≤ k) :
    missF T (addl [R, pms [[c], shl B s]]) q k = missF T R q k ^^^ gm c (missF T B q (k - s)) := by
  obtain ⟨M, hM⟩ : ∃ M, M = (addl [R, pms [[c], shl B s]]).length + R.length + B.length := ⟨_, rfl⟩
  rw [missF_ext T _ q k (s + M) (by omega), missF_ext T R q k (s + M) (by omega), missF_ext T B q (k - s) M (by omega)]
  rw [show (fun j : Nat => gm (cf (addl [R, pms [[c], shl B s]]) j) (fcI T ((q : Int) + (k : Int) - (j : Int)))) = fun j => gm (cf R j) (fcI T ((q : Int) + (k : Int) - (j : Int))) ^^^ gm (if j < s then 0 else gm c (cf B (j - s))) (fcI T ((q : Int) + (k : Int) - (j : Int))) from funext fun j => by
    rw [cf_addl_two, cf_scale hc (shl_by hB s), cf_shl', gm_add_left]
    split
    · rw [gm_zero_right]
    · rfl]
  rw [xs_xor]
  congr 1
  rw [xs_split, xs_zero (f := fun j => gm (if j < s then 0 else gm c (cf B (j - s))) (fcI T ((q : Int) + (k : Int) - (j : Int)))) s fun j hj => by rw [if_pos hj, gm_zero_left], Nat.zero_xor, xs_gm]
  refine xs_congr _ fun j _ => ?_
  rw [if_neg (by omega), show s + j - s = j by omega, gm_assoc hc (hB.cf j) (fcI_lt hT _)]
  congr 3
  omega

section
variable {n p : Nat} {W D : List Nat}
/-- A rule that misses the thing i, and no other one that it reaches, is long. -/
theorem disc (h : Dec n p W D) {E : List Nat} (hE : By E) {q t : Nat} (hEl : E.length ≤ q + 1) (ht : ocnt (cc W D E n q) n ≤ t) {R : List Nat} {L i : Nat} (hR : By R) (hRl : R.length ≤ L + 1) (hL : L ≤ i)
    (hgen : ∀ k, L ≤ k → k < i → missF (toldF p (valsR W p) E) R q k = 0) (hi : q + i < p) (hne : missF (toldF p (valsR W p) E) R q i ≠ 0) : i + 1 ≤ L + t := by
  refine Classical.byContradiction fun hc => hne ?_
  have hy : ∀ j, gm (cc W D E n q j) (ev R (iv (mrk n j))) < 256 := fun j => gm_lt (cc_lt h hE q j) (ev_lt hR (iv_lt _))
  have hsw : ∀ k, xs (fun j => gm (gm (cc W D E n q j) (pw (mrk n j) k)) (ev R (iv (mrk n j)))) n = xs (fun j => gm (gm (cc W D E n q j) (ev R (iv (mrk n j)))) (pw (mrk n j) k)) n := fun k => xs_congr _ fun j _ => by
    have e1 := cc_lt h hE q j
    have e2 := pw_lt (mrk_lt n j) k
    have e3 := ev_lt hR (iv_lt (mrk n j))
    rw [gm_assoc e1 e2 e3, gm_comm e2 e3, ← gm_assoc e1 e3 e2]
  have h0 := vand (n := n) (t := t) (a := L) (y := fun j => gm (cc W D E n q j) (ev R (iv (mrk n j)))) h.n255 hy
    (Nat.le_trans (ocnt_le fun j _ hj e => hj (by show gm _ _ = 0; rw [e, gm_zero_left])) ht) fun k hk => by
      rw [← hsw, ← miss_sum h hE hEl hR (by omega) (by omega)]
      exact hgen _ (by omega) (by omega)
  rw [miss_sum h hE hEl hR (by omega) hi, hsw]
  exact xs_zero _ fun j hj => by rw [h0 j hj, gm_zero_left]

structure BInv (T : List Nat) (q t i : Nat) (s : BM) : Prop where
  ok : BMok s i
  rl : s.rule.length ≤ s.size + 1
  r0 : cf s.rule 0 = 1
  l0 : cf s.last 0 = 1
  ll : s.last.length + s.since + s.size ≤ i + 2
  gen : ∀ k, s.size ≤ k → k < i → missF T s.rule q k = 0
  old : (s.since = i + 1 ∧ s.size = 0) ∨ (s.since ≤ i ∧ missF T s.last q (i - s.since) = s.miss ∧ ∀ k, k + s.since < i → i + 1 ≤ k + s.since + s.size → missF T s.last q k = 0)
  st : s.size ≤ t

theorem cf_pos {l : List Nat} (h : cf l 0 = 1) : 1 ≤ l.length := by
  refine Classical.byContradiction fun hc => ?_
  rw [cf_out _ _ (by omega)] at h
  cases h
theorem gm_div {d m : Nat} (hd : d < 256) (hm : m < 256) (h0 : m ≠ 0) : gm (gm d (iv m)) m = d := by
  rw [gm_assoc hd (iv_lt _) hm, iv_gm hm h0, gm_one hd]
theorem bm_inv_step (h : Dec n p W D) {E : List Nat} (hE : By E) {q t : Nat} (hEl : E.length ≤ q + 1) (ht : ocnt (cc W D E n q) n ≤ t) {i : Nat} (hi : q + i < p) {s : BM} (hI : BInv (toldF p (valsR W p) E) q t i s) :
    BInv (toldF p (valsR W p) E) q t (i + 1) (bmStep (toldF p (valsR W p) E) q i s) := by
  have hT : By (toldF p (valsR W p) E) := lowl_by (pms_two_by (fun x hx => tab_by _ (fun i _ => ev_lt h.W8 (ex_lt i)) x (List.mem_reverse.1 hx)) hE) p
  have hok := bmStep_ok hT q hI.ok
  obtain ⟨⟨r8, l8, m8, m0, rl', ll', s1, sz⟩, rl, r0, l0, ll, gen, old, st⟩ := hI
  by_cases hd : missF (toldF p (valsR W p) E) s.rule q i = 0
  · have e : bmStep (toldF p (valsR W p) E) q i s = { s with since := s.since + 1 } := if_pos hd
    rw [e] at hok ⊢
    refine ⟨hok, rl, r0, l0, by show s.last.length + (s.since + 1) + s.size ≤ _; omega, fun k h1 h2 => ?_, ?_, st⟩
    · by_cases e2 : k = i
      · rw [e2]; exact hd
      · exact gen k h1 (by omega)
    · rcases old with ⟨o1, o2⟩ | ⟨o1, o2, o3⟩
      · exact .inl ⟨by show s.since + 1 = _; omega, o2⟩
      · refine .inr ⟨by show s.since + 1 ≤ _; omega, ?_, fun k h1 h2 => o3 k ?_ ?_⟩
        · show missF _ s.last q (i + 1 - (s.since + 1)) = _
          rw [show i + 1 - (s.since + 1) = i - s.since by omega]; exact o2
        · have : k + (s.since + 1) < i + 1 := h1
          omega
        · have : i + 1 + 1 ≤ k + (s.since + 1) + s.size := h2
          omega
  · have hd8 : missF (toldF p (valsR W p) E) s.rule q i < 256 := missK_lt hT r8 q i _
    have hlong := disc h hE hEl ht r8 rl sz gen hi hd
    have hl1 := cf_pos l0
    have hq8 : gm (missF (toldF p (valsR W p) E) s.rule q i) (iv s.miss) < 256 := gm_lt hd8 (iv_lt _)
    -- the new rule
    have hn0 : cf (nextF s (missF (toldF p (valsR W p) E) s.rule q i)) 0 = 1 := by
      unfold nextF
      rw [cf_addl_two, cf_scale hq8 (shl_by l8 _), cf_shl', if_pos (by omega), gm_zero_right, Nat.xor_zero]
      exact r0
    have hnl : (nextF s (missF (toldF p (valsR W p) E) s.rule q i)).length ≤ max (s.size + 1) (i + 2 - s.size) := by
      have h3 := addl_two_le s.rule (pms [[gm (missF (toldF p (valsR W p) E) s.rule q i) (iv s.miss)], shl s.last s.since])
      have h4 := pms_two_le [gm (missF (toldF p (valsR W p) E) s.rule q i) (iv s.miss)] (shl s.last s.since)
      have h5 := shl_le s.last s.since
      simp only [List.length_cons, List.length_nil] at h4
      unfold nextF
      omega
    have hgn : ∀ k, s.size ≤ k → i + 1 - s.size ≤ k → k < i + 1 → missF (toldF p (valsR W p) E) (nextF s (missF (toldF p (valsR W p) E) s.rule q i)) q k = 0 := by
      intro k h1 h2 h3
      rcases old with ⟨o1, o2⟩ | ⟨o1, o2, o3⟩
      · omega
      · unfold nextF
        rw [next_miss hT r8 l8 hq8 s.since q k (by omega)]
        by_cases e : k = i
        · rw [e, o2, gm_div hd8 m8 m0, Nat.xor_self]
        · rw [gen k h1 (by omega), o3 (k - s.since) (by omega) (by omega), gm_zero_right]
          rfl
    by_cases hg : 2 * s.size ≤ i
    · have e : bmStep (toldF p (valsR W p) E) q i s = ⟨nextF s (missF (toldF p (valsR W p) E) s.rule q i), s.rule, missF (toldF p (valsR W p) E) s.rule q i, 1, i + 1 - s.size⟩ := by
        unfold bmStep
        rw [if_neg hd, if_pos hg]
      rw [e] at hok ⊢
      refine ⟨hok, by show (nextF s _).length ≤ i + 1 - s.size + 1; omega, hn0, r0, by show s.rule.length + 1 + (i + 1 - s.size) ≤ _; omega, fun k h1 h2 => ?_, ?_, by show i + 1 - s.size ≤ t; omega⟩
      · have h1' : i + 1 - s.size ≤ k := h1
        exact hgn k (by omega) h1' h2
      · refine .inr ⟨by show 1 ≤ _; omega, ?_, fun k h1 h2 => ?_⟩
        · show missF _ s.rule q (i + 1 - 1) = _
          rw [show i + 1 - 1 = i by omega]
        · have h1' : k + 1 < i + 1 := h1
          have h2' : i + 1 + 1 ≤ k + 1 + (i + 1 - s.size) := h2
          exact gen k (by omega) (by omega)
    · have e : bmStep (toldF p (valsR W p) E) q i s = ⟨nextF s (missF (toldF p (valsR W p) E) s.rule q i), s.last, s.miss, s.since + 1, s.size⟩ := by
        unfold bmStep
        rw [if_neg hd, if_neg hg]
      rw [e] at hok ⊢
      refine ⟨hok, by show (nextF s _).length ≤ s.size + 1; omega, hn0, l0, by show s.last.length + (s.since + 1) + s.size ≤ _; omega, fun k h1 h2 => ?_, ?_, st⟩
      · have h1' : s.size ≤ k := h1
        exact hgn k h1' (by omega) h2
      · rcases old with ⟨o1, o2⟩ | ⟨o1, o2, o3⟩
        · omega
        · refine .inr ⟨by show s.since + 1 ≤ _; omega, ?_, fun k h1 h2 => o3 k ?_ ?_⟩
          · show missF _ s.last q (i + 1 - (s.since + 1)) = _
            rw [show i + 1 - (s.since + 1) = i - s.since by omega]; exact o2
          · have : k + (s.since + 1) < i + 1 := h1
            omega
          · have : i + 1 + 1 ≤ k + (s.since + 1) + s.size := h2
            omega
theorem bm_inv (h : Dec n p W D) {E : List Nat} (hE : By E) {q t : Nat} (hEl : E.length ≤ q + 1) (ht : ocnt (cc W D E n q) n ≤ t) : ∀ i, q + i ≤ p → BInv (toldF p (valsR W p) E) q t i (bm (toldF p (valsR W p) E) q i)
  | 0, _ => ⟨bm_ok (lowl_by (pms_two_by (fun x hx => tab_by _ (fun i _ => ev_lt h.W8 (ex_lt i)) x (List.mem_reverse.1 hx)) hE) p) q 0, by show 1 ≤ 0 + 1; omega, rfl, rfl, by show 1 + 1 + 0 ≤ 0 + 2; omega, fun k _ h => absurd h (by omega), .inl ⟨rfl, rfl⟩, Nat.zero_le _⟩
  | i + 1, hi => bm_inv_step h hE hEl ht (by omega) (bm_inv h hE hEl ht i (by omega))

/-- What is found: it is 0 at the inverse of each place of which something is told, and short. -/
theorem massey_finds (h : Dec n p W D) {E : List Nat} (hE : By E) {q t : Nat} (hEl : E.length ≤ q + 1) (ht : ocnt (cc W D E n q) n ≤ t) (hqt : q + 2 * t ≤ p) :
    (masseyF p (toldF p (valsR W p) E) q).length ≤ t + 1 ∧ cf (masseyF p (toldF p (valsR W p) E) q) 0 = 1 ∧ ∀ j, j < n → cc W D E n q j ≠ 0 → ev (masseyF p (toldF p (valsR W p) E) q) (iv (mrk n j)) = 0 := by
  have hI := bm_inv h hE hEl ht (p - q) (by omega)
  obtain ⟨C, hC⟩ : ∃ C, masseyF p (toldF p (valsR W p) E) q = C := ⟨_, rfl⟩
  have hC2 : (bm (toldF p (valsR W p) E) q (p - q)).rule = C := hC
  obtain ⟨s, hs⟩ : ∃ s, bm (toldF p (valsR W p) E) q (p - q) = s := ⟨_, rfl⟩
  rw [hs] at hI hC2
  have hr8 := hI.ok.r8
  have hrl := hI.rl
  have hst := hI.st
  rw [hC]
  have hgen := hI.gen
  have hr0 := hI.r0
  rw [hC2] at hr8 hrl hgen hr0
  refine ⟨by omega, hr0, ?_⟩
  have hy : ∀ j, gm (cc W D E n q j) (ev C (iv (mrk n j))) < 256 := fun j => gm_lt (cc_lt h hE q j) (ev_lt hr8 (iv_lt _))
  have h0 := vand (n := n) (t := t) (a := s.size) (y := fun j => gm (cc W D E n q j) (ev C (iv (mrk n j)))) h.n255 hy
    (Nat.le_trans (ocnt_le fun j _ hj e => hj (by show gm _ _ = 0; rw [e, gm_zero_left])) ht) fun k hk => by
      have := hgen (s.size + k) (by omega) (by omega)
      rw [miss_sum h hE hEl hr8 (by omega) (by omega)] at this
      rw [← this]
      refine xs_congr _ fun j _ => ?_
      have e1 := cc_lt h hE q j
      have e2 := pw_lt (mrk_lt n j) (s.size + k)
      have e3 := ev_lt hr8 (iv_lt (mrk n j))
      rw [gm_assoc e1 e2 e3, gm_comm e2 e3, ← gm_assoc e1 e3 e2]
  intro j hj hc
  rcases gm_eq_zero (cc_lt h hE q j) (ev_lt hr8 (iv_lt _)) (h0 j hj) with h1 | h1
  · exact absurd h1 hc
  · exact h1
end

end SolMath
