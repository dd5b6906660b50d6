/- Codewords lie far apart: a word with few bytes that aren't 0 is no codeword, unless it is 0; what Parity answers makes a codeword. No program. -/
import Derived.Test.YtpnjmbhplckgmaaPolyMath7
namespace RsMath
open GfMath PolyMath
set_option linter.unusedVariables false

/-- The places where words are 0. -/
def exs (p : Nat) : List Nat := tab p ex
theorem exs_length (p : Nat) : (exs p).length = p := tab_length _ _
theorem exs_by (p : Nat) : By (exs p) := tab_by _ fun n _ => ex_lt n

/-- Is all 0? -/
def allz (l : List Nat) : Bool := decide (zs l = l.length)
theorem allz_iff (l : List Nat) : allz l = true ↔ ∀ j, j < l.length → sq l j = 0 := by
  unfold allz
  rw [decide_eq_true_iff]
  exact ⟨fun h j hj => zs_zero l j (by omega), fun h => zs_all l h⟩
/-- A word's values. -/
def vals (l : List Nat) (p : Nat) : List Nat := tab p fun i => ev l (ex i)
theorem vals_length (l : List Nat) (p : Nat) : (vals l p).length = p := tab_length _ _
/-- The parity of data. -/
def rem (X : List Nat) (p : Nat) : List Nat := dr (shl X p) (rt (exs p))
def parity (X : List Nat) (p : Nat) : List Nat := List.replicate (p - (rem X p).length) 0 ++ rem X p
theorem beh_rt (p : Nat) : (beh (rt (exs p))).length = p + 1 := by
  obtain ⟨h1, h2, h3⟩ := rt_all (exs p) (exs_by p)
  rw [h3.beh, h2, exs_length]
theorem rem_le (X : List Nat) (hX : By X) (p : Nat) : (rem X p).length ≤ p := by
  have h := (div_spec (shl_by hX p) (rt_all (exs p) (exs_by p)).1 (by rw [beh_rt]; omega)).2.2.2.2.1
  rw [beh_rt] at h
  unfold rem
  omega
theorem rem_by (X : List Nat) (hX : By X) (p : Nat) : By (rem X p) := (div_spec (shl_by hX p) (rt_all (exs p) (exs_by p)).1 (by rw [beh_rt]; omega)).2.2.1
theorem parity_length (X : List Nat) (hX : By X) (p : Nat) : (parity X p).length = p := by
  have := rem_le X hX p
  rw [parity, List.length_append, List.length_replicate]
  omega
theorem parity_by (X : List Nat) (hX : By X) (p : Nat) : By (parity X p) := by
  intro x hx
  rcases List.mem_append.1 hx with h | h
  · rw [(List.mem_replicate.1 h).2]; omega
  · exact rem_by X hX p x h

/-- Data and its parity. -/
def code (X : List Nat) (p : Nat) : List Nat := X ++ parity X p
theorem code_length (X : List Nat) (hX : By X) (p : Nat) : (code X p).length = X.length + p := by rw [code, List.length_append, parity_length X hX]
theorem code_by (X : List Nat) (hX : By X) (p : Nat) : By (code X p) := by
  intro x hx
  rcases List.mem_append.1 hx with h | h
  · exact hX x h
  · exact parity_by X hX p x h
theorem xs_swap (f : Nat → Nat → Nat) (n : Nat) : ∀ m, xs (fun i => xs (f i) n) m = xs (fun j => xs (fun i => f i j) m) n
  | 0 => by rw [show xs (fun i => xs (f i) n) 0 = 0 from rfl]; exact (xs_zero n fun _ _ => rfl).symm
  | m + 1 => by
    show xs (fun i => xs (f i) n) m ^^^ xs (f m) n = _
    rw [xs_swap f n m, ← xs_xor]
    rfl

/-- The value at the i-th power of 2, place by place: place j stands for the power (n - 1 - j). -/
theorem ev_places {l : List Nat} (hl : By l) (i : Nat) : ev l (ex i) = xs (fun j => gm (sq l j) (ex (i * (l.length - 1 - j)))) l.length := by
  rw [ev_E (ex_lt i) hl, E, xs_rev]
  refine xs_congr _ fun j hj => ?_
  rw [cf_in l _ (by omega), pw_ex, show l.length - 1 - (l.length - 1 - j) = j by omega]

/-- The places that aren't 0. -/
def supp (l : List Nat) : List Nat := (List.range l.length).filter fun j => sq l j ≠ 0
theorem supp_mem (l : List Nat) (j : Nat) : j ∈ supp l ↔ j < l.length ∧ sq l j ≠ 0 := by simp [supp]
theorem supp_nodup (l : List Nat) : (supp l).Nodup := List.Pairwise.filter _ List.nodup_range
def loc (l : List Nat) (j : Nat) : Nat := ex (l.length - 1 - j)

/-- A word of at most 255 bytes, of which at most p aren't 0, that is 0 at the first p powers, is 0. -/
theorem far_zero {l : List Nat} {p : Nat} (hl : By l) (hn : l.length ≤ 255) (hs : (supp l).length ≤ p) (h0 : ∀ i, i < p → ev l (ex i) = 0) : supp l = [] := by
  match hq : supp l with
  | [] => rfl
  | j0 :: r =>
    exfalso
    have hj0 : j0 < l.length ∧ sq l j0 ≠ 0 := (supp_mem l j0).1 (by rw [hq]; simp)
    have hnd := supp_nodup l
    rw [hq, List.nodup_cons] at hnd
    have hr : ∀ j ∈ r, j < l.length ∧ sq l j ≠ 0 := fun j hj => (supp_mem l j).1 (by rw [hq]; simp [hj])
    obtain ⟨L, hL⟩ : ∃ L, L = rt (r.map (loc l)) := ⟨_, rfl⟩
    have hby : By (r.map (loc l)) := by intro x hx; obtain ⟨j, _, rfl⟩ := List.mem_map.1 hx; exact ex_lt _
    obtain ⟨hL8, hLl, _⟩ := rt_all _ hby
    rw [← hL] at hL8 hLl
    rw [List.length_map] at hLl
    have hLp : L.length ≤ p := by rw [hLl]; rw [hq] at hs; simpa using hs
    -- the sum over i of L's factors times the values
    have hsum : xs (fun i => gm (cf L i) (ev l (ex i))) L.length = 0 := xs_zero _ fun i hi => by rw [h0 i (by omega), gm_zero_right]
    have hsum2 : xs (fun i => gm (cf L i) (ev l (ex i))) L.length = xs (fun j => gm (sq l j) (ev L (loc l j))) l.length := by
      rw [show (fun i => gm (cf L i) (ev l (ex i))) = fun i => xs (fun j => gm (cf L i) (gm (sq l j) (ex (i * (l.length - 1 - j))))) l.length from funext fun i => by rw [ev_places hl, xs_gm], xs_swap]
      refine xs_congr _ fun j hj => ?_
      have hlx : loc l j < 256 := ex_lt _
      rw [ev_E hlx hL8, E, xs_gm]
      refine xs_congr _ fun i hi => ?_
      have e : pw (loc l j) i = ex (i * (l.length - 1 - j)) := by rw [loc, pw_ex, Nat.mul_comm]
      rw [e, ← gm_assoc (hL8.cf i) (hl.sq j) (ex_lt _), gm_comm (hL8.cf i) (hl.sq j), gm_assoc (hl.sq j) (hL8.cf i) (ex_lt _)]
    rw [hsum2] at hsum
    -- of the sum over places only j0 is left
    have hone : xs (fun j => gm (sq l j) (ev L (loc l j))) l.length = gm (sq l j0) (ev L (loc l j0)) := by
      rw [show l.length = j0 + (1 + (l.length - j0 - 1)) by omega, xs_split]
      have hz : ∀ j, j < l.length → j ≠ j0 → gm (sq l j) (ev L (loc l j)) = 0 := fun j hj hne => by
        by_cases h : sq l j = 0
        · rw [h, gm_zero_left]
        · have hm : j ∈ r := by
            have := (supp_mem l j).2 ⟨hj, h⟩
            rw [hq] at this
            rcases List.mem_cons.1 this with e | e
            · exact absurd e hne
            · exact e
          have hm2 : loc l j ∈ r.map (loc l) := List.mem_map.2 ⟨j, hm, rfl⟩
          have hct : 0 < ct (r.map (loc l)) (loc l j) := ct_pos _ _ hm2
          have hlx : loc l j < 256 := ex_lt _
          rw [hL, (rt_roots _ hby hlx).1.2 hct, gm_zero_right]
      rw [xs_zero j0 fun j hj => hz j (by omega) (by omega), Nat.zero_xor, xs_split]
      rw [xs_zero (l.length - j0 - 1) fun j hj => hz (j0 + (1 + j)) (by omega) (by omega), Nat.xor_zero]
      show 0 ^^^ _ = _
      rw [Nat.zero_xor]
      rfl
    rw [hone] at hsum
    rcases gm_eq_zero (hl.sq j0) (ev_lt hL8 (ex_lt _)) hsum with h | h
    · exact hj0.2 h
    · rw [hL] at h
      have hct := (rt_roots _ hby (ex_lt _)).1.1 h
      obtain ⟨j, hj, e⟩ := List.mem_map.1 (ct_mem _ _ hct)
      have h1 := (hr j hj).1
      have h2 := ex_inj (by omega) (by omega) e
      have h3 : j = j0 := by omega
      exact hnd.1 (h3 ▸ hj)

theorem ev_append {l : List Nat} {x : Nat} (hl : By l) (hx : x < 256) (m : List Nat) (hm : By m) : ev (l ++ m) x = gm (ev l x) (pw x m.length) ^^^ ev m x := by
  revert hm
  refine snocs (P := fun m => By m → ev (l ++ m) x = gm (ev l x) (pw x m.length) ^^^ ev m x) (fun _ => ?_) (fun m a ih h => ?_) m
  · rw [List.append_nil]
    show _ = gm (ev l x) 1 ^^^ 0
    rw [gm_one (ev_lt hl hx), Nat.xor_zero]
  · have hm : By m := fun y hy => h y (by simp [hy])
    rw [← List.append_assoc, ev_snoc, ih hm, ev_snoc, List.length_append, List.length_singleton, gm_add_left, gm_assoc (ev_lt hl hx) (pw_lt hx _) hx, Nat.xor_assoc]
    rfl
theorem ev_front (n : Nat) {l : List Nat} {x : Nat} (hl : By l) (hx : x < 256) : ev (List.replicate n 0 ++ l) x = ev l x := by
  have h0 : By (List.replicate n 0) := fun y hy => by rw [(List.mem_replicate.1 hy).2]; omega
  have h1 : ev (List.replicate n 0) x = 0 := by
    have := ev_zeros (l := []) by_nil hx n
    rw [List.nil_append] at this
    rw [this]
    exact gm_zero_left _
  rw [ev_append h0 hx l hl, h1, gm_zero_left, Nat.zero_xor]
theorem ev_gen {p i : Nat} (hi : i < p) : ev (rt (exs p)) (ex i) = 0 := by
  refine (rt_roots _ (exs_by p) (ex_lt i)).1.2 (ct_pos _ _ ?_)
  exact List.mem_map.2 ⟨i, List.mem_range.2 hi, rfl⟩
/-- Data and its parity are 0 at the first p powers. -/
theorem code_zero {X : List Nat} (hX : By X) {p i : Nat} (hi : i < p) : ev (code X p) (ex i) = 0 := by
  have hG := (rt_all (exs p) (exs_by p)).1
  obtain ⟨hq, _, hr, _, _, _, hc⟩ := div_spec (shl_by hX p) hG (by rw [beh_rt]; omega)
  have hx := ex_lt i
  have h1 : ev (shl X p) (ex i) = ev (rem X p) (ex i) := by
    have hpm : By (pm (dq (shl X p) (rt (exs p))) (rt (exs p))) := pm_by hq hG
    rw [ev_cf hx (shl_by hX p) (ad_by hpm hr) (fun k => by rw [hc k, ad_cf, cf_pm]), ad, ev_addl2 hpm hr hx, ev_pm hq hG hx, ev_gen hi, gm_zero_right, Nat.zero_xor]
    rfl
  rw [ev_shl hX hx] at h1
  rw [code, ev_append hX hx _ (parity_by X hX p), parity_length X hX, h1, parity, ev_front _ (rem_by X hX p) hx, Nat.xor_self]
theorem code_right {X : List Nat} (hX : By X) (p : Nat) : allz (vals (code X p) p) = true := by
  rw [allz_iff]
  intro j hj
  rw [vals_length] at hj
  rw [vals, sq_tab, if_pos hj]
  exact code_zero hX hj
theorem allz_zero {l : List Nat} {p : Nat} : allz (vals l p) = true ↔ ∀ i, i < p → ev l (ex i) = 0 := by
  rw [allz_iff, vals_length]
  constructor
  · intro h i hi
    have := h i hi
    rwa [vals, sq_tab, if_pos hi] at this
  · intro h i hi
    rw [vals, sq_tab, if_pos hi]
    exact h i hi
/-- Two words of one length, place by place. -/
def xl (a b : List Nat) : List Nat := tab a.length fun j => sq a j ^^^ sq b j
theorem xl_length (a b : List Nat) : (xl a b).length = a.length := tab_length _ _
theorem xl_by {a b : List Nat} (ha : By a) (hb : By b) : By (xl a b) := tab_by _ fun n _ => xor_lt (ha.sq n) (hb.sq n)
theorem ev_xl {a b : List Nat} (ha : By a) (hb : By b) (hl : a.length = b.length) (i : Nat) : ev (xl a b) (ex i) = ev a (ex i) ^^^ ev b (ex i) := by
  rw [ev_places (xl_by ha hb), ev_places ha, ev_places hb, xl_length, ← hl, ← xs_xor]
  refine xs_congr _ fun j hj => ?_
  rw [xl, sq_tab, if_pos hj, gm_add_left]
theorem supp_nil {l : List Nat} (h : supp l = []) (j : Nat) : sq l j = 0 := by
  by_cases hj : j < l.length
  · by_cases h0 : sq l j = 0
    · exact h0
    · have := (supp_mem l j).2 ⟨hj, h0⟩
      rw [h] at this
      cases this
  · exact sq_out l j (by omega)
/-- Two codewords that differ in at most p places are one. -/
theorem far_two {a b : List Nat} {p : Nat} (ha : By a) (hb : By b) (hl : a.length = b.length) (hn : a.length ≤ 255) (hs : (supp (xl a b)).length ≤ p) (h0 : ∀ i, i < p → ev a (ex i) = 0) (h1 : ∀ i, i < p → ev b (ex i) = 0) : a = b := by
  have h := far_zero (xl_by ha hb) (by rw [xl_length]; exact hn) hs fun i hi => by rw [ev_xl ha hb hl, h0 i hi, h1 i hi]; rfl
  refine list_eq hl fun n hn => ?_
  have := supp_nil h n
  rw [xl, sq_tab, if_pos hn] at this
  by_cases e : sq a n = sq b n
  · exact e
  · exact absurd this (xor_ne e)

end RsMath
