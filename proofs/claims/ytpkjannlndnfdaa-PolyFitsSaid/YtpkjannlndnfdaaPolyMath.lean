/- Polynomials over the field, as lists of numbers, the highest power first, and as functions of the power. No program. -/
import Derived.Test.YtpkjannlndnfdaaGfMath
namespace PolyMath
open GfMath
set_option linter.unusedVariables false

/-! Sums. -/
def xs (f : Nat → Nat) : Nat → Nat
  | 0 => 0
  | n + 1 => xs f n ^^^ f n
theorem xs_congr {f g : Nat → Nat} : ∀ n, (∀ i, i < n → f i = g i) → xs f n = xs g n
  | 0, _ => rfl
  | n + 1, h => by rw [xs, xs, xs_congr n fun i hi => h i (by omega), h n (by omega)]
theorem xs_lt {f : Nat → Nat} : ∀ n, (∀ i, i < n → f i < 256) → xs f n < 256
  | 0, _ => show 0 < 256 by omega
  | n + 1, h => xor_lt (xs_lt n fun i hi => h i (by omega)) (h n (by omega))
theorem xs_zero {f : Nat → Nat} : ∀ n, (∀ i, i < n → f i = 0) → xs f n = 0
  | 0, _ => rfl
  | n + 1, h => by rw [xs, xs_zero n fun i hi => h i (by omega), h n (by omega)]; rfl
theorem xs_xor (f g : Nat → Nat) : ∀ n, xs (fun i => f i ^^^ g i) n = xs f n ^^^ xs g n
  | 0 => (Nat.xor_self 0).symm
  | n + 1 => by rw [xs, xs, xs, xs_xor f g n, xor_swap]
theorem xs_front (f : Nat → Nat) : ∀ n, xs f (n + 1) = f 0 ^^^ xs (fun i => f (i + 1)) n
  | 0 => by simp [xs]
  | n + 1 => by rw [xs, xs_front f n, xs, Nat.xor_assoc]
theorem xs_rev (f : Nat → Nat) : ∀ n, xs f n = xs (fun i => f (n - 1 - i)) n
  | 0 => rfl
  | n + 1 => by
    rw [xs_front (fun i => f (n + 1 - 1 - i)) n, xs, xs_rev f n, Nat.xor_comm]
    congr 1
    exact xs_congr n fun i hi => by congr 1; omega
theorem xs_gm (c : Nat) (f : Nat → Nat) : ∀ n, gm c (xs f n) = xs (fun i => gm c (f i)) n
  | 0 => gm_zero_right c
  | n + 1 => by rw [xs, xs, gm_add_right, xs_gm c f n]
theorem xs_gm_right (c : Nat) (f : Nat → Nat) : ∀ n, gm (xs f n) c = xs (fun i => gm (f i) c) n
  | 0 => gm_zero_left c
  | n + 1 => by rw [xs, xs, gm_add_left, xs_gm_right c f n]
theorem xs_split (f : Nat → Nat) (a : Nat) : ∀ b, xs f (a + b) = xs f a ^^^ xs (fun i => f (a + i)) b
  | 0 => by simp [xs]
  | b + 1 => by rw [show a + (b + 1) = (a + b) + 1 by omega, xs, xs, xs_split f a b, Nat.xor_assoc]
theorem xs_ext (f : Nat → Nat) {n m : Nat} (h : n ≤ m) (h0 : ∀ i, n ≤ i → i < m → f i = 0) : xs f m = xs f n := by
  obtain ⟨d, rfl⟩ : ∃ d, m = n + d := ⟨m - n, by omega⟩
  rw [xs_split, xs_zero (f := fun i => f (n + i)) d fun i hi => h0 _ (by omega) (by omega), Nat.xor_zero]

/-! Sequences and lists. -/
def sq (l : List Nat) (n : Nat) : Nat := l.getD n 0
theorem sq_get (l : List Nat) (n : Nat) (h : n < l.length) : sq l n = l[n] := by simp [sq, List.getD_eq_getElem?_getD, h]
theorem sq_out (l : List Nat) (n : Nat) (h : l.length ≤ n) : sq l n = 0 := by simp [sq, List.getD_eq_getElem?_getD, List.getElem?_eq_none h]
theorem sq_some (l : List Nat) (n : Nat) (h : n < l.length) : l[n]? = some (sq l n) := by rw [sq_get l n h, List.getElem?_eq_getElem h]
def By (l : List Nat) : Prop := ∀ x ∈ l, x < 256
theorem By.sq {l : List Nat} (h : By l) (n : Nat) : sq l n < 256 := by
  by_cases hn : n < l.length
  · rw [sq_get l n hn]; exact h _ (List.getElem_mem hn)
  · rw [sq_out l n (by omega)]; omega
theorem list_eq {l m : List Nat} (h : l.length = m.length) (h2 : ∀ n, n < l.length → sq l n = sq m n) : l = m := by
  apply List.ext_getElem h
  intro n h3 h4
  rw [← sq_get l n h3, ← sq_get m n h4, h2 n h3]
def tab (N : Nat) (f : Nat → Nat) : List Nat := (List.range N).map f
theorem tab_length (N : Nat) (f : Nat → Nat) : (tab N f).length = N := by simp [tab]
theorem sq_tab (N : Nat) (f : Nat → Nat) (n : Nat) : sq (tab N f) n = if n < N then f n else 0 := by
  by_cases h : n < N
  · rw [sq_get _ _ (by rw [tab_length]; exact h), if_pos h]; simp [tab]
  · rw [sq_out _ _ (by rw [tab_length]; omega), if_neg h]
theorem tab_get (N : Nat) (f : Nat → Nat) (n : Nat) (h : n < N) : (tab N f)[n]? = some (f n) := by
  rw [sq_some _ _ (by rw [tab_length]; exact h), sq_tab, if_pos h]
theorem tab_congr (N : Nat) {f g : Nat → Nat} (h : ∀ n, n < N → f n = g n) : tab N f = tab N g :=
  list_eq (by rw [tab_length, tab_length]) fun n hn => by
    rw [tab_length] at hn
    rw [sq_tab, sq_tab, if_pos hn, if_pos hn, h n hn]
theorem tab_set (N : Nat) (f : Nat → Nat) (n v : Nat) : (tab N f).set n v = tab N (fun m => if m = n then v else f m) := by
  refine list_eq (by rw [List.length_set, tab_length, tab_length]) fun m hm => ?_
  rw [List.length_set, tab_length] at hm
  rw [sq_tab, if_pos hm, sq_get _ _ (by rw [List.length_set, tab_length]; exact hm), List.getElem_set]
  by_cases e : n = m
  · rw [if_pos e, if_pos e.symm]
  · rw [if_neg e, if_neg (fun h => e h.symm), ← sq_get _ _ (by rw [tab_length]; exact hm), sq_tab, if_pos hm]
theorem tab_zero (N : Nat) : List.replicate N 0 = tab N (fun _ => 0) :=
  list_eq (by rw [List.length_replicate, tab_length]) fun n hn => by
    rw [List.length_replicate] at hn
    rw [sq_tab, if_pos hn, sq_get _ _ (by rw [List.length_replicate]; exact hn), List.getElem_replicate]
theorem tab_self (l : List Nat) : tab l.length (sq l) = l :=
  list_eq (tab_length _ _) fun n hn => by rw [tab_length] at hn; rw [sq_tab, if_pos hn]
theorem tab_by (N : Nat) {f : Nat → Nat} (h : ∀ n, n < N → f n < 256) : By (tab N f) := by
  intro x hx
  simp only [tab, List.mem_map, List.mem_range] at hx
  obtain ⟨n, hn, rfl⟩ := hx
  exact h n hn

/-! Noughts ahead. -/
def zs : List Nat → Nat
  | [] => 0
  | a :: l => if a = 0 then zs l + 1 else 0
def beh (l : List Nat) : List Nat := l.drop (zs l)
theorem zs_le : ∀ l, zs l ≤ l.length
  | [] => Nat.le_refl _
  | a :: l => by
    rw [zs]
    split
    · have := zs_le l; simp; omega
    · simp
theorem zs_zero : ∀ (l : List Nat) (j : Nat), j < zs l → sq l j = 0
  | [], j, h => by simp [zs] at h
  | a :: l, j, h => by
    rw [zs] at h
    split at h
    · match j with
      | 0 => simpa [sq] using ‹a = 0›
      | j + 1 => have := zs_zero l j (by omega); simpa [sq] using this
    · omega
theorem zs_ne : ∀ (l : List Nat), zs l < l.length → sq l (zs l) ≠ 0
  | [], h => by simp at h
  | a :: l, h => by
    rw [zs] at h ⊢
    split
    · rw [if_pos ‹_›] at h
      have := zs_ne l (by simp at h; omega)
      simpa [sq] using this
    · simpa [sq] using ‹¬ a = 0›
theorem zs_eq (l : List Nat) (k : Nat) (h0 : ∀ j, j < k → sq l j = 0) (h1 : sq l k ≠ 0) : zs l = k := by
  have hk : k < l.length := Classical.byContradiction fun h => h1 (sq_out l k (by omega))
  by_cases hlt : zs l < k
  · exact absurd (h0 _ hlt) (zs_ne l (by omega))
  · by_cases hgt : k < zs l
    · exact absurd (zs_zero l k hgt) h1
    · omega
theorem zs_all (l : List Nat) (h0 : ∀ j, j < l.length → sq l j = 0) : zs l = l.length := by
  have := zs_le l
  by_cases hlt : zs l < l.length
  · exact absurd (h0 _ hlt) (zs_ne l hlt)
  · omega
theorem beh_length (l : List Nat) : (beh l).length = l.length - zs l := by rw [beh, List.length_drop]
theorem beh_sq (l : List Nat) (n : Nat) : sq (beh l) n = sq l (zs l + n) := by
  rw [beh, sq, sq, List.getD_eq_getElem?_getD, List.getD_eq_getElem?_getD, List.getElem?_drop]
theorem By.beh {l : List Nat} (h : By l) : By (beh l) := fun x hx => h x (List.mem_of_mem_drop hx)
/-- No noughts ahead. -/
def Can (l : List Nat) : Prop := 0 < l.length → sq l 0 ≠ 0
theorem beh_can (l : List Nat) : Can (beh l) := by
  intro h
  rw [beh_length] at h
  rw [beh_sq]
  exact zs_ne l (by omega)
theorem Can.zs {l : List Nat} (h : Can l) : zs l = 0 := by
  by_cases h0 : 0 < l.length
  · exact zs_eq l 0 (fun j hj => absurd hj (by omega)) (h h0)
  · have := zs_le l; omega
theorem Can.beh {l : List Nat} (h : Can l) : PolyMath.beh l = l := by rw [PolyMath.beh, h.zs]; rfl

/-! Factors by their powers. -/
def cf (l : List Nat) (k : Nat) : Nat := if k < l.length then sq l (l.length - 1 - k) else 0
theorem cf_out (l : List Nat) (k : Nat) (h : l.length ≤ k) : cf l k = 0 := if_neg (by omega)
theorem cf_in (l : List Nat) (k : Nat) (h : k < l.length) : cf l k = sq l (l.length - 1 - k) := if_pos h
theorem By.cf {l : List Nat} (h : By l) (k : Nat) : cf l k < 256 := by unfold PolyMath.cf; split; exact h.sq _; omega
theorem cf_beh (l : List Nat) (k : Nat) : cf (beh l) k = cf l k := by
  have hz := zs_le l
  by_cases h : k < l.length - zs l
  · rw [cf_in _ _ (by rw [beh_length]; exact h), cf_in _ _ (by omega), beh_sq, beh_length]
    congr 1; omega
  · rw [cf_out _ _ (by rw [beh_length]; omega)]
    by_cases h2 : k < l.length
    · rw [cf_in _ _ h2, zs_zero l _ (by omega)]
    · rw [cf_out _ _ (by omega)]
theorem can_eq {l m : List Nat} (hl : Can l) (hm : Can m) (h : ∀ k, cf l k = cf m k) : l = m := by
  have hlen : l.length = m.length := by
    have key : ∀ {l m : List Nat}, Can l → (∀ k, cf l k = cf m k) → l.length ≤ m.length := by
      intro l m hl h
      by_cases h0 : l.length ≤ m.length
      · exact h0
      · have h1 := h (l.length - 1)
        rw [cf_in _ _ (by omega), cf_out m _ (by omega), show l.length - 1 - (l.length - 1) = 0 by omega] at h1
        exact absurd h1 (hl (by omega))
    have a := key hl h
    have b := key hm fun k => (h k).symm
    omega
  refine list_eq hlen fun n hn => ?_
  have h1 := h (l.length - 1 - n)
  rw [cf_in _ _ (by omega), cf_in _ _ (by omega), show l.length - 1 - (l.length - 1 - n) = n by omega, show m.length - 1 - (l.length - 1 - n) = n by omega] at h1
  exact h1
theorem beh_eq {l m : List Nat} (h : ∀ k, cf l k = cf m k) : beh l = beh m :=
  can_eq (beh_can l) (beh_can m) fun k => by rw [cf_beh, cf_beh, h k]
/-- The list of N bytes with these factors. -/
def hi (N : Nat) (F : Nat → Nat) : List Nat := tab N (fun n => F (N - 1 - n))
theorem hi_length (N : Nat) (F : Nat → Nat) : (hi N F).length = N := tab_length _ _
theorem cf_hi (N : Nat) (F : Nat → Nat) (k : Nat) : cf (hi N F) k = if k < N then F k else 0 := by
  by_cases h : k < N
  · rw [cf_in _ _ (by rw [hi_length]; exact h), if_pos h, hi_length, hi, sq_tab, if_pos (by omega)]
    congr 1; omega
  · rw [cf_out _ _ (by rw [hi_length]; omega), if_neg h]
theorem cf_snoc (l : List Nat) (b k : Nat) : cf (l ++ [b]) k = if k = 0 then b else cf l (k - 1) := by
  by_cases h : k < l.length + 1
  · rw [cf_in _ _ (by simpa using h), sq_get _ _ (by simp; omega)]
    by_cases h0 : k = 0
    · subst h0; simp
    · rw [if_neg h0, List.getElem_append_left (by simp; omega), cf_in _ _ (by omega), sq_get _ _ (by omega)]
      congr 1; simp; omega
  · rw [cf_out _ _ (by simp; omega), if_neg (by omega), cf_out _ _ (by omega)]

/-! Values. -/
def ev (l : List Nat) (x : Nat) : Nat := l.foldl (fun v b => gm v x ^^^ b) 0
theorem ev_snoc (l : List Nat) (b x : Nat) : ev (l ++ [b]) x = gm (ev l x) x ^^^ b := by simp [ev]
theorem snocs {P : List Nat → Prop} (h0 : P []) (h1 : ∀ l a, P l → P (l ++ [a])) (l : List Nat) : P l := by
  have h : ∀ r : List Nat, P r.reverse := fun r => by
    induction r with
    | nil => exact h0
    | cons a r ih => rw [List.reverse_cons]; exact h1 _ _ ih
  simpa using h l.reverse
theorem ev_lt {l : List Nat} {x : Nat} (hl : By l) (hx : x < 256) : ev l x < 256 := by
  revert hl
  refine snocs (P := fun l => By l → ev l x < 256) (fun _ => show 0 < 256 by omega) (fun l a ih h => ?_) l
  rw [ev_snoc]
  exact xor_lt (gm_lt (ih fun y hy => h y (by simp [hy])) hx) (h a (by simp))
def E (f : Nat → Nat) (N x : Nat) : Nat := xs (fun k => gm (f k) (pw x k)) N
theorem E_ext (f : Nat → Nat) {N M x : Nat} (h : N ≤ M) (h0 : ∀ k, N ≤ k → f k = 0) : E f M x = E f N x :=
  xs_ext _ h fun i hi _ => by rw [h0 i hi, gm_zero_left]
theorem E_congr {f g : Nat → Nat} {N x : Nat} (h : ∀ k, k < N → f k = g k) : E f N x = E g N x := xs_congr N fun i hi => by rw [h i hi]
theorem pw_comm {x : Nat} (hx : x < 256) : ∀ n, gm x (pw x n) = pw x (n + 1) := fun n => by rw [pw, gm_comm hx (pw_lt hx n)]
theorem pw_add {x : Nat} (hx : x < 256) (a : Nat) : ∀ b, pw x (a + b) = gm (pw x a) (pw x b)
  | 0 => by rw [pw, gm_one (pw_lt hx _)]; rfl
  | b + 1 => by rw [show a + (b + 1) = (a + b) + 1 by omega, pw, pw_add hx a b, pw, gm_assoc (pw_lt hx _) (pw_lt hx _) hx]
theorem ev_E {x : Nat} (hx : x < 256) : ∀ {l : List Nat}, By l → ev l x = E (cf l) l.length x := by
  intro l
  refine snocs (P := fun l => By l → ev l x = E (cf l) l.length x) (fun _ => rfl) (fun l a ih h => ?_) l
  have hl : By l := fun y hy => h y (by simp [hy])
  have ha := h a (by simp)
  rw [ev_snoc, List.length_append, List.length_singleton, E, xs_front, cf_snoc, if_pos rfl, pw, gm_one ha, Nat.xor_comm, ih hl, E, xs_gm_right]
  congr 1
  refine xs_congr _ fun i hi => ?_
  rw [cf_snoc, if_neg (by omega), show i + 1 - 1 = i by omega, gm_assoc (hl.cf _) (pw_lt hx _) hx]
  rfl
theorem ev_E_le {x : Nat} (hx : x < 256) {l : List Nat} (hl : By l) {N : Nat} (h : l.length ≤ N) : ev l x = E (cf l) N x := by
  rw [E_ext (cf l) h fun k hk => cf_out l k hk, ev_E hx hl]
theorem ev_cf {x : Nat} (hx : x < 256) {l m : List Nat} (hl : By l) (hm : By m) (h : ∀ k, cf l k = cf m k) : ev l x = ev m x := by
  rw [ev_E_le hx hl (Nat.le_max_left l.length m.length), ev_E_le hx hm (Nat.le_max_right l.length m.length)]
  exact E_congr fun k _ => h k
theorem ev_beh {x : Nat} (hx : x < 256) {l : List Nat} (hl : By l) : ev (beh l) x = ev l x := ev_cf hx hl.beh hl (cf_beh l)

/-! Products. -/
def cv (f g : Nat → Nat) (n : Nat) : Nat := xs (fun i => gm (f i) (g (n - i))) (n + 1)
def cvk (f g : Nat → Nat) (i n : Nat) : Nat := xs (fun j => if j ≤ n then gm (f j) (g (n - j)) else 0) i
theorem cvk_succ (f g : Nat → Nat) (i n : Nat) : cvk f g (i + 1) n = cvk f g i n ^^^ if i ≤ n then gm (f i) (g (n - i)) else 0 := rfl
theorem cvk_full (f g : Nat → Nat) (N n : Nat) (h : ∀ i, N ≤ i → f i = 0) : cvk f g N n = cv f g n := by
  have e : cv f g n = xs (fun j => if j ≤ n then gm (f j) (g (n - j)) else 0) (n + 1) := xs_congr _ fun i hi => by rw [if_pos (by omega)]
  rw [e, cvk]
  by_cases hN : N ≤ n + 1
  · refine (xs_ext _ hN fun i hi _ => ?_).symm
    rw [h i hi]; split
    · exact gm_zero_left _
    · rfl
  · exact xs_ext _ (by omega) fun i hi _ => if_neg (by omega)
theorem cv_lt {f g : Nat → Nat} (hf : ∀ i, f i < 256) (hg : ∀ i, g i < 256) (n : Nat) : cv f g n < 256 := xs_lt _ fun i _ => gm_lt (hf i) (hg _)
theorem cvk_lt {f g : Nat → Nat} (hf : ∀ i, f i < 256) (hg : ∀ i, g i < 256) (i n : Nat) : cvk f g i n < 256 := xs_lt _ fun i _ => by split; exact gm_lt (hf _) (hg _); omega
theorem cv_comm {f g : Nat → Nat} (hf : ∀ i, f i < 256) (hg : ∀ i, g i < 256) (n : Nat) : cv f g n = cv g f n := by
  rw [cv, xs_rev, cv]
  refine xs_congr _ fun i hi => ?_
  rw [show n + 1 - 1 - i = n - i by omega, show n - (n - i) = i by omega, gm_comm (hf _) (hg _)]
/-- Taken from the highest power on it is the same. -/
theorem cvk_rev (a b : List Nat) (ha : 0 < a.length) (hb : 0 < b.length) (k : Nat) (hk : k < a.length + b.length - 1) :
    cvk (sq a) (sq b) a.length (a.length + b.length - 1 - 1 - k) = cv (cf a) (cf b) k := by
  rw [← cvk_full (cf a) (cf b) a.length k fun i hi => cf_out a i hi, cvk, xs_rev, cvk]
  refine xs_congr _ fun i hi => ?_
  by_cases h1 : i ≤ k
  · rw [if_pos h1, cf_in a i hi]
    by_cases h2 : k - i < b.length
    · rw [if_pos (by omega), cf_in b _ h2]
      congr 2; omega
    · rw [if_neg (by omega), cf_out b _ (by omega), gm_zero_right]
  · rw [if_neg h1]
    split
    · rw [sq_out b _ (by omega), gm_zero_right]
    · rfl
theorem cv_out {f g : Nat → Nat} {N M n : Nat} (hf : ∀ i, N ≤ i → f i = 0) (hg : ∀ i, M ≤ i → g i = 0) (h : N + M ≤ n + 1) : cv f g n = 0 := by
  refine xs_zero _ fun i hi => ?_
  by_cases h1 : N ≤ i
  · rw [hf i h1, gm_zero_left]
  · rw [hg _ (by omega), gm_zero_right]
theorem E_cv {f g : Nat → Nat} {N M x : Nat} (hf8 : ∀ i, f i < 256) (hg8 : ∀ i, g i < 256) (hx : x < 256) (hf : ∀ i, N ≤ i → f i = 0) (hg : ∀ i, M ≤ i → g i = 0) :
    E (cv f g) (N + M) x = gm (E f N x) (E g M x) := by
  have key : ∀ n L, n + M ≤ L → E (cvk f g n) L x = gm (E f n x) (E g M x) := by
    intro n
    induction n with
    | zero => intro L _; rw [E, xs_zero _ fun i _ => by rw [show cvk f g 0 i = 0 from rfl, gm_zero_left]]; exact (gm_zero_left _).symm
    | succ n ih =>
      intro L hL
      have e1 : E (cvk f g (n + 1)) L x = E (cvk f g n) L x ^^^ xs (fun k => gm (if n ≤ k then gm (f n) (g (k - n)) else 0) (pw x k)) L := by
        rw [E, E, ← xs_xor]
        exact xs_congr _ fun i _ => by rw [cvk_succ, gm_add_left]
      rw [e1, ih L (by omega)]
      have e2 : E f (n + 1) x = E f n x ^^^ gm (f n) (pw x n) := rfl
      rw [e2, gm_add_left]
      congr 1
      obtain ⟨d, rfl⟩ : ∃ d, L = n + d := ⟨L - n, by omega⟩
      rw [xs_split, xs_zero _ fun i hi => by rw [if_neg (by omega), gm_zero_left], Nat.zero_xor, ← E_ext g (M := d) (by omega) hg, E, xs_gm]
      refine xs_congr _ fun i _ => ?_
      rw [if_pos (by omega), show n + i - n = i by omega, pw_add hx n i, gm_assoc (hf8 n) (hg8 i) (gm_lt (pw_lt hx n) (pw_lt hx i)), gm_assoc (hf8 n) (pw_lt hx n) (gm_lt (hg8 i) (pw_lt hx i)),
        ← gm_assoc (hg8 i) (pw_lt hx n) (pw_lt hx i), gm_comm (hg8 i) (pw_lt hx n), gm_assoc (pw_lt hx n) (hg8 i) (pw_lt hx i)]
  rw [← key N (N + M) (Nat.le_refl _)]
  exact E_congr fun k _ => (cvk_full f g N k hf).symm

/-- What 'times' answers. -/
def pm (a b : List Nat) : List Nat := if a.length = 0 ∨ b.length = 0 then [] else tab (a.length + b.length - 1) (cvk (sq a) (sq b) a.length)
theorem pm_cf (a b : List Nat) (k : Nat) : cf (pm a b) k = cv (cf a) (cf b) k := by
  unfold pm
  split
  · rename_i h
    rw [cf_out _ _ (by simp)]
    refine (xs_zero _ fun i _ => ?_).symm
    rcases h with h | h
    · rw [cf_out a i (by omega), gm_zero_left]
    · rw [cf_out b _ (by omega), gm_zero_right]
  · rename_i h
    by_cases hk : k < a.length + b.length - 1
    · rw [cf_in _ _ (by rw [tab_length]; exact hk), tab_length, sq_tab, if_pos (by omega)]
      exact cvk_rev a b (by omega) (by omega) k hk
    · rw [cf_out _ _ (by rw [tab_length]; omega)]
      exact (cv_out (N := a.length) (M := b.length) (fun i hi => cf_out a i hi) (fun i hi => cf_out b i hi) (by omega)).symm
theorem pm_by {a b : List Nat} (ha : By a) (hb : By b) : By (pm a b) := by
  unfold pm
  split
  · intro x hx; cases hx
  · exact tab_by _ fun n _ => cvk_lt (fun i => ha.sq i) (fun i => hb.sq i) _ _
theorem pm_length (a b : List Nat) (ha : 0 < a.length) (hb : 0 < b.length) : (pm a b).length = a.length + b.length - 1 := by
  unfold pm; rw [if_neg (by omega), tab_length]
theorem pm_nil_left (b : List Nat) : pm [] b = [] := by unfold pm; exact if_pos (Or.inl rfl)
theorem pm_nil_right (a : List Nat) : pm a [] = [] := by unfold pm; exact if_pos (Or.inr rfl)
theorem pm_can {a b : List Nat} (ha8 : By a) (hb8 : By b) (ha : Can a) (hb : Can b) : Can (pm a b) := by
  intro h
  by_cases h0 : a.length = 0 ∨ b.length = 0
  · unfold pm at h; rw [if_pos h0] at h; simp at h
  · have h1 : 0 < a.length := by omega
    have h2 : 0 < b.length := by omega
    unfold pm
    rw [if_neg h0, sq_tab, if_pos (by omega)]
    have e : cvk (sq a) (sq b) a.length 0 = gm (sq a 0) (sq b 0) := by
      rw [cvk_full _ _ _ _ fun i hi => sq_out a i hi, cv, xs, xs, Nat.zero_xor]
    rw [e]
    exact gm_ne (ha8.sq 0) (hb8.sq 0) (ha h1) (hb h2)
theorem ev_pm {a b : List Nat} {x : Nat} (ha : By a) (hb : By b) (hx : x < 256) : ev (pm a b) x = gm (ev a x) (ev b x) := by
  have hl : (pm a b).length ≤ a.length + b.length := by unfold pm; split; simp; rw [tab_length]; omega
  rw [ev_E_le hx (pm_by ha hb) hl, ev_E hx ha, ev_E hx hb, ← E_cv (fun i => ha.cf i) (fun i => hb.cf i) hx (fun i hi => cf_out a i hi) (fun i hi => cf_out b i hi)]
  exact E_congr fun k _ => pm_cf a b k

/-- The polynomial of roots. -/
def rt (l : List Nat) : List Nat := l.foldl (fun p r => pm p [1, r]) [1]
theorem rt_snoc (l : List Nat) (r : Nat) : rt (l ++ [r]) = pm (rt l) [1, r] := by simp [rt]
theorem by_two {a b : Nat} (ha : a < 256) (hb : b < 256) : By [a, b] := by intro x hx; simp at hx; omega
theorem by_one {a : Nat} (ha : a < 256) : By [a] := by intro x hx; simp at hx; omega
theorem by_nil : By [] := fun x hx => by cases hx
theorem rt_all (l : List Nat) (hl : By l) : By (rt l) ∧ (rt l).length = l.length + 1 ∧ Can (rt l) := by
  revert hl
  refine snocs (P := fun l => By l → By (rt l) ∧ (rt l).length = l.length + 1 ∧ Can (rt l)) (fun _ => ⟨by_one (by omega), rfl, fun _ => by decide⟩) (fun l a ih h => ?_) l
  have ha := h a (by simp)
  obtain ⟨h1, h2, h3⟩ := ih fun y hy => h y (by simp [hy])
  have h4 : By [1, a] := by_two (by omega) ha
  rw [rt_snoc]
  refine ⟨pm_by h1 h4, ?_, pm_can h1 h4 h3 fun _ => by simp [sq]⟩
  rw [pm_length _ _ (by omega) (by simp), h2]
  simp

/-- Sums of many. -/
def sumf (ls : List (List Nat)) (k : Nat) : Nat := ls.foldl (fun s l => s ^^^ cf l k) 0
theorem sumf_snoc (ls : List (List Nat)) (l : List Nat) (k : Nat) : sumf (ls ++ [l]) k = sumf ls k ^^^ cf l k := by simp [sumf]
theorem snocs2 {P : List (List Nat) → Prop} (h0 : P []) (h1 : ∀ l a, P l → P (l ++ [a])) (l : List (List Nat)) : P l := by
  have h : ∀ r : List (List Nat), P r.reverse := fun r => by
    induction r with
    | nil => exact h0
    | cons a r ih => rw [List.reverse_cons]; exact h1 _ _ ih
  simpa using h l.reverse
theorem sumf_lt (ls : List (List Nat)) (h : ∀ l ∈ ls, By l) (k : Nat) : sumf ls k < 256 := by
  revert h
  refine snocs2 (P := fun ls => (∀ l ∈ ls, By l) → sumf ls k < 256) (fun _ => show 0 < 256 by omega) (fun ls l ih h => ?_) ls
  rw [sumf_snoc]
  exact xor_lt (ih fun y hy => h y (by simp [hy])) ((h l (by simp)).cf k)
def mx (ls : List (List Nat)) : Nat := ls.foldl (fun m l => max m l.length) 0
theorem mx_snoc (ls : List (List Nat)) (l : List Nat) : mx (ls ++ [l]) = max (mx ls) l.length := by simp [mx]
theorem mx_le (ls : List (List Nat)) (N : Nat) (h : ∀ l ∈ ls, l.length ≤ N) : mx ls ≤ N := by
  revert h
  refine snocs2 (P := fun ls => (∀ l ∈ ls, l.length ≤ N) → mx ls ≤ N) (fun _ => Nat.zero_le _) (fun ls l ih h => ?_) ls
  rw [mx_snoc]
  have h1 := ih fun y hy => h y (by simp [hy])
  have h2 := h l (by simp)
  omega
theorem le_mx (ls : List (List Nat)) (l : List Nat) (h : l ∈ ls) : l.length ≤ mx ls := by
  revert h
  refine snocs2 (P := fun ls => l ∈ ls → l.length ≤ mx ls) (fun h => by cases h) (fun ls m ih h => ?_) ls
  rw [mx_snoc]
  rcases List.mem_append.1 h with h | h
  · have := ih h; omega
  · simp at h; subst h; omega
theorem sumf_out (ls : List (List Nat)) (k : Nat) (h : mx ls ≤ k) : sumf ls k = 0 := by
  revert h
  refine snocs2 (P := fun ls => mx ls ≤ k → sumf ls k = 0) (fun _ => rfl) (fun ls m ih h => ?_) ls
  rw [mx_snoc] at h
  rw [sumf_snoc, ih (by omega), cf_out m k (by omega)]; rfl
/-- What 'Add' answers. -/
def addl (ls : List (List Nat)) : List Nat := beh (hi (mx ls) (sumf ls))
theorem addl_cf (ls : List (List Nat)) (k : Nat) : cf (addl ls) k = sumf ls k := by
  rw [addl, cf_beh, cf_hi]
  split
  · rfl
  · rw [sumf_out ls k (by omega)]
theorem hi_by {N : Nat} {F : Nat → Nat} (h : ∀ k, F k < 256) : By (hi N F) := tab_by N fun n _ => h _
theorem addl_by (ls : List (List Nat)) (h : ∀ l ∈ ls, By l) : By (addl ls) := (hi_by fun k => sumf_lt ls h k).beh
/-- A sum's state: i bytes of p added at its lower end. -/
def adj (N : Nat) (S : Nat → Nat) (p : List Nat) (i n : Nat) : Nat := S (N - 1 - n) ^^^ if N - p.length ≤ n ∧ n < N - p.length + i then sq p (n - (N - p.length)) else 0
theorem adj_zero (N : Nat) (S : Nat → Nat) (p : List Nat) : tab N (adj N S p 0) = hi N S := tab_congr N fun n hn => by rw [adj, if_neg (by omega), Nat.xor_zero]
theorem adj_step (N : Nat) (S : Nat → Nat) (p : List Nat) (i : Nat) : (tab N (adj N S p i)).set (N - p.length + i) (adj N S p i (N - p.length + i) ^^^ sq p i) = tab N (adj N S p (i + 1)) := by
  rw [tab_set]
  refine tab_congr N fun n _ => ?_
  by_cases e : n = N - p.length + i
  · subst e
    rw [if_pos rfl, adj, adj, if_neg (by omega), if_pos (by omega), show N - p.length + i - (N - p.length) = i by omega, Nat.xor_zero]
  · rw [if_neg e, adj, adj]
    by_cases h : N - p.length ≤ n ∧ n < N - p.length + i
    · rw [if_pos h, if_pos (by omega)]
    · rw [if_neg h, if_neg (by omega)]
theorem adj_full (N : Nat) (ls : List (List Nat)) (p : List Nat) (hp : p.length ≤ N) : tab N (adj N (sumf ls) p p.length) = hi N (sumf (ls ++ [p])) := tab_congr N fun n hn => by
  rw [adj, sumf_snoc]
  congr 1
  by_cases h : N - p.length ≤ n
  · rw [if_pos ⟨h, by omega⟩, cf_in p _ (by omega)]
    congr 1; omega
  · rw [if_neg (by omega), cf_out p _ (by omega)]
theorem adj_lt {N : Nat} {S : Nat → Nat} {p : List Nat} (hS : ∀ k, S k < 256) (hp : By p) (i n : Nat) : adj N S p i n < 256 := xor_lt (hS _) (by split; exact hp.sq _; omega)

/-- Products of many. -/
def pms (ls : List (List Nat)) : List Nat := ls.foldl (fun p a => pm p (beh a)) [1]
theorem pms_snoc (ls : List (List Nat)) (l : List Nat) : pms (ls ++ [l]) = pm (pms ls) (beh l) := by simp [pms]
theorem beh_le (l : List Nat) : (beh l).length ≤ l.length := by rw [beh_length]; omega
theorem pm_le (a b : List Nat) : (pm a b).length ≤ a.length + b.length := by unfold pm; split; simp; rw [tab_length]; omega
theorem pms_all (ls : List (List Nat)) (h : ∀ l ∈ ls, By l) : By (pms ls) ∧ Can (pms ls) := by
  revert h
  refine snocs2 (P := fun ls => (∀ l ∈ ls, By l) → By (pms ls) ∧ Can (pms ls)) (fun _ => ⟨by_one (by omega), fun _ => by decide⟩) (fun ls l ih h => ?_) ls
  obtain ⟨h1, h2⟩ := ih fun y hy => h y (by simp [hy])
  have h3 := h l (by simp)
  rw [pms_snoc]
  exact ⟨pm_by h1 h3.beh, pm_can h1 h3.beh h2 (beh_can l)⟩
theorem pms_le (ls : List (List Nat)) (N : Nat) (h : ∀ l ∈ ls, l.length ≤ N) : (pms ls).length ≤ 1 + ls.length * N := by
  revert h
  refine snocs2 (P := fun ls => (∀ l ∈ ls, l.length ≤ N) → (pms ls).length ≤ 1 + ls.length * N) (fun _ => by simp [pms]) (fun ls l ih h => ?_) ls
  have h1 := ih fun y hy => h y (by simp [hy])
  have h2 := h l (by simp)
  have h3 := pm_le (pms ls) (beh l)
  have h4 := beh_le l
  rw [pms_snoc, List.length_append, List.length_singleton, Nat.add_mul]
  omega

/-- The derivative. -/
def dl (l : List Nat) : List Nat := tab (l.length - 1) (fun i => if (l.length - 1 - i) % 2 = 1 then sq l i else 0)
theorem dl_cf (l : List Nat) (k : Nat) : cf (dl l) k = if k % 2 = 0 then cf l (k + 1) else 0 := by
  by_cases h : k < l.length - 1
  · rw [cf_in _ _ (by rw [dl, tab_length]; exact h), dl, tab_length, sq_tab, if_pos (by omega), cf_in l _ (by omega)]
    by_cases h2 : k % 2 = 0
    · rw [if_pos (by omega), if_pos h2]; congr 1; omega
    · rw [if_neg (by omega), if_neg h2]
  · rw [cf_out _ _ (by rw [dl, tab_length]; omega), cf_out l _ (by omega)]; split <;> rfl
theorem dl_by {l : List Nat} (h : By l) : By (dl l) := tab_by _ fun n _ => by split; exact h.sq _; omega
/-! The product with x - r, and its derivative. -/
theorem cf_lin (r k : Nat) : cf [1, r] k = if k = 0 then r else if k = 1 then 1 else 0 := by
  match k with
  | 0 => rfl
  | 1 => rfl
  | k + 2 => rw [cf_out _ _ (by simp), if_neg (by omega), if_neg (by omega)]
theorem cv_lin {f : Nat → Nat} (hf : ∀ i, f i < 256) {r : Nat} (hr : r < 256) (k : Nat) : cv f (cf [1, r]) k = gm r (f k) ^^^ if k = 0 then 0 else f (k - 1) := by
  rw [cv_comm hf (fun i => (by_two (by omega) hr).cf i)]
  match k with
  | 0 => rw [cv, xs, xs, Nat.zero_xor, cf_lin, if_pos rfl, if_pos rfl, Nat.xor_zero]
  | k + 1 =>
    rw [cv, xs_ext (n := 2) _ (by omega) fun i h1 _ => by rw [cf_out _ _ (by simpa using h1), gm_zero_left], xs, xs, xs, Nat.zero_xor, cf_lin, cf_lin, if_pos rfl, if_neg (by omega), if_pos rfl, if_neg (by omega), gm_one_left (hf _)]
    rfl
def dev (p : List Nat) (x : Nat) : Nat := ev (dl p) x
theorem dl_le (p : List Nat) : (dl p).length ≤ p.length := by rw [dl, tab_length]; omega
theorem dev_E {p : List Nat} {x N : Nat} (hp : By p) (hx : x < 256) (h : p.length ≤ N) : dev p x = xs (fun k => gm (if k % 2 = 0 then cf p (k + 1) else 0) (pw x k)) N := by
  rw [dev, ev_E_le hx (dl_by hp) (Nat.le_trans (dl_le p) h)]
  exact E_congr fun k _ => dl_cf p k
theorem dev_lt {p : List Nat} {x : Nat} (hp : By p) (hx : x < 256) : dev p x < 256 := ev_lt (dl_by hp) hx
theorem dev_lin {p : List Nat} {r x : Nat} (hp : By p) (hr : r < 256) (hx : x < 256) : dev (pm p [1, r]) x = gm (dev p x) (x ^^^ r) ^^^ ev p x := by
  have hq := pm_by hp (by_two (show 1 < 256 by omega) hr)
  have hle := pm_le p [1, r]
  obtain ⟨N, hN⟩ : ∃ N, N = p.length + 2 := ⟨_, rfl⟩
  simp only [List.length_cons, List.length_nil] at hle
  rw [dev_E hq hx (N := N) (by omega)]
  have e1 : ∀ k, gm (if k % 2 = 0 then cf (pm p [1, r]) (k + 1) else 0) (pw x k) = gm r (gm (if k % 2 = 0 then cf p (k + 1) else 0) (pw x k)) ^^^ (if k % 2 = 0 then gm (cf p k) (pw x k) else 0) := by
    intro k
    split
    · rw [pm_cf, cv_lin (fun i => hp.cf i) hr, if_neg (by omega), gm_add_left, gm_assoc hr (hp.cf _) (pw_lt hx _)]; rfl
    · rw [gm_zero_left, gm_zero_right]; rfl
  rw [xs_congr N fun k _ => e1 k, xs_xor, ← xs_gm, ← dev_E hp hx (by omega)]
  have e2 : ev p x = xs (fun k => if k % 2 = 0 then gm (cf p k) (pw x k) else 0) N ^^^ gm x (dev p x) := by
    have h1 : ev p x = xs (fun k => if k % 2 = 0 then gm (cf p k) (pw x k) else 0) N ^^^ xs (fun k => if k % 2 = 1 then gm (cf p k) (pw x k) else 0) N := by
      rw [ev_E_le hx hp (N := N) (by omega), E, ← xs_xor]
      refine xs_congr N fun k _ => ?_
      by_cases h : k % 2 = 0
      · rw [if_pos h, if_neg (by omega), Nat.xor_zero]
      · rw [if_neg h, if_pos (by omega), Nat.zero_xor]
    rw [h1]
    congr 1
    obtain ⟨M, rfl⟩ : ∃ M, N = M + 1 := ⟨N - 1, by omega⟩
    rw [xs_front, if_neg (by omega), Nat.zero_xor, dev_E hp hx (N := M) (by omega), xs_gm]
    refine xs_congr M fun k _ => ?_
    by_cases h : k % 2 = 0
    · rw [if_pos (by omega), if_pos h, ← pw_comm hx, ← gm_assoc hx (hp.cf _) (pw_lt hx _), gm_comm hx (hp.cf _), gm_assoc (hp.cf _) hx (pw_lt hx _)]
    · rw [if_neg (by omega), if_neg h, gm_zero_left, gm_zero_right]
  have hd := dev_lt hp hx
  rw [gm_add_right, gm_comm hd hx, gm_comm hd hr]
  generalize gm x (dev p x) = a at *
  generalize gm r (dev p x) = b at *
  rw [e2]
  generalize xs (fun k => if k % 2 = 0 then gm (cf p k) (pw x k) else 0) N = c at *
  rw [Nat.xor_comm a b, Nat.xor_assoc, Nat.xor_comm c a, ← Nat.xor_assoc a, Nat.xor_self, Nat.zero_xor]
theorem ev_lin {p : List Nat} {r x : Nat} (hp : By p) (hr : r < 256) (hx : x < 256) : ev (pm p [1, r]) x = gm (ev p x) (x ^^^ r) := by
  rw [ev_pm hp (by_two (by omega) hr) hx]
  congr 1
  show gm (gm 0 x ^^^ 1) x ^^^ r = _
  rw [gm_zero_left, Nat.zero_xor, gm_one_left hx]
theorem xor_ne {a b : Nat} (h : a ≠ b) : a ^^^ b ≠ 0 := fun e => h (by
  have h1 : a ^^^ b ^^^ b = b := by rw [e, Nat.zero_xor]
  rwa [Nat.xor_assoc, Nat.xor_self, Nat.xor_zero] at h1)
/-- How often x stands in l. -/
def ct (l : List Nat) (x : Nat) : Nat := l.foldl (fun c b => if b = x then c + 1 else c) 0
theorem ct_snoc (l : List Nat) (b x : Nat) : ct (l ++ [b]) x = if b = x then ct l x + 1 else ct l x := by simp [ct]
theorem ct_le (l : List Nat) (x : Nat) : ct l x ≤ l.length := by
  refine snocs (P := fun l => ct l x ≤ l.length) (Nat.le_refl _) (fun l a ih => ?_) l
  rw [ct_snoc, List.length_append, List.length_singleton]
  split <;> omega
theorem rt_roots (l : List Nat) {x : Nat} (hl : By l) (hx : x < 256) :
    (ev (rt l) x = 0 ↔ 0 < ct l x) ∧ (2 ≤ ct l x → dev (rt l) x = 0) ∧ (ct l x = 1 → dev (rt l) x ≠ 0) := by
  revert hl
  refine snocs (P := fun l => By l → (ev (rt l) x = 0 ↔ 0 < ct l x) ∧ (2 ≤ ct l x → dev (rt l) x = 0) ∧ (ct l x = 1 → dev (rt l) x ≠ 0)) (fun _ => ?_) (fun l r ih h => ?_) l
  · have e1 : ev (rt []) x = 1 := by show gm 0 x ^^^ 1 = 1; rw [gm_zero_left]; rfl
    have e2 : ct [] x = 0 := rfl
    rw [e1, e2]
    exact ⟨⟨fun h => absurd h (by omega), fun h => absurd h (by omega)⟩, fun h => absurd h (by omega), fun h => absurd h (by omega)⟩
  · have hl : By l := fun y hy => h y (by simp [hy])
    have hr := h r (by simp)
    obtain ⟨h1, h2, h3⟩ := ih hl
    obtain ⟨hp, _, _⟩ := rt_all l hl
    have he := ev_lt hp hx
    have hd := dev_lt hp hx
    rw [rt_snoc, ev_lin hp hr hx, dev_lin hp hr hx, ct_snoc]
    generalize rt l = p at *
    generalize ct l x = c at *
    by_cases e : r = x
    · subst e
      rw [Nat.xor_self, gm_zero_right, gm_zero_right, Nat.zero_xor, if_pos rfl]
      refine ⟨⟨fun _ => by omega, fun _ => rfl⟩, fun h => h1.2 (by omega), fun h e => ?_⟩
      have := h1.1 e
      omega
    · rw [if_neg e]
      have hs : x ^^^ r ≠ 0 := xor_ne (fun h => e h.symm)
      have hs8 := xor_lt hx hr
      refine ⟨⟨fun h => h1.1 ((gm_eq_zero he hs8 h).resolve_right hs), fun h => by rw [h1.2 h, gm_zero_left]⟩, fun h => ?_, fun h => ?_⟩
      · rw [h2 h, h1.2 (by omega), gm_zero_left]; rfl
      · rw [h1.2 (by omega), Nat.xor_zero]
        exact gm_ne hd hs8 (h3 h) hs

/-- Shifted. -/
def shl (l : List Nat) (k : Nat) : List Nat := if (beh l).length = 0 then [] else beh l ++ List.replicate k 0

end PolyMath
