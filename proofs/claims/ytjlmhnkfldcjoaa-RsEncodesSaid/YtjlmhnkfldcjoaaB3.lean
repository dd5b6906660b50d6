/- The texts RsMath3, RsMath4, Grow2, InvT, InvG, one behind the other. -/
import Derived.Test.YtjlmhnkfldcjoaaB2
/- Equations over the field, solved step by step: rows as functions of the column, the right side in column m. No program. -/
namespace RsMath
open GfMath PolyMath
set_option linter.unusedVariables false

def dotf (r v : Nat → Nat) (m : Nat) : Nat := xs (fun c => gm (r c) (v c)) m
def Solf (F : Nat → Nat → Nat) (H m : Nat) (v : Nat → Nat) : Prop := ∀ i, i < H → dotf (F i) v m = F i m
def swapf (F : Nat → Nat → Nat) (a b : Nat) : Nat → Nat → Nat := fun i => if i = a then F b else if i = b then F a else F i
def scalef (F : Nat → Nat → Nat) (j : Nat) : Nat → Nat → Nat := fun i c => if i = j then gm (F j c) (iv (F j j)) else F i c
def elimf (F : Nat → Nat → Nat) (j : Nat) : Nat → Nat → Nat := fun i c => if i = j then F j c else F i c ^^^ gm (F i j) (F j c)
def Byf (F : Nat → Nat → Nat) : Prop := ∀ i c, F i c < 256
def Uni (F : Nat → Nat → Nat) (H j : Nat) : Prop := ∀ c, c < j → ∀ i, i < H → F i c = if i = c then 1 else 0

theorem byf_swap {F : Nat → Nat → Nat} (h : Byf F) (a b : Nat) : Byf (swapf F a b) := fun i c => by unfold swapf; split; exact h _ _; split; exact h _ _; exact h _ _
theorem byf_scale {F : Nat → Nat → Nat} (h : Byf F) (j : Nat) : Byf (scalef F j) := fun i c => by unfold scalef; split; exact gm_lt (h _ _) (iv_lt _); exact h _ _
theorem byf_elim {F : Nat → Nat → Nat} (h : Byf F) (j : Nat) : Byf (elimf F j) := fun i c => by unfold elimf; split; exact h _ _; exact xor_lt (h _ _) (gm_lt (h _ _) (h _ _))
theorem dotf_lt {r v : Nat → Nat} (hr : ∀ c, r c < 256) (hv : ∀ c, v c < 256) (m : Nat) : dotf r v m < 256 := xs_lt m fun i _ => gm_lt (hr i) (hv i)

theorem sol_swap {F : Nat → Nat → Nat} {H m a b : Nat} (ha : a < H) (hb : b < H) (v : Nat → Nat) : Solf (swapf F a b) H m v ↔ Solf F H m v := by
  constructor
  · intro h i hi
    by_cases h1 : i = a
    · have := h b hb
      unfold swapf at this
      by_cases h2 : b = a
      · rw [if_pos h2, h2, ← h1] at this; exact this
      · rw [if_neg h2, if_pos rfl] at this; rw [h1]; exact this
    · by_cases h2 : i = b
      · have := h a ha
        unfold swapf at this
        rw [if_pos rfl] at this
        rw [h2]; exact this
      · have := h i hi
        unfold swapf at this
        rw [if_neg h1, if_neg h2] at this
        exact this
  · intro h i hi
    unfold swapf
    by_cases h1 : i = a
    · rw [if_pos h1]; exact h b hb
    · rw [if_neg h1]
      by_cases h2 : i = b
      · rw [if_pos h2]; exact h a ha
      · rw [if_neg h2]; exact h i hi

theorem dot_scale {F : Nat → Nat → Nat} (hF : Byf F) {v : Nat → Nat} (hv : ∀ c, v c < 256) (j m : Nat) (s : Nat) (hs : s < 256) : dotf (fun c => gm (F j c) s) v m = gm (dotf (F j) v m) s := by
  unfold dotf
  rw [xs_gm_right]
  refine xs_congr m fun c _ => ?_
  rw [gm_assoc (hF _ _) hs (hv c), gm_comm hs (hv c), ← gm_assoc (hF _ _) (hv c) hs]
theorem gm_right_cancel {a b c : Nat} (ha : a < 256) (hb : b < 256) (hc : c < 256) (h0 : c ≠ 0) (h : gm a c = gm b c) : a = b := by
  rw [gm_comm ha hc, gm_comm hb hc] at h
  exact gm_cancel hc ha hb h0 h
theorem iv_ne {a : Nat} (ha : a < 256) (h0 : a ≠ 0) : iv a ≠ 0 := fun e => by
  have := gm_iv ha h0
  rw [e, gm_zero_right] at this
  cases this
theorem sol_scale {F : Nat → Nat → Nat} (hF : Byf F) {H m j : Nat} (hj : j < H) (h0 : F j j ≠ 0) {v : Nat → Nat} (hv : ∀ c, v c < 256) : Solf (scalef F j) H m v ↔ Solf F H m v := by
  have hs : iv (F j j) < 256 := iv_lt _
  have key : dotf (scalef F j j) v m = gm (dotf (F j) v m) (iv (F j j)) := by
    rw [← dot_scale hF hv j m _ hs]
    exact xs_congr m fun c _ => by unfold scalef; rw [if_pos rfl]
  have other : ∀ i, i ≠ j → scalef F j i = F i := fun i hi => funext fun c => by unfold scalef; rw [if_neg hi]
  have rhs : scalef F j j m = gm (F j m) (iv (F j j)) := by unfold scalef; rw [if_pos rfl]
  constructor
  · intro h i hi
    by_cases e : i = j
    · subst e
      have := h i hi
      rw [key, rhs] at this
      exact gm_right_cancel (dotf_lt (hF i) hv m) (hF i m) hs (iv_ne (hF i i) h0) this
    · have := h i hi
      rw [other i e] at this
      exact this
  · intro h i hi
    by_cases e : i = j
    · subst e
      rw [key, rhs, h i hi]
    · rw [other i e]; exact h i hi

theorem sol_elim {F : Nat → Nat → Nat} (hF : Byf F) {H m j : Nat} (hj : j < H) {v : Nat → Nat} (hv : ∀ c, v c < 256) : Solf (elimf F j) H m v ↔ Solf F H m v := by
  have self : elimf F j j = F j := funext fun c => by unfold elimf; rw [if_pos rfl]
  have key : ∀ i, i ≠ j → dotf (elimf F j i) v m = dotf (F i) v m ^^^ gm (F i j) (dotf (F j) v m) := fun i hi => by
    unfold dotf
    rw [xs_gm, ← xs_xor]
    refine xs_congr m fun c _ => ?_
    unfold elimf
    rw [if_neg hi, gm_add_left, gm_assoc (hF _ _) (hF _ _) (hv c)]
  have rhs : ∀ i, i ≠ j → elimf F j i m = F i m ^^^ gm (F i j) (F j m) := fun i hi => by unfold elimf; rw [if_neg hi]
  have back : ∀ a b c : Nat, a ^^^ c = b ^^^ c → a = b := fun a b c h => by
    have := congrArg (· ^^^ c) h
    simpa [Nat.xor_assoc] using this
  constructor
  · intro h
    have hjj : dotf (F j) v m = F j m := by have := h j hj; rw [self] at this; exact this
    intro i hi
    by_cases e : i = j
    · rw [e]; exact hjj
    · have := h i hi
      rw [key i e, rhs i e, hjj] at this
      exact back _ _ _ this
  · intro h i hi
    by_cases e : i = j
    · rw [e, self]; exact h j hj
    · rw [key i e, rhs i e, h i hi, h j hj]

/-- One column: the pivot's row comes to its place, is scaled, and the column is cleared. -/
def stepf (F : Nat → Nat → Nat) (j at_ : Nat) : Nat → Nat → Nat := elimf (scalef (swapf F j at_) j) j
theorem byf_step {F : Nat → Nat → Nat} (h : Byf F) (j a : Nat) : Byf (stepf F j a) := byf_elim (byf_scale (byf_swap h _ _) _) _
theorem swap_at (F : Nat → Nat → Nat) (j a : Nat) : swapf F j a j = F a := by unfold swapf; rw [if_pos rfl]
theorem sol_step {F : Nat → Nat → Nat} (hF : Byf F) {H m j a : Nat} (hj : j < H) (ha : a < H) (h0 : F a j ≠ 0) {v : Nat → Nat} (hv : ∀ c, v c < 256) : Solf (stepf F j a) H m v ↔ Solf F H m v := by
  have hS := byf_swap hF j a
  rw [stepf, sol_elim (byf_scale hS j) hj hv, sol_scale hS hj (by rw [swap_at]; exact h0) hv, sol_swap hj ha]
theorem uni_step {F : Nat → Nat → Nat} (hF : Byf F) {H j a : Nat} (hj : j < H) (hja : j ≤ a) (ha : a < H) (h0 : F a j ≠ 0) (hU : Uni F H j) : Uni (stepf F j a) H (j + 1) := by
  have hS := byf_swap hF j a
  intro c hc i hi
  by_cases hcj : c = j
  · subst hcj
    have hp : scalef (swapf F c a) c c c = 1 := by
      unfold scalef
      rw [if_pos rfl, swap_at]
      exact gm_iv (hF a c) h0
    unfold stepf elimf
    by_cases e : i = c
    · subst e
      rw [if_pos rfl, if_pos rfl, hp]
    · rw [if_neg e, if_neg e, hp, gm_one (byf_scale hS c i c), Nat.xor_self]
  · have hc2 : c < j := by omega
    have hz : scalef (swapf F j a) j j c = 0 := by
      unfold scalef
      rw [if_pos rfl, swap_at, hU c hc2 a ha, if_neg (by omega), gm_zero_left]
    have hsame : swapf F j a i c = if i = c then 1 else 0 := by
      unfold swapf
      by_cases h1 : i = j
      · rw [if_pos h1, hU c hc2 a ha, if_neg (by omega), if_neg (by omega)]
      · rw [if_neg h1]
        by_cases h2 : i = a
        · rw [if_pos h2, hU c hc2 j hj, if_neg (by omega), if_neg (by omega)]
        · rw [if_neg h2]; exact hU c hc2 i hi
    unfold stepf elimf
    by_cases e : i = j
    · rw [if_pos e, hz, if_neg (by omega)]
    · rw [if_neg e, hz, gm_zero_right, Nat.xor_zero]
      unfold scalef
      rw [if_neg e]
      exact hsame

theorem xs_one (f : Nat → Nat) (m i : Nat) (hi : i < m) (h0 : ∀ c, c < m → c ≠ i → f c = 0) : xs f m = f i := by
  rw [show m = i + (1 + (m - i - 1)) by omega, xs_split, xs_zero i fun c hc => h0 c (by omega) (by omega), Nat.zero_xor, xs_split, xs_zero (m - i - 1) fun c hc => h0 (i + (1 + c)) (by omega) (by omega), Nat.xor_zero]
  show 0 ^^^ f (i + 0) = f i
  rw [Nat.zero_xor]
  rfl
/-- All columns cleared: the solution is the right side. -/
theorem uni_end {F : Nat → Nat → Nat} {H m : Nat} (hU : Uni F H m) (hm : m ≤ H) {v : Nat → Nat} (hv : ∀ c, v c < 256) :
    Solf F H m v ↔ (∀ i, i < m → v i = F i m) ∧ ∀ i, m ≤ i → i < H → F i m = 0 := by
  have hlow : ∀ i, i < m → dotf (F i) v m = v i := fun i hi => by
    unfold dotf
    rw [xs_one _ m i hi fun c hc hne => by rw [hU c hc i (by omega), if_neg (fun e => hne e.symm), gm_zero_left], hU i hi i (by omega), if_pos rfl, gm_one_left (hv i)]
  have hhigh : ∀ i, m ≤ i → i < H → dotf (F i) v m = 0 := fun i hi hi2 => xs_zero m fun c hc => by rw [hU c hc i hi2, if_neg (by omega), gm_zero_left]
  constructor
  · intro h
    exact ⟨fun i hi => by rw [← h i (by omega), hlow i hi], fun i hi hi2 => by rw [← h i hi2, hhigh i hi hi2]⟩
  · intro h i hi
    by_cases hc : i < m
    · rw [hlow i hc]; exact h.1 i hc
    · rw [hhigh i (by omega) hi, h.2 i (by omega) hi]
/-- A column without a pivot: each solution has another one beside it. -/
theorem uni_none {F : Nat → Nat → Nat} (hF : Byf F) {H m j : Nat} (hU : Uni F H j) (hj : j < m) (h0 : ∀ i, j ≤ i → i < H → F i j = 0) {v : Nat → Nat} (hv : ∀ c, v c < 256) (hs : Solf F H m v) :
    ∃ v' : Nat → Nat, (∀ c, v' c < 256) ∧ Solf F H m v' ∧ v' j ≠ v j := by
  let d : Nat → Nat := fun c => if c = j then 1 else if c < j ∧ c < H then F c j else 0
  have hd8 : ∀ c, d c < 256 := fun c => by show (if c = j then 1 else if c < j ∧ c < H then F c j else 0) < 256; split; omega; split; exact hF _ _; omega
  have hd : ∀ i, i < H → dotf (F i) d m = 0 := fun i hi => by
    unfold dotf
    rw [show m = j + (1 + (m - j - 1)) by omega, xs_split, xs_split]
    have e3 : xs (fun i_1 => gm (F i (j + (1 + i_1))) (d (j + (1 + i_1)))) (m - j - 1) = 0 := xs_zero _ fun c _ => by
      have : d (j + (1 + c)) = 0 := by show (if j + (1 + c) = j then 1 else if j + (1 + c) < j ∧ _ then _ else 0) = 0; rw [if_neg (by omega), if_neg (by omega)]
      rw [this, gm_zero_right]
    have e2 : xs (fun i_1 => gm (F i (j + i_1)) (d (j + i_1))) 1 = F i j := by
      show 0 ^^^ gm (F i (j + 0)) (d (j + 0)) = _
      have : d (j + 0) = 1 := by show (if j + 0 = j then 1 else _) = 1; rw [if_pos (show j + 0 = j from rfl)]
      rw [this, Nat.zero_xor, gm_one (hF _ _)]
      rfl
    rw [e3, Nat.xor_zero, e2]
    by_cases hij : i < j
    · have e1 : xs (fun c => gm (F i c) (d c)) j = F i j := by
        rw [xs_one _ j i hij fun c hc hne => by rw [hU c hc i hi, if_neg (fun e => hne e.symm), gm_zero_left], hU i hij i hi, if_pos rfl]
        have : d i = F i j := by show (if i = j then 1 else if i < j ∧ i < H then F i j else 0) = _; rw [if_neg (by omega), if_pos ⟨hij, hi⟩]
        rw [this, gm_one_left (hF _ _)]
      rw [e1, Nat.xor_self]
    · have e1 : xs (fun c => gm (F i c) (d c)) j = 0 := xs_zero _ fun c hc => by rw [hU c hc i hi, if_neg (by omega), gm_zero_left]
      rw [e1, h0 i (by omega) hi]
      rfl
  refine ⟨fun c => v c ^^^ d c, fun c => xor_lt (hv c) (hd8 c), fun i hi => ?_, ?_⟩
  · have : dotf (F i) (fun c => v c ^^^ d c) m = dotf (F i) v m ^^^ dotf (F i) d m := by
      unfold dotf
      rw [← xs_xor]
      exact xs_congr m fun c _ => gm_add_right _ _ _
    rw [this, hd i hi, Nat.xor_zero, hs i hi]
  · show v j ^^^ d j ≠ v j
    have : d j = 1 := by show (if j = j then 1 else _) = 1; rw [if_pos rfl]
    rw [this]
    intro e
    have h5 : v j ^^^ (v j ^^^ 1) = 0 := by rw [e, Nat.xor_self]
    rw [← Nat.xor_assoc, Nat.xor_self, Nat.zero_xor] at h5
    cases h5

/-- The first row from j on whose factor in column j isn't 0; H: there is none. -/
def pivf (F : Nat → Nat → Nat) (H j : Nat) : Nat → Nat
  | 0 => H
  | n + 1 => if F (H - (n + 1)) j ≠ 0 then H - (n + 1) else pivf F H j n
theorem pivf_spec (F : Nat → Nat → Nat) (H j : Nat) : ∀ n, n ≤ H → (pivf F H j n = H ∧ ∀ i, H - n ≤ i → i < H → F i j = 0) ∨ (H - n ≤ pivf F H j n ∧ pivf F H j n < H ∧ F (pivf F H j n) j ≠ 0 ∧ ∀ i, H - n ≤ i → i < pivf F H j n → F i j = 0)
  | 0, _ => Or.inl ⟨rfl, fun i h1 h2 => by omega⟩
  | n + 1, hn => by
    unfold pivf
    by_cases h : F (H - (n + 1)) j ≠ 0
    · rw [if_pos h]
      exact Or.inr ⟨by omega, by omega, h, fun i h1 h2 => by omega⟩
    · rw [if_neg h]
      have hz : F (H - (n + 1)) j = 0 := Classical.not_not.1 h
      have ext : ∀ b, (∀ i, H - n ≤ i → i < b → F i j = 0) → ∀ i, H - (n + 1) ≤ i → i < b → F i j = 0 := fun b hb i h1 h2 => by
        by_cases e : i = H - (n + 1)
        · rw [e]; exact hz
        · exact hb i (by omega) h2
      rcases pivf_spec F H j n (by omega) with h1 | h1
      · exact Or.inl ⟨h1.1, ext H h1.2⟩
      · exact Or.inr ⟨by omega, h1.2.1, h1.2.2.1, ext _ h1.2.2.2⟩
/-- The first j columns. -/
def gs (F : Nat → Nat → Nat) (H : Nat) : Nat → Option (Nat → Nat → Nat)
  | 0 => some F
  | j + 1 => (gs F H j).bind fun G => if pivf G H j (H - j) < H then some (stepf G j (pivf G H j (H - j))) else none
theorem gs_some {F : Nat → Nat → Nat} (hF : Byf F) {H : Nat} : ∀ (j : Nat) (G : Nat → Nat → Nat), gs F H j = some G → j ≤ H ∧ Byf G ∧ Uni G H j ∧ ∀ m v, (∀ c, v c < 256) → (Solf G H m v ↔ Solf F H m v)
  | 0, G, h => by
    cases h
    exact ⟨Nat.zero_le _, hF, fun c hc => absurd hc (by omega), fun _ _ _ => Iff.rfl⟩
  | j + 1, G, h => by
    unfold gs at h
    cases hq : gs F H j with
    | none => rw [hq] at h; cases h
    | some E =>
      rw [hq] at h
      obtain ⟨h1, h2, h3, h4⟩ := gs_some hF j E hq
      simp only [Option.bind_some] at h
      by_cases hp : pivf E H j (H - j) < H
      · rw [if_pos hp] at h
        cases h
        have hj : j < H := by
          rcases pivf_spec E H j (H - j) (by omega) with q | q
          · omega
          · omega
        rcases pivf_spec E H j (H - j) (by omega) with q | q
        · omega
        · exact ⟨by omega, byf_step h2 _ _, uni_step h2 hj (by omega) q.2.1 q.2.2.1 h3, fun m v hv => by rw [sol_step h2 hj q.2.1 q.2.2.1 hv]; exact h4 m v hv⟩
      · rw [if_neg hp] at h; cases h
/-- No way on: each solution has another one. -/
theorem gs_none {F : Nat → Nat → Nat} (hF : Byf F) {H m : Nat} : ∀ j, j ≤ m → gs F H j = none → ∀ v : Nat → Nat, (∀ c, v c < 256) → Solf F H m v → ∃ v' : Nat → Nat, (∀ c, v' c < 256) ∧ Solf F H m v' ∧ ∃ c, c < m ∧ v' c ≠ v c
  | 0, _, h => by cases h
  | j + 1, hjm, h => fun v hv hs => by
    cases hq : gs F H j with
    | none => exact gs_none hF j (by omega) hq v hv hs
    | some E =>
      obtain ⟨h1, h2, h3, h4⟩ := gs_some hF j E hq
      unfold gs at h
      rw [hq] at h
      simp only [Option.bind_some] at h
      by_cases hp : pivf E H j (H - j) < H
      · rw [if_pos hp] at h; cases h
      · have hz : ∀ i, j ≤ i → i < H → E i j = 0 := by
          rcases pivf_spec E H j (H - j) (by omega) with q | q
          · intro i hi hi2; exact q.2 i (by omega) hi2
          · omega
        obtain ⟨v', g1, g2, g3⟩ := uni_none h2 h3 (by omega) hz hv ((h4 m v hv).2 hs)
        exact ⟨v', g1, (h4 m v' g1).1 g2, j, by omega, g3⟩

end RsMath

/- The bytes at some places that make a word right: the document's Solve, as a function. No program. -/
namespace RsMath
open GfMath PolyMath
set_option linter.unusedVariables false

theorem ev_set {D : List Nat} (hD : By D) {q x : Nat} (hq : q < D.length) (hx : x < 256) (h0 : sq D q = 0) (i : Nat) : ev (D.set q x) (ex i) = ev D (ex i) ^^^ gm x (ex (i * (D.length - 1 - q))) := by
  have hS : By (D.set q x) := fun z hz => by
    rcases List.mem_or_eq_of_mem_set hz with h | h
    · exact hD z h
    · rw [h]; exact hx
  rw [ev_places hS, ev_places hD, List.length_set]
  have h1 : gm x (ex (i * (D.length - 1 - q))) = xs (fun j => gm (if j = q then x else 0) (ex (i * (D.length - 1 - j)))) D.length := by
    rw [xs_one _ D.length q hq fun c _ hne => by rw [if_neg hne, gm_zero_left], if_pos rfl]
  rw [h1, ← xs_xor]
  refine xs_congr _ fun j hj => ?_
  rw [← gm_add_left, sq_set D q x j hq]
  by_cases e : j = q
  · rw [if_pos e, if_pos e, e, h0, Nat.zero_xor]
  · rw [if_neg e, if_neg e, Nat.xor_zero]

/-- The first j places filled. -/
def fillk (R Pl : List Nat) (v : Nat → Nat) : Nat → List Nat
  | 0 => R
  | j + 1 => (fillk R Pl v j).set (sq Pl j) (v j)
theorem fillk_length (R Pl : List Nat) (v : Nat → Nat) : ∀ j, (fillk R Pl v j).length = R.length
  | 0 => rfl
  | j + 1 => by rw [fillk, List.length_set, fillk_length R Pl v j]
theorem fillk_by {R : List Nat} (Pl : List Nat) {v : Nat → Nat} (hR : By R) (hv : ∀ c, v c < 256) : ∀ j, By (fillk R Pl v j)
  | 0 => hR
  | j + 1 => fun z hz => by
    rcases List.mem_or_eq_of_mem_set hz with h | h
    · exact fillk_by Pl hR hv j z h
    · rw [h]; exact hv j
theorem fillk_out (R Pl : List Nat) (v : Nat → Nat) (q : Nat) : ∀ j, (∀ c, c < j → sq Pl c ≠ q) → (∀ c, c < j → sq Pl c < R.length) → sq (fillk R Pl v j) q = sq R q
  | 0, _, _ => rfl
  | j + 1, h, hl => by
    rw [fillk, sq_set _ _ _ _ (by rw [fillk_length]; exact hl j (by omega)), if_neg (fun e => h j (by omega) e.symm)]
    exact fillk_out R Pl v q j (fun c hc => h c (by omega)) fun c hc => hl c (by omega)
theorem fillk_in (R Pl : List Nat) (v : Nat → Nat) : ∀ j, (∀ a b, a < b → b < j → sq Pl a ≠ sq Pl b) → (∀ c, c < j → sq Pl c < R.length) → ∀ c, c < j → sq (fillk R Pl v j) (sq Pl c) = v c
  | 0, _, _, c, hc => absurd hc (by omega)
  | j + 1, h, hl, c, hc => by
    rw [fillk, sq_set _ _ _ _ (by rw [fillk_length]; exact hl j (by omega))]
    by_cases e : c = j
    · rw [e, if_pos rfl]
    · rw [if_neg (h c j (by omega) (by omega))]
      exact fillk_in R Pl v j (fun a b hab hb => h a b hab (by omega)) (fun c hc => hl c (by omega)) c (by omega)
theorem ev_fill {R Pl : List Nat} {v : Nat → Nat} (hR : By R) (hv : ∀ c, v c < 256) (i : Nat) : ∀ j, (∀ a b, a < b → b < j → sq Pl a ≠ sq Pl b) → (∀ c, c < j → sq Pl c < R.length ∧ sq R (sq Pl c) = 0) →
    ev (fillk R Pl v j) (ex i) = ev R (ex i) ^^^ xs (fun c => gm (ex (i * (R.length - 1 - sq Pl c))) (v c)) j
  | 0, _, _ => by rw [fillk]; exact (Nat.xor_zero _).symm
  | j + 1, h, hl => by
    have hz : sq (fillk R Pl v j) (sq Pl j) = 0 := by
      rw [fillk_out R Pl v _ j (fun c hc => h c j hc (by omega)) fun c hc => (hl c (by omega)).1]
      exact (hl j (by omega)).2
    rw [fillk, ev_set (fillk_by Pl hR hv j) (by rw [fillk_length]; exact (hl j (by omega)).1) (hv j) hz, ev_fill hR hv i j (fun a b hab hb => h a b hab (by omega)) (fun c hc => hl c (by omega)), fillk_length, Nat.xor_assoc, gm_comm (hv j) (ex_lt _)]
    rfl

/-- Unlike places of a word. -/
structure Plc (Pl : List Nat) (n : Nat) : Prop where
  lt : ∀ c, c < Pl.length → sq Pl c < n
  ne : ∀ a b, a < b → b < Pl.length → sq Pl a ≠ sq Pl b
/-- A word, 0 at some places. -/
def zerow (W Pl : List Nat) : List Nat := fillk W Pl (fun _ => 0) Pl.length
theorem zerow_length (W Pl : List Nat) : (zerow W Pl).length = W.length := fillk_length _ _ _ _
theorem zerow_by {W : List Nat} (Pl : List Nat) (hW : By W) : By (zerow W Pl) := fillk_by Pl hW (fun _ => by omega) _
/-- The equations: a row for each value that must be 0. -/
def mat (R Pl : List Nat) : Nat → Nat → Nat := fun i c => if c = Pl.length then ev R (ex i) else ex (i * (R.length - 1 - sq Pl c))
theorem mat_by {R : List Nat} (Pl : List Nat) (hR : By R) : Byf (mat R Pl) := fun i c => by unfold mat; split; exact ev_lt hR (ex_lt i); exact ex_lt _
theorem xor_zero_iff {a b : Nat} : a ^^^ b = 0 ↔ b = a := by
  constructor
  · intro h
    by_cases e : a = b
    · exact e.symm
    · exact absurd h (xor_ne e)
  · intro h; rw [h, Nat.xor_self]
theorem mat_sol {W Pl : List Nat} (hW : By W) (hP : Plc Pl W.length) {p : Nat} {v : Nat → Nat} (hv : ∀ c, v c < 256) :
    Solf (mat (zerow W Pl) Pl) p Pl.length v ↔ ∀ i, i < p → ev (fillk (zerow W Pl) Pl v Pl.length) (ex i) = 0 := by
  have hz : ∀ c, c < Pl.length → sq Pl c < (zerow W Pl).length ∧ sq (zerow W Pl) (sq Pl c) = 0 := fun c hc => by
    rw [zerow_length]
    exact ⟨hP.lt c hc, fillk_in W Pl _ Pl.length hP.ne hP.lt c hc⟩
  have key : ∀ i, ev (fillk (zerow W Pl) Pl v Pl.length) (ex i) = mat (zerow W Pl) Pl i Pl.length ^^^ dotf (mat (zerow W Pl) Pl i) v Pl.length := fun i => by
    rw [ev_fill (zerow_by Pl hW) hv i Pl.length hP.ne hz]
    unfold dotf
    congr 1
    · unfold mat; rw [if_pos rfl]
    · refine xs_congr _ fun c hc => ?_
      unfold mat
      rw [if_neg (by omega)]
  unfold Solf
  constructor
  · intro h i hi
    rw [key i, h i hi, Nat.xor_self]
  · intro h i hi
    have := h i hi
    rw [key i] at this
    exact xor_zero_iff.1 this

theorem sub_length : ∀ (L P : List Nat), L.Nodup → (∀ x ∈ L, x ∈ P) → L.length ≤ P.length
  | [], _, _, _ => Nat.zero_le _
  | a :: t, P, hn, h => by
    rw [List.nodup_cons] at hn
    have ha := h a (by simp)
    have := sub_length t (P.erase a) hn.2 fun x hx => by
      have hne : x ≠ a := fun e => hn.1 (e ▸ hx)
      exact (List.mem_erase_of_ne hne).2 (h x (by simp [hx]))
    rw [List.length_erase_of_mem ha] at this
    have := List.length_pos_of_mem ha
    simp only [List.length_cons]
    omega
/-- Two words that differ at some places alone. -/
theorem dif_places {A B Pl : List Nat} {n : Nat} (h : ∀ q, q < n → (∀ c, c < Pl.length → sq Pl c ≠ q) → sq A q = sq B q) : dif A B n ≤ Pl.length := by
  rw [dif_filter]
  refine sub_length _ _ (List.Pairwise.filter _ List.nodup_range) fun x hx => ?_
  rw [List.mem_filter, List.mem_range] at hx
  obtain ⟨hx1, hx2⟩ := hx
  by_cases hm : x ∈ Pl
  · exact hm
  · exfalso
    have := h x hx1 fun c hc e => hm (by rw [← e, sq_get Pl c hc]; exact List.getElem_mem hc)
    simp [this] at hx2

def gone (G : Nat → Nat → Nat) (m : Nat) : Nat → Bool
  | 0 => true
  | i + 1 => gone G m i && (decide (i < m) || decide (G i m = 0))
theorem gone_iff (G : Nat → Nat → Nat) (m : Nat) : ∀ H, gone G m H = true ↔ ∀ i, m ≤ i → i < H → G i m = 0
  | 0 => ⟨fun _ i _ h => absurd h (by omega), fun _ => rfl⟩
  | H + 1 => by
    rw [gone, Bool.and_eq_true, gone_iff G m H, Bool.or_eq_true, decide_eq_true_iff, decide_eq_true_iff]
    constructor
    · rintro ⟨h1, h2⟩ i hi hi2
      by_cases e : i = H
      · rw [e]
        rcases h2 with h2 | h2
        · omega
        · exact h2
      · exact h1 i hi (by omega)
    · intro h
      refine ⟨fun i hi hi2 => h i hi (by omega), ?_⟩
      by_cases e : H < m
      · exact Or.inl e
      · exact Or.inr (h H (by omega) (by omega))
/-- The document's Solve. -/
def solveF (W Pl : List Nat) (p : Nat) : Option (List Nat) :=
  (gs (mat (zerow W Pl) Pl) p Pl.length).bind fun G => if gone G Pl.length p then some (fillk (zerow W Pl) Pl (fun c => G c Pl.length) Pl.length) else none
/-- A word that is W but for some places. -/
def Agree (W Pl D : List Nat) : Prop := D.length = W.length ∧ By D ∧ ∀ q, (∀ c, c < Pl.length → sq Pl c ≠ q) → sq D q = sq W q
theorem fill_agree {W Pl : List Nat} (hW : By W) (hP : Plc Pl W.length) {v : Nat → Nat} (hv : ∀ c, v c < 256) : Agree W Pl (fillk (zerow W Pl) Pl v Pl.length) :=
  ⟨by rw [fillk_length, zerow_length], fillk_by Pl (zerow_by Pl hW) hv _, fun q hq => by
    rw [fillk_out _ Pl v q Pl.length hq fun c hc => by rw [zerow_length]; exact hP.lt c hc, zerow, fillk_out W Pl _ q Pl.length hq hP.lt]⟩
theorem fill_of {W Pl D : List Nat} (hP : Plc Pl W.length) (hD : Agree W Pl D) : fillk (zerow W Pl) Pl (fun c => sq D (sq Pl c)) Pl.length = D := by
  refine list_eq (by rw [fillk_length, zerow_length, hD.1]) fun q hq => ?_
  have hz : ∀ c, c < Pl.length → sq Pl c < (zerow W Pl).length := fun c hc => by rw [zerow_length]; exact hP.lt c hc
  by_cases h : ∃ c, c < Pl.length ∧ sq Pl c = q
  · obtain ⟨c, hc, rfl⟩ := h
    rw [fillk_in _ Pl _ Pl.length hP.ne hz c hc]
  · have h2 : ∀ c, c < Pl.length → sq Pl c ≠ q := fun c hc e => h ⟨c, hc, e⟩
    rw [fillk_out _ Pl _ q Pl.length h2 hz, zerow, fillk_out W Pl _ q Pl.length h2 hP.lt, hD.2.2 q h2]
/-- Of right words that are W but for at most p places there is at most one. -/
theorem agree_one {W Pl D D' : List Nat} {p : Nat} (hn : W.length ≤ 255) (hm : Pl.length ≤ p) (h1 : Agree W Pl D) (h2 : Agree W Pl D') (r1 : allz (vals D p) = true) (r2 : allz (vals D' p) = true) : D = D' :=
  far_dif h1.2.1 h2.2.1 (by rw [h1.1, h2.1]) (by rw [h1.1]; exact hn) (Nat.le_trans (dif_places fun q _ hq => by rw [h1.2.2 q hq, h2.2.2 q hq]) hm) r1 r2
theorem solveF_some {W Pl D : List Nat} {p : Nat} (hW : By W) (hP : Plc Pl W.length) (hm : Pl.length ≤ p) (h : solveF W Pl p = some D) : Agree W Pl D ∧ allz (vals D p) = true := by
  unfold solveF at h
  cases hg : gs (mat (zerow W Pl) Pl) p Pl.length with
  | none => rw [hg] at h; cases h
  | some G =>
    rw [hg] at h
    simp only [Option.bind_some] at h
    obtain ⟨h1, h2, h3, h4⟩ := gs_some (mat_by Pl (zerow_by Pl hW)) _ G hg
    by_cases hz : gone G Pl.length p = true
    · rw [if_pos hz] at h
      cases h
      have hv : ∀ c, (fun c => G c Pl.length) c < 256 := fun c => h2 c _
      refine ⟨fill_agree hW hP hv, allz_zero.2 ?_⟩
      exact (mat_sol hW hP hv).1 ((h4 _ _ hv).1 ((uni_end h3 hm hv).2 ⟨fun _ _ => rfl, (gone_iff G _ p).1 hz⟩))
    · rw [if_neg hz] at h; cases h
theorem solveF_none {W Pl : List Nat} {p : Nat} (hW : By W) (hn : W.length ≤ 255) (hP : Plc Pl W.length) (hm : Pl.length ≤ p) (h : solveF W Pl p = none) {D : List Nat} (hD : Agree W Pl D) : allz (vals D p) = false := by
  cases hr : allz (vals D p) with
  | false => rfl
  | true =>
    exfalso
    have hv : ∀ c, (fun c => sq D (sq Pl c)) c < 256 := fun c => hD.2.1.sq _
    have hs : Solf (mat (zerow W Pl) Pl) p Pl.length fun c => sq D (sq Pl c) := (mat_sol hW hP hv).2 (by rw [fill_of hP hD]; exact allz_zero.1 hr)
    unfold solveF at h
    cases hg : gs (mat (zerow W Pl) Pl) p Pl.length with
    | none =>
      obtain ⟨v', q1, q2, c, hc, q3⟩ := gs_none (mat_by Pl (zerow_by Pl hW)) Pl.length (Nat.le_refl _) hg _ hv hs
      have e := agree_one hn hm (fill_agree hW hP q1) hD (allz_zero.2 ((mat_sol hW hP q1).1 q2)) hr
      have hz : ∀ c, c < Pl.length → sq Pl c < (zerow W Pl).length := fun c hc => by rw [zerow_length]; exact hP.lt c hc
      have := fillk_in (zerow W Pl) Pl v' Pl.length hP.ne hz c hc
      rw [e] at this
      exact q3 this.symm
    | some G =>
      rw [hg] at h
      simp only [Option.bind_some] at h
      obtain ⟨h1, h2, h3, h4⟩ := gs_some (mat_by Pl (zerow_by Pl hW)) _ G hg
      have hz := ((uni_end h3 hm hv).1 ((h4 _ _ hv).2 hs)).2
      rw [if_pos ((gone_iff G _ p).2 hz)] at h
      cases h
/-- The document's Encode. -/
theorem solveF_code {X : List Nat} (hX : By X) {p : Nat} (hn : X.length + p ≤ 255) : solveF (X ++ List.replicate p 0) (tab p fun c => X.length + c) p = some (code X p) := by
  have hW : By (X ++ List.replicate p 0) := fun x hx => by
    rcases List.mem_append.1 hx with h | h
    · exact hX x h
    · rw [(List.mem_replicate.1 h).2]; omega
  have hWl : (X ++ List.replicate p 0).length = X.length + p := by simp
  have hs : ∀ c, c < p → sq (tab p fun c => X.length + c) c = X.length + c := fun c hc => by rw [sq_tab, if_pos hc]
  have hP : Plc (tab p fun c => X.length + c) (X ++ List.replicate p 0).length := ⟨fun c hc => by rw [tab_length] at hc; rw [hs c hc, hWl]; omega, fun a b hab hb => by rw [tab_length] at hb; rw [hs a (by omega), hs b hb]; omega⟩
  have hA : Agree (X ++ List.replicate p 0) (tab p fun c => X.length + c) (code X p) := by
    refine ⟨by rw [code_length X hX, hWl], code_by X hX p, fun q hq => ?_⟩
    by_cases h : q < X.length
    · rw [code, sq_append _ _ _ h, sq_append _ _ _ h]
    · by_cases h2 : q < X.length + p
      · exact absurd (hs (q - X.length) (by omega)) (by rw [show X.length + (q - X.length) = q by omega]; exact hq _ (by rw [tab_length]; omega))
      · rw [sq_out _ _ (by rw [code_length X hX]; omega), sq_out _ _ (by rw [hWl]; omega)]
  have hm : (tab p fun c => X.length + c).length ≤ p := by rw [tab_length]; exact Nat.le_refl _
  cases h : solveF (X ++ List.replicate p 0) (tab p fun c => X.length + c) p with
  | none =>
    have := solveF_none hW (by rw [hWl]; exact hn) hP hm h hA
    rw [code_right hX] at this
    cases this
  | some D =>
    obtain ⟨h1, h2⟩ := solveF_some hW hP hm h
    rw [agree_one (by rw [hWl]; exact hn) hm h1 hA h2 (code_right hX p)]

end RsMath

/- append(s, make([]T, m)...), s a slice of one's own. -/
namespace Go.Proofs.Ytjlmhnkfldcjoaa
open Go.RowKit
section
variable {P : Program}
theorem zeroCells_one (v : Value) (m : Nat) : Builtin.zeroCells #[v] m = (List.replicate m v).toArray := by
  apply Array.ext'
  simp only [Builtin.zeroCells, Array.toList_map, Array.toList_range]
  apply List.ext_getElem
  · simp
  · intro i h1 h2
    simp [Nat.mod_one]
theorem run_append_made_own (w : World) (base : Nat) (t u ty e : TypeId) (i : TypeInfo) (z : Value) (k : IntKind) (ht : P.underlying t = some (.slice e)) (hu : P.underlying u = some (.int k)) (hi : P.info? e = some i) (hz : i.zero = some z) (hs : i.size = 1)
    (hzc : z.cells = #[z]) (h1 : z.oneCell' = true) (v : Value) (n : Nat) (xs : List Value) (hown : w.ownsRow base e 1 v n xs) (m : Nat) (h0 : 0 < m) (hn : n + m ≤ 1099511627776) (hb : i.bytes ≤ 64) (hbase : base ≤ w.heap.size) :
    ∃ v' w', (Builtin.append_ #[t, u] ty #[v, .int .i64 (m : Int)]).run P w = .ok v' w' ∧ w'.ownsRow base e 1 v' (n + m) (xs ++ List.replicate m z) ∧ w.grownBy w' v.ownBlock := by
  have hm0 : m ≠ 0 := by omega
  have hw : IntKind.i64.wrap (m : Int) = (m : Int) := by rw [IntKind.wrap_i64]; omega
  have hpos : ¬ (m : Int) < 0 := by omega
  have hb1 : m * i.bytes ≤ 1099511627776 * 64 := Nat.mul_le_mul (by omega) hb
  have hb2 : ¬ (281474976710656 < (m : Int) * (i.bytes : Int)) := by
    have : ((m * i.bytes : Nat) : Int) ≤ 281474976710656 := by omega
    rw [Int.natCast_mul] at this
    omega
  have hlen : (xs ++ List.replicate m z).length = n + m := by
    have h2 := hown.1
    rw [List.length_append, List.length_replicate]
    omega
  have hml : n + m ≤ maxLen := by unfold maxLen; omega
  have grown : ∀ (old : Nat), old < n + m → ∀ (row : Option Nat),
      (w.drew.alloc (.cells (xs.toArray ++ (List.replicate m z).toArray ++ Builtin.zeroCells z.cells (grownCap w (n + m) old e - (n + m))) e)).ownsRow base e 1
        (.slice (some ⟨w.heap.size, 0, none⟩) (n + m) (grownCap w (n + m) old e)) (n + m) (xs ++ List.replicate m z) ∧
      w.grownBy (w.drew.alloc (.cells (xs.toArray ++ (List.replicate m z).toArray ++ Builtin.zeroCells z.cells (grownCap w (n + m) old e - (n + m))) e)) row := by
    intro old ho row
    have hge := grownCap_ge w (n + m) old e
    have hcm : grownCap w (n + m) old e ≤ maxLen := grownCap_le_maxLen w (n + m) old e hml
    have hxl : xs.length = n := by have := hown.1; omega
    refine ⟨⟨by rw [hlen]; omega, .inr ⟨w.heap.size, _, _, rfl, hbase, heap_alloc_new w.drew _, hge, hcm, ?_, ?_⟩⟩, ⟨rfl, rfl, rfl, by simp, fun q hq _ => heap_alloc_old w.drew _ hq⟩⟩
    · simp only [Array.size_append, List.size_toArray, size_zeroCells, hzc, List.length_replicate, hxl]
      simp
      omega
    · simp only [Array.toList_append, List.append_assoc, Nat.mul_one]
      rw [← List.append_assoc, ← hlen]
      exact List.take_left
  rcases hown.2 with ⟨rfl, rfl⟩ | ⟨g, cap, cur, rfl, hbg, hg, hnc, hcm, hcs, htake⟩
  · have hx : xs = [] := List.eq_nil_of_length_eq_zero (by simpa using hown.1)
    subst hx
    have hr := run_append_made (P := P) w t u ty e i z k ht hu hi hz hs m h0 (by omega) hb
    rw [hzc, zeroCells_one] at hr
    have hgr := grown 0 (by omega) (Value.ownBlock (.slice none 0 0))
    simp only [Nat.zero_add, List.nil_append, Array.empty_append, hzc] at hgr ⊢
    exact ⟨_, _, hr, hgr.1, hgr.2⟩
  · have hxl : xs.length = n := by have := hown.1; omega
    have hcs1 : cur.size = cap := by omega
    have h63n : ¬ ((9223372036854775807 : Int) < (n : Int) + (m : Int)) := by omega
    by_cases hroom : n + m ≤ cap
    · have hst := run_storeCells_at P g n e (List.replicate m z) 0 cur w hg (by simp; omega) (fun u hu => by rw [(List.mem_replicate.1 hu).2]; exact h1)
      simp only [Nat.add_zero] at hst
      refine ⟨.slice (some ⟨g, 0, none⟩) (n + m) cap, w.setRow g (cur.toList.take n ++ List.replicate m z ++ cur.toList.drop (n + m)).toArray, ?_, ⟨by rw [hlen]; omega, .inr ⟨g, cap, _, rfl, hbg, setRow_heap w g cur _ e _ hg, hroom, hcm, ?_, ?_⟩⟩, ⟨rfl, rfl, rfl, by simp, fun k _ hk => setRow_other w g k _ (fun e => hk (by simp [Value.ownBlock, e]))⟩⟩
      · simp [Builtin.append_, run_underlying ht, run_underlying hu, asInt, asIntOf, sizeOf, typeInfo, zeroValue, hi, hz, hs, hw, hpos, hb2, hm0, hroom, hzc, zeroCells_one, Addr.add_lit, hst]
      · simp only [List.size_toArray, List.length_append, List.length_take, List.length_drop, List.length_replicate, Array.length_toList]
        omega
      · rw [Nat.mul_one] at htake
        rw [htake, Nat.mul_one, ← hlen]
        exact List.take_left
    · have holds : ∀ j u, xs[j]? = some u → w.cell? ((⟨g, 0, none⟩ : Addr).add j) = some u := hown.cells (g := g) rfl
      have hf := run_firstCells_some (P := P) w.drew i.size n ⟨g, 0, none⟩ n cap xs (by rw [hs]; omega) (by simpa using holds)
      have hb3 : (n + m) * i.bytes ≤ 1099511627776 * 64 := Nat.mul_le_mul hn hb
      have h48 : ¬ (281474976710656 < Builtin.nextslicecap (n + m) cap * i.bytes) := by
        have := growslice_fits (need := n + m) (old := cap) (bytes := i.bytes) (by omega) (by omega)
        omega
      have hgr := grown cap (by omega) (Value.ownBlock (.slice (some ⟨g, 0, none⟩) n cap))
      refine ⟨_, _, ?_, hgr.1, hgr.2⟩
      simp [Builtin.append_, run_underlying ht, run_underlying hu, asInt, asIntOf, sizeOf, typeInfo, zeroValue, hi, hz, hs, hw, hpos, hb2, hm0, hroom, hzc, zeroCells_one, h63n, h48, Question.forced, newRow, grownCap]
      rw [hs] at hf
      rw [hf]
      rfl
/-- append(s, make([]T, m)...), the world behind under a letter. -/
theorem wpAppendMadeOwnK {ops : Array Oper} {rest : List Oper} {o : Oper} {a : Act} {w : World} {Q : Exit → Act → World → Prop} {base n m : Nat} {T U e : TypeId} {v zv : Value} {xs : List Value} (k : IntKind)
    (hown : w.ownsRow base e 1 v n xs) (hT : P.underlying T = some (.slice e)) (hU : P.underlying U = some (.int k)) (hz : (P.info? e).map (fun i => (i.zero, i.size, i.bytes)) = some (some zv, 1, 8) ∨ (P.info? e).map (fun i => (i.zero, i.size, i.bytes)) = some (some zv, 1, 1)) (hzc : zv.cells = #[zv]) (h1 : zv.oneCell' = true)
    (h0 : 0 < m) (hn : Big (n + m ≤ 1099511627776)) (hbase : base ≤ w.heap.size) (ho : appendOf o a = some (T, U, v, .int .i64 (m : Int)))
    (kk : ∀ v' w', w'.ownsRow base e 1 v' (n + m) (xs ++ List.replicate m zv) → w.grownBy w' v.ownBlock → wpList P ops Q rest (a.put o.dst v') w') : wpList P ops Q (o :: rest) a w := by
  obtain ⟨hg, x, y, hop, hx, hy⟩ := appendOf_spec ho
  cases hq : P.info? e with
  | none => rw [hq] at hz; rcases hz with h | h <;> cases h
  | some i =>
    rw [hq] at hz
    have hi : i.zero = some zv ∧ i.size = 1 ∧ i.bytes ≤ 64 := by
      rcases hz with h | h <;> simp only [Option.map_some, Option.some.injEq, Prod.mk.injEq] at h <;> exact ⟨h.1, h.2.1, by omega⟩
    obtain ⟨v', w', hr, h2, h3⟩ := run_append_made_own (P := P) w base T U o.type e i zv k hT hU hq hi.1 hi.2.1 hzc h1 v n xs hown m h0 hn.out hi.2.2 hbase
    refine wpList_plain hg fun K hK => ?_
    unfold Oper.wp execOp
    simp only [hop, resolve, invoke, builtin, Sem.run_bind, Sem.run_pure, Result.andThen_ok, List.map_toArray, List.map_cons, List.map_nil, hx, hy, hr]
    exact hK _ _ (kk _ _ h2 h3)
end
end Go.Proofs.Ytjlmhnkfldcjoaa

/- As region_store, where operations stand behind the one that writes, too. -/
namespace Go.Proofs.Ytjlmhnkfldcjoaa
open Go.RowKit

section
variable {P : Program} {ops : Array Oper} {Q : Exit → Act → World → Prop}

theorem region_storeT {id : Nat} {a : Act} {w : World} (s k : Nat) (X : List Nat) (hkX : k ∉ X) (D : List (Nat × Nat)) (φ : Nat → Value → World → Prop) (G : World → Prop) (H : Value → World → Prop) (hm : P.follows .mixedOrders = true)
    (hsz : s < ops.size) (hord : ordX ops = true) (hcl : ((List.range ops.size).all fun j => (j == s) || X.contains j || reachB ops ops.size s j) = true)
    (hD1 : D.map (·.1) = (List.range ops.size).filter fun j => j != s) (hD2 : (D.map (·.2)).Nodup) (hD3 : (D.all fun p => (ops[p.1]?.bind (·.dst)) == some p.2) = true) (hD4 : (D.all fun p => Nat.blt p.2 a.tmps.size) = true)
    (hS : (ops[s]?.map (·.dst)) = some none) (hmono : ∀ i v w w', φ i v w → Below w.heap.size w w' → φ i v w') (hG : G w.drew)
    (step : ∀ p ∈ D, waitsB ops p.1 s = false → ∀ u w, G w → Came ops φ u w p.1 →
      wpOp P ops Q p.1 (fun a' w' => a'.defers = (puts D a u).defers ∧ φ p.1 (a'.tmps.getD p.2 undef) w' ∧ G w' ∧ Below w.heap.size w w') (puts D a u) w)
    (stepX : ∀ p ∈ D, p.1 ∈ X → ∀ u w, H (u k) w → Came ops (fun i v _ => i ≠ s → ∃ w1, φ i v w1) u w p.1 →
      wpOp P ops Q p.1 (fun a' w' => a'.defers = (puts D a u).defers ∧ (∃ w1, φ p.1 (a'.tmps.getD p.2 undef) w1) ∧ H (u k) w') (puts D a u) w)
    (stepS : ∀ u w, G w → (∀ p ∈ D, p.1 ∉ X → φ p.1 (u p.1) w) → wpOp P ops Q s (fun a' w' => a'.defers = (puts D a u).defers ∧ H (u k) w') (puts D a u) w)
    (fin : ∀ u w, H (u k) w → (∀ p ∈ D, ∃ w1, φ p.1 (u p.1) w1) → Q .normal (puts D a u) w) : (Code.region id ops true).wp P Q a w := by
  refine wp_region_any hm ?_
  have hnd1 : (D.map (·.1)).Nodup := by rw [hD1]; exact List.nodup_range.filter _
  have hmemD : ∀ i, i < ops.size → i ≠ s → ∃ d, (i, d) ∈ D := fun i hi hne => by
    have : i ∈ D.map (·.1) := by rw [hD1]; exact List.mem_filter.2 ⟨List.mem_range.2 hi, by simpa using hne⟩
    obtain ⟨⟨i', d⟩, hp, rfl⟩ := List.mem_map.1 this
    exact ⟨d, hp⟩
  have hltD : ∀ p ∈ D, p.1 < ops.size ∧ p.1 ≠ s := fun p hp => by
    have : p.1 ∈ D.map (·.1) := List.mem_map.2 ⟨p, hp, rfl⟩
    rw [hD1] at this
    have h := List.mem_filter.1 this
    exact ⟨List.mem_range.1 h.1, by simpa using h.2⟩
  have hclX : ∀ j, j < ops.size → j ≠ s → j ∉ X → reachB ops ops.size s j = true := fun j hj hne hx => by
    have := List.all_eq_true.1 hcl j (List.mem_range.2 hj)
    rw [Bool.or_eq_true, Bool.or_eq_true] at this
    rcases this with (h | h) | h
    · exact absurd (by simpa using h) hne
    · exact absurd (by simpa using h) hx
    · exact h
  have hslot : ∀ p ∈ D, ∀ o, ops[p.1]? = some o → o.dst = some p.2 ∧ p.2 < a.tmps.size := fun p hp o ho => by
    have hd3 := List.all_eq_true.1 hD3 _ hp
    have hd4 := List.all_eq_true.1 hD4 _ hp
    simp only [ho, Option.bind_some, beq_iff_eq] at hd3
    exact ⟨hd3, by simp [Nat.blt] at hd4; omega⟩
  -- behind the write
  have keyB : ∀ (fuel : Nat) (listed : Array Bool) (w : World) (u : Nat → Value) (L : List Nat), listed.size = ops.size → L.length ≤ fuel → (∀ i, listed.getD i true = false → i ∈ L) → H (u k) w →
      (∀ i, listed.getD i true = false → i ≠ s ∧ i ∈ X) → (∀ i, i < ops.size → i ≠ s → listed.getD i true = true → ∃ w1, φ i (u i) w1) → wpAny P .any ops Q fuel listed (puts D a u) w := by
    intro fuel
    induction fuel with
    | zero =>
      intro listed w u L hs hL hin hh hX hφ
      have hall : ∀ i, listed.getD i true = true := fun i => by
        cases hi : listed.getD i true with
        | true => rfl
        | false => have := hin i hi; rw [List.length_eq_zero_iff.1 (Nat.le_zero.1 hL)] at this; cases this
      refine ⟨?_, fin u w hh fun p hp => hφ p.1 (hltD p hp).1 (hltD p hp).2 (hall _)⟩
      rw [List.eq_nil_iff_forall_not_mem]
      intro i hi
      have := (mem_ready.1 hi).2.1
      rw [hall i] at this
      cases this
    | succ fuel ih =>
      intro listed w u L hs hL hin hh hX hφ
      refine ⟨fun hr => fin u w hh fun p hp => hφ p.1 (hltD p hp).1 (hltD p hp).2 (all_listedX hord hs hr _), fun i hi => ?_⟩
      obtain ⟨h1, h2, o, ho, h3⟩ := mem_ready.1 hi
      obtain ⟨his, hiX⟩ := hX i h2
      obtain ⟨d, hp⟩ := hmemD i h1 his
      have hst := stepX _ hp hiX u w hh (fun o' ho' e he hb => by
        obtain rfl := Option.some.inj (ho'.symm.trans ho)
        have hl := h3 e he hb
        have hlt : e.on < ops.size := by
          rw [← hs]
          by_cases hl2 : e.on < listed.size
          · exact hl2
          · simp [Array.getD, hl2] at hl
        intro hes
        refine hφ e.on hlt hes ?_
        rw [getD_tf (by omega)]
        exact hl)
      obtain ⟨hd3, hd5⟩ := hslot _ hp o ho
      have hst2 := wpOp_value (R := fun v w' => (∃ w1, φ i v w1) ∧ H (u k) w') ho hd3 (by rw [puts_size]; exact hd5) hst
      refine wpOp_mono ?_ hst2
      rintro a' w' ⟨v, rfl, hv, hh'⟩
      rw [puts_put u i d v D a hnd1 hD2 hp]
      have eku : upd u i v k = u k := by simp [upd]; intro e; rw [e] at hkX; exact absurd hiX hkX
      refine ih _ w' (upd u i v) (L.erase i) (by simpa using hs) ?_ ?_ (by rw [eku]; exact hh') ?_ ?_
      · rw [List.length_erase_of_mem (hin i h2)]
        omega
      · intro j hj
        have hji : j ≠ i := fun e => by
          subst e
          have : j < listed.size := by omega
          simp [Array.getD, this] at hj
        rw [getD_set_other (Ne.symm hji)] at hj
        exact (List.mem_erase_of_ne hji).2 (hin j hj)
      · intro j hj
        have hji : j ≠ i := fun e => by
          subst e
          have : j < listed.size := by omega
          simp [Array.getD, this] at hj
        rw [getD_set_other (Ne.symm hji)] at hj
        exact hX j hj
      · intro j hj hjs hl
        by_cases hji : j = i
        · subst hji
          simpa [upd] using hv
        · have e1 : upd u i v j = u j := by simp [upd, hji]
          rw [e1]
          rw [getD_set_other (Ne.symm hji)] at hl
          exact hφ j hj hjs hl
  -- ahead of the write
  have keyA : ∀ (fuel : Nat) (listed : Array Bool) (w : World) (u : Nat → Value) (L : List Nat), listed.size = ops.size → L.length ≤ fuel → (∀ i, listed.getD i true = false → i ∈ L) → listed.getD s true = false → Anc ops listed → G w →
      (∀ i, i < ops.size → i ≠ s → listed.getD i true = true → φ i (u i) w) → wpAny P .any ops Q fuel listed (puts D a u) w := by
    intro fuel
    induction fuel with
    | zero =>
      intro listed w u L hs hL hin hns _ hg hφ
      have := hin s hns
      rw [List.length_eq_zero_iff.1 (Nat.le_zero.1 hL)] at this
      cases this
    | succ fuel ih =>
      intro listed w u L hs hL hin hns hanc hg hφ
      refine ⟨fun hr => ?_, fun i hi => ?_⟩
      · have := all_listedX hord hs hr s
        rw [hns] at this
        cases this
      · obtain ⟨h1, h2, o, ho, h3⟩ := mem_ready.1 hi
        have hancn : Anc ops (listed.setIfInBounds i true) := by
          intro j o' ho' hl e he hb
          by_cases ej : i = j
          · subst ej
            obtain rfl := Option.some.inj (ho'.symm.trans ho)
            have := h3 e he hb
            by_cases e2 : i = e.on
            · rw [← e2, getD_set_self (by omega)]
            · rw [getD_set_other e2]; exact this
          · rw [getD_set_other ej] at hl
            have := hanc j o' ho' hl e he hb
            by_cases e2 : i = e.on
            · rw [← e2, getD_set_self (by omega)]
            · rw [getD_set_other e2]; exact this
        by_cases his : i = s
        · subst his
          have hall : ∀ j, j < ops.size → j ≠ i → j ∉ X → listed.getD j false = true := fun j hj hne hx =>
            reach_listed hanc ops.size i j (fun o' ho' e he hb => by
              obtain rfl := Option.some.inj (ho'.symm.trans ho)
              exact h3 e he hb) (hclX j hj hne hx)
          have hod : o.dst = none := by
            rw [ho] at hS
            simpa using hS
          refine wpOp_mono ?_ (wpOp_none ho hod (stepS u w hg fun p hp hx => hφ p.1 (hltD p hp).1 (hltD p hp).2 (by rw [getD_tf (by have := (hltD p hp).1; omega)]; exact hall p.1 (hltD p hp).1 (hltD p hp).2 hx)))
          rintro a' w' ⟨rfl, hh⟩
          refine keyB fuel _ w' u (L.erase i) (by simpa using hs) ?_ ?_ hh ?_ ?_
          · rw [List.length_erase_of_mem (hin i h2)]
            omega
          · intro j hj
            have hji : j ≠ i := fun e => by
              subst e
              have : j < listed.size := by omega
              simp [Array.getD, this] at hj
            rw [getD_set_other (Ne.symm hji)] at hj
            exact (List.mem_erase_of_ne hji).2 (hin j hj)
          · intro j hj
            have hji : j ≠ i := fun e => by
              subst e
              have : j < listed.size := by omega
              simp [Array.getD, this] at hj
            rw [getD_set_other (Ne.symm hji)] at hj
            have hjl : j < listed.size := by
              by_cases hl : j < listed.size
              · exact hl
              · simp [Array.getD, hl] at hj
            refine ⟨hji, Classical.byContradiction fun hx => ?_⟩
            have := hall j (by omega) hji hx
            rw [← getD_tf hjl, hj] at this
            cases this
          · intro j hj hjs hl
            rw [getD_set_other (Ne.symm hjs)] at hl
            exact ⟨w, hφ j hj hjs hl⟩
        · obtain ⟨d, hp⟩ := hmemD i h1 his
          have hws : waitsB ops i s = false := by
            cases hw : waitsB ops i s with
            | false => rfl
            | true =>
              unfold waitsB at hw
              rw [ho] at hw
              simp only [Option.map_some, Option.getD_some, List.any_eq_true, Bool.and_eq_true, Nat.beq_eq] at hw
              obtain ⟨e, he, hb, rfl⟩ := hw
              have hl := h3 e he hb
              rw [← getD_tf (by omega), hns] at hl
              cases hl
          have hst := step _ hp hws u w hg (fun o' ho' e he hb => by
            obtain rfl := Option.some.inj (ho'.symm.trans ho)
            have hl := h3 e he hb
            have hlt : e.on < listed.size := by
              by_cases hl2 : e.on < listed.size
              · exact hl2
              · simp [Array.getD, hl2] at hl
            have hes : e.on ≠ s := fun e2 => by
              rw [e2] at hl
              rw [← getD_tf (by omega), hns] at hl
              cases hl
            refine hφ e.on (by omega) hes ?_
            rw [getD_tf hlt]
            exact hl)
          obtain ⟨hd3, hd5⟩ := hslot _ hp o ho
          have hst2 := wpOp_value (R := fun v w' => φ i v w' ∧ G w' ∧ Below w.heap.size w w') ho hd3 (by rw [puts_size]; exact hd5) hst
          refine wpOp_mono ?_ hst2
          rintro a' w' ⟨v, rfl, hv, hg', hb'⟩
          rw [puts_put u i d v D a hnd1 hD2 hp]
          refine ih _ w' (upd u i v) (L.erase i) (by simpa using hs) ?_ ?_ (by rw [getD_set_other his]; exact hns) hancn hg' ?_
          · rw [List.length_erase_of_mem (hin i h2)]
            omega
          · intro j hj
            have hji : j ≠ i := fun e => by
              subst e
              have : j < listed.size := by omega
              simp [Array.getD, this] at hj
            rw [getD_set_other (Ne.symm hji)] at hj
            exact (List.mem_erase_of_ne hji).2 (hin j hj)
          · intro j hj hjs hl
            by_cases hji : j = i
            · subst hji
              simpa [upd] using hv
            · have e1 : upd u i v j = u j := by simp [upd, hji]
              rw [e1]
              rw [getD_set_other (Ne.symm hji)] at hl
              exact hmono j _ w w' (hφ j hj hjs hl) hb'
  have hu : ∃ u : Nat → Value, puts D a u = a := by
    refine ⟨fun i => ((D.find? fun p => p.1 == i).map fun p => a.tmps.getD p.2 undef).getD undef, puts_self _ _ _ fun p hp => ?_⟩
    have : D.find? (fun q => q.1 == p.1) = some p := by
      clear fin step stepX stepS hD2 hD1 hD3 hD4 keyA keyB hmemD hltD hslot
      induction D with
      | nil => cases hp
      | cons q D ih =>
        rw [List.map_cons, List.nodup_cons] at hnd1
        rcases List.mem_cons.1 hp with rfl | hp
        · simp
        · have hne : (q.1 == p.1) = false := by
            rw [beq_eq_false_iff_ne]
            intro e
            exact hnd1.1 (List.mem_map.2 ⟨p, hp, e.symm⟩)
          rw [List.find?_cons, hne]
          exact ih hnd1.2 hp
    simp only [this, Option.map_some, Option.getD_some]
  obtain ⟨u, hu⟩ := hu
  have hfF : ∀ i, (Array.replicate ops.size false).getD i false = false := fun i => by
    by_cases h : i < ops.size <;> simp [Array.getD, h]
  have := keyA ops.size (Array.replicate ops.size false) w.drew u (List.range ops.size) (by simp) (by simp) (fun i hi => by
    rw [List.mem_range]
    by_cases hl : i < ops.size
    · exact hl
    · simp [Array.getD, hl] at hi) (by simp [Array.getD, hsz]) (fun i o _ hl => by rw [hfF] at hl; cases hl) hG (fun i hi _ hl => by
    simp [Array.getD, hi] at hl)
  rw [hu] at this
  exact this
end

end Go.Proofs.Ytjlmhnkfldcjoaa

/- A guarded operation whose guard holds, in a region that draws its order (for region_inv's steps). -/
namespace Go.Proofs.Ytjlmhnkfldcjoaa
open Go.RowKit
section
variable {P : Program} {ops : Array Oper} {Q : Exit → Act → World → Prop}
theorem put_get (a : Act) (d : Nat) (v : Value) (hs : d < a.tmps.size) : (a.put (some d) v).tmps.getD d undef = v := by simp [Act.put, hs]
theorem put_get_ne (a : Act) (d e : Nat) (v : Value) (h : e ≠ d) : (a.put (some d) v).tmps.getD e undef = a.tmps.getD e undef := by
  simp only [Act.put, Array.getD_eq_getD_getElem?, Array.getElem?_setIfInBounds]
  rw [if_neg (fun e' => h e'.symm)]
theorem puts_get_out (u : Nat → Value) : ∀ (D : List (Nat × Nat)) (a : Act) (d : Nat), (∀ p ∈ D, p.2 ≠ d) → (puts D a u).tmps.getD d undef = a.tmps.getD d undef
  | [], _, _, _ => rfl
  | p :: D, a, d, h => by
    show (puts D (a.put (some p.2) (u p.1)) u).tmps.getD d undef = _
    rw [puts_get_out u D _ d fun q hq => h q (List.mem_cons_of_mem _ hq), put_get_ne _ _ _ _ (fun e => h p (List.mem_cons_self ..) e.symm)]
theorem puts_get (u : Nat → Value) (i d : Nat) : ∀ (D : List (Nat × Nat)) (a : Act), (D.map (·.2)).Nodup → (i, d) ∈ D → Nat.blt d a.tmps.size = true → (puts D a u).tmps.getD d undef = u i
  | p :: D, a, hn, hm, hs0 => by
    have hs : d < a.tmps.size := Nat.blt_eq ▸ hs0
    rw [List.map_cons, List.nodup_cons] at hn
    show (puts D (a.put (some p.2) (u p.1)) u).tmps.getD d undef = _
    rcases List.mem_cons.1 hm with rfl | hm
    · rw [puts_get_out u D _ d fun q hq e => hn.1 (List.mem_map.2 ⟨q, hq, e⟩), put_get _ _ _ hs]
    · exact puts_get u i d D _ hn.2 hm (by simpa [Act.put] using hs0)
theorem puts_room (u : Nat → Value) {D : List (Nat × Nat)} {a : Act} {d : Nat} (h : Nat.blt d a.tmps.size = true) : d < (puts D a u).tmps.size := by rw [puts_size]; exact Nat.blt_eq ▸ h
theorem wpOp_guard {i : Nat} {o : Oper} {a : Act} {w : World} {K : Act → World → Prop} (ho : ops[i]? = some o) (j d : Nat) (b : Bool) (hgd : o.guard = some (j, b)) (hd : (ops[j]?).bind (·.dst) = some d) (hs : d < a.tmps.size) (hv : a.tmps.getD d undef = .bool b)
    (h : ∀ K' : Act → World → Prop, (∀ a w, K a w → K' a w) → o.wp P a w K' Q) : wpOp P ops Q i K a w := by
  have hy : yielded ops a.tmps j = some b := by
    unfold yielded
    rw [hd]
    have : a.tmps[d]? = some (.bool b) := by
      rw [Array.getD_eq_getD_getElem?] at hv
      rw [Array.getElem?_eq_getElem hs] at hv ⊢
      simpa using hv
    simp [this]
  unfold wpOp
  rw [ho]
  show if Region.wanted o (yielded ops a.tmps) = true then _ else _
  rw [if_pos (by unfold Region.wanted; rw [hgd]; simp [hy])]
  exact .inl (h K fun _ _ h => h)
theorem wpOp_skip {i : Nat} {o : Oper} {a : Act} {w : World} {K : Act → World → Prop} (ho : ops[i]? = some o) (j d : Nat) (b : Bool) (hgd : o.guard = some (j, b)) (hd : (ops[j]?).bind (·.dst) = some d) (hs : d < a.tmps.size) (hv : a.tmps.getD d undef = .bool !b)
    (h : K (a.put o.dst undef) w) : wpOp P ops Q i K a w := by
  have hy : yielded ops a.tmps j = some !b := by
    unfold yielded
    rw [hd]
    have : a.tmps[d]? = some (.bool !b) := by
      rw [Array.getD_eq_getD_getElem?] at hv
      rw [Array.getElem?_eq_getElem hs] at hv ⊢
      simpa using hv
    simp [this]
  unfold wpOp
  rw [ho]
  show if Region.wanted o (yielded ops a.tmps) = true then _ else _
  rw [if_neg (by unfold Region.wanted; rw [hgd]; cases b <;> simp [hy])]
  exact h
end
end Go.Proofs.Ytjlmhnkfldcjoaa
