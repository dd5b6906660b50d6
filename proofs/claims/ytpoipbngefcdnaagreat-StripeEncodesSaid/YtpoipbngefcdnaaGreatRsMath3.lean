/- Equations over the field, solved step by step: rows as functions of the column, the right side in column m. No program. -/
import Derived.Test.YtpoipbngefcdnaaGreatB5
namespace RsMath
open GfMath PolyMath
set_option linter.unusedVariables false

def dotf (r v : Nat → Nat) (m : Nat) : Nat := xs (fun c => gm (r c) (v c)) m
def Solf (F : Nat → Nat → Nat) (H m : Nat) (v : Nat → Nat) : Prop := ∀ i, i < H → dotf (F i) v m = F i m
def swapf (F : Nat → Nat → Nat) (a b : Nat) : Nat → Nat → Nat := fun i => if i = a then F b else if i = b then F a else F i
def scalef (F : Nat → Nat → Nat) (j : Nat) : Nat → Nat → Nat := fun i c => if i = j then gm (F j c) (iv (F j j)) else F i c
def elimf (F : Nat → Nat → Nat) (j : Nat) : Nat → Nat → Nat := fun i c => if i = j then F j c else F i c ^^^ gm (F i j) (F j c)
def Byf (F : Nat → Nat → Nat) : Prop := ∀ i c, F i c < 256
def Uni (F : Nat → Nat → Nat) (H j : Nat) : Prop := ∀ c, c < j → ∀ i, i < H → F i c = if i = c then 1 else 0

theorem byf_swap {F : Nat → Nat → Nat} (h : Byf F) (a b : Nat) : Byf (swapf F a b) := fun i c => by unfold swapf; split; exact h _ _; split; exact h _ _; exact h _ _
theorem byf_scale {F : Nat → Nat → Nat} (h : Byf F) (j : Nat) : Byf (scalef F j) := fun i c => by unfold scalef; split; exact gm_lt (h _ _) (iv_lt _); exact h _ _
theorem byf_elim {F : Nat → Nat → Nat} (h : Byf F) (j : Nat) : Byf (elimf F j) := fun i c => by unfold elimf; split; exact h _ _; exact xor_lt (h _ _) (gm_lt (h _ _) (h _ _))
theorem dotf_lt {r v : Nat → Nat} (hr : ∀ c, r c < 256) (hv : ∀ c, v c < 256) (m : Nat) : dotf r v m < 256 := xs_lt m fun i _ => gm_lt (hr i) (hv i)

theorem sol_swap {F : Nat → Nat → Nat} {H m a b : Nat} (ha : a < H) (hb : b < H) (v : Nat → Nat) : Solf (swapf F a b) H m v ↔ Solf F H m v := by
  constructor
  · intro h i hi
    by_cases h1 : i = a
    · have := h b hb
      unfold swapf at this
      by_cases h2 : b = a
      · rw [if_pos h2, h2, ← h1] at this; exact this
      · rw [if_neg h2, if_pos rfl] at this; rw [h1]; exact this
    · by_cases h2 : i = b
      · have := h a ha
        unfold swapf at this
        rw [if_pos rfl] at this
        rw [h2]; exact this
      · have := h i hi
        unfold swapf at this
        rw [if_neg h1, if_neg h2] at this
        exact this
  · intro h i hi
    unfold swapf
    by_cases h1 : i = a
    · rw [if_pos h1]; exact h b hb
    · rw [if_neg h1]
      by_cases h2 : i = b
      · rw [if_pos h2]; exact h a ha
      · rw [if_neg h2]; exact h i hi

theorem dot_scale {F : Nat → Nat → Nat} (hF : Byf F) {v : Nat → Nat} (hv : ∀ c, v c < 256) (j m : Nat) (s : Nat) (hs : s < 256) : dotf (fun c => gm (F j c) s) v m = gm (dotf (F j) v m) s := by
  unfold dotf
  rw [xs_gm_right]
  refine xs_congr m fun c _ => ?_
  rw [gm_assoc (hF _ _) hs (hv c), gm_comm hs (hv c), ← gm_assoc (hF _ _) (hv c) hs]
theorem gm_right_cancel {a b c : Nat} (ha : a < 256) (hb : b < 256) (hc : c < 256) (h0 : c ≠ 0) (h : gm a c = gm b c) : a = b := by
  rw [gm_comm ha hc, gm_comm hb hc] at h
  exact gm_cancel hc ha hb h0 h
theorem iv_ne {a : Nat} (ha : a < 256) (h0 : a ≠ 0) : iv a ≠ 0 := fun e => by
  have := gm_iv ha h0
  rw [e, gm_zero_right] at this
  cases this
theorem sol_scale {F : Nat → Nat → Nat} (hF : Byf F) {H m j : Nat} (hj : j < H) (h0 : F j j ≠ 0) {v : Nat → Nat} (hv : ∀ c, v c < 256) : Solf (scalef F j) H m v ↔ Solf F H m v := by
  have hs : iv (F j j) < 256 := iv_lt _
  have key : dotf (scalef F j j) v m = gm (dotf (F j) v m) (iv (F j j)) := by
    rw [← dot_scale hF hv j m _ hs]
    exact xs_congr m fun c _ => by unfold scalef; rw [if_pos rfl]
  have other : ∀ i, i ≠ j → scalef F j i = F i := fun i hi => funext fun c => by unfold scalef; rw [if_neg hi]
  have rhs : scalef F j j m = gm (F j m) (iv (F j j)) := by unfold scalef; rw [if_pos rfl]
  constructor
  · intro h i hi
    by_cases e : i = j
    · subst e
      have := h i hi
      rw [key, rhs] at this
      exact gm_right_cancel (dotf_lt (hF i) hv m) (hF i m) hs (iv_ne (hF i i) h0) this
    · have := h i hi
      rw [other i e] at this
      exact this
  · intro h i hi
    by_cases e : i = j
    · subst e
      rw [key, rhs, h i hi]
    · rw [other i e]; exact h i hi

theorem sol_elim {F : Nat → Nat → Nat} (hF : Byf F) {H m j : Nat} (hj : j < H) {v : Nat → Nat} (hv : ∀ c, v c < 256) : Solf (elimf F j) H m v ↔ Solf F H m v := by
  have self : elimf F j j = F j := funext fun c => by unfold elimf; rw [if_pos rfl]
  have key : ∀ i, i ≠ j → dotf (elimf F j i) v m = dotf (F i) v m ^^^ gm (F i j) (dotf (F j) v m) := fun i hi => by
    unfold dotf
    rw [xs_gm, ← xs_xor]
    refine xs_congr m fun c _ => ?_
    unfold elimf
    rw [if_neg hi, gm_add_left, gm_assoc (hF _ _) (hF _ _) (hv c)]
  have rhs : ∀ i, i ≠ j → elimf F j i m = F i m ^^^ gm (F i j) (F j m) := fun i hi => by unfold elimf; rw [if_neg hi]
  have back : ∀ a b c : Nat, a ^^^ c = b ^^^ c → a = b := fun a b c h => by
    have := congrArg (· ^^^ c) h
    simpa [Nat.xor_assoc] using this
  constructor
  · intro h
    have hjj : dotf (F j) v m = F j m := by have := h j hj; rw [self] at this; exact this
    intro i hi
    by_cases e : i = j
    · rw [e]; exact hjj
    · have := h i hi
      rw [key i e, rhs i e, hjj] at this
      exact back _ _ _ this
  · intro h i hi
    by_cases e : i = j
    · rw [e, self]; exact h j hj
    · rw [key i e, rhs i e, h i hi, h j hj]

/-- One column: the pivot's row comes to its place, is scaled, and the column is cleared. -/
def stepf (F : Nat → Nat → Nat) (j at_ : Nat) : Nat → Nat → Nat := elimf (scalef (swapf F j at_) j) j
theorem byf_step {F : Nat → Nat → Nat} (h : Byf F) (j a : Nat) : Byf (stepf F j a) := byf_elim (byf_scale (byf_swap h _ _) _) _
theorem swap_at (F : Nat → Nat → Nat) (j a : Nat) : swapf F j a j = F a := by unfold swapf; rw [if_pos rfl]
theorem sol_step {F : Nat → Nat → Nat} (hF : Byf F) {H m j a : Nat} (hj : j < H) (ha : a < H) (h0 : F a j ≠ 0) {v : Nat → Nat} (hv : ∀ c, v c < 256) : Solf (stepf F j a) H m v ↔ Solf F H m v := by
  have hS := byf_swap hF j a
  rw [stepf, sol_elim (byf_scale hS j) hj hv, sol_scale hS hj (by rw [swap_at]; exact h0) hv, sol_swap hj ha]
theorem uni_step {F : Nat → Nat → Nat} (hF : Byf F) {H j a : Nat} (hj : j < H) (hja : j ≤ a) (ha : a < H) (h0 : F a j ≠ 0) (hU : Uni F H j) : Uni (stepf F j a) H (j + 1) := by
  have hS := byf_swap hF j a
  intro c hc i hi
  by_cases hcj : c = j
  · subst hcj
    have hp : scalef (swapf F c a) c c c = 1 := by
      unfold scalef
      rw [if_pos rfl, swap_at]
      exact gm_iv (hF a c) h0
    unfold stepf elimf
    by_cases e : i = c
    · subst e
      rw [if_pos rfl, if_pos rfl, hp]
    · rw [if_neg e, if_neg e, hp, gm_one (byf_scale hS c i c), Nat.xor_self]
  · have hc2 : c < j := by omega
    have hz : scalef (swapf F j a) j j c = 0 := by
      unfold scalef
      rw [if_pos rfl, swap_at, hU c hc2 a ha, if_neg (by omega), gm_zero_left]
    have hsame : swapf F j a i c = if i = c then 1 else 0 := by
      unfold swapf
      by_cases h1 : i = j
      · rw [if_pos h1, hU c hc2 a ha, if_neg (by omega), if_neg (by omega)]
      · rw [if_neg h1]
        by_cases h2 : i = a
        · rw [if_pos h2, hU c hc2 j hj, if_neg (by omega), if_neg (by omega)]
        · rw [if_neg h2]; exact hU c hc2 i hi
    unfold stepf elimf
    by_cases e : i = j
    · rw [if_pos e, hz, if_neg (by omega)]
    · rw [if_neg e, hz, gm_zero_right, Nat.xor_zero]
      unfold scalef
      rw [if_neg e]
      exact hsame

theorem xs_one (f : Nat → Nat) (m i : Nat) (hi : i < m) (h0 : ∀ c, c < m → c ≠ i → f c = 0) : xs f m = f i := by
  rw [show m = i + (1 + (m - i - 1)) by omega, xs_split, xs_zero i fun c hc => h0 c (by omega) (by omega), Nat.zero_xor, xs_split, xs_zero (m - i - 1) fun c hc => h0 (i + (1 + c)) (by omega) (by omega), Nat.xor_zero]
  show 0 ^^^ f (i + 0) = f i
  rw [Nat.zero_xor]
  rfl
/-- All columns cleared: the solution is the right side. -/
theorem uni_end {F : Nat → Nat → Nat} {H m : Nat} (hU : Uni F H m) (hm : m ≤ H) {v : Nat → Nat} (hv : ∀ c, v c < 256) :
    Solf F H m v ↔ (∀ i, i < m → v i = F i m) ∧ ∀ i, m ≤ i → i < H → F i m = 0 := by
  have hlow : ∀ i, i < m → dotf (F i) v m = v i := fun i hi => by
    unfold dotf
    rw [xs_one _ m i hi fun c hc hne => by rw [hU c hc i (by omega), if_neg (fun e => hne e.symm), gm_zero_left], hU i hi i (by omega), if_pos rfl, gm_one_left (hv i)]
  have hhigh : ∀ i, m ≤ i → i < H → dotf (F i) v m = 0 := fun i hi hi2 => xs_zero m fun c hc => by rw [hU c hc i hi2, if_neg (by omega), gm_zero_left]
  constructor
  · intro h
    exact ⟨fun i hi => by rw [← h i (by omega), hlow i hi], fun i hi hi2 => by rw [← h i hi2, hhigh i hi hi2]⟩
  · intro h i hi
    by_cases hc : i < m
    · rw [hlow i hc]; exact h.1 i hc
    · rw [hhigh i (by omega) hi, h.2 i (by omega) hi]
/-- A column without a pivot: each solution has another one beside it. -/
theorem uni_none {F : Nat → Nat → Nat} (hF : Byf F) {H m j : Nat} (hU : Uni F H j) (hj : j < m) (h0 : ∀ i, j ≤ i → i < H → F i j = 0) {v : Nat → Nat} (hv : ∀ c, v c < 256) (hs : Solf F H m v) :
    ∃ v' : Nat → Nat, (∀ c, v' c < 256) ∧ Solf F H m v' ∧ v' j ≠ v j := by
  let d : Nat → Nat := fun c => if c = j then 1 else if c < j ∧ c < H then F c j else 0
  have hd8 : ∀ c, d c < 256 := fun c => by show (if c = j then 1 else if c < j ∧ c < H then F c j else 0) < 256; split; omega; split; exact hF _ _; omega
  have hd : ∀ i, i < H → dotf (F i) d m = 0 := fun i hi => by
    unfold dotf
    rw [show m = j + (1 + (m - j - 1)) by omega, xs_split, xs_split]
    have e3 : xs (fun i_1 => gm (F i (j + (1 + i_1))) (d (j + (1 + i_1)))) (m - j - 1) = 0 := xs_zero _ fun c _ => by
      have : d (j + (1 + c)) = 0 := by show (if j + (1 + c) = j then 1 else if j + (1 + c) < j ∧ _ then _ else 0) = 0; rw [if_neg (by omega), if_neg (by omega)]
      rw [this, gm_zero_right]
    have e2 : xs (fun i_1 => gm (F i (j + i_1)) (d (j + i_1))) 1 = F i j := by
      show 0 ^^^ gm (F i (j + 0)) (d (j + 0)) = _
      have : d (j + 0) = 1 := by show (if j + 0 = j then 1 else _) = 1; rw [if_pos (show j + 0 = j from rfl)]
      rw [this, Nat.zero_xor, gm_one (hF _ _)]
      rfl
    rw [e3, Nat.xor_zero, e2]
    by_cases hij : i < j
    · have e1 : xs (fun c => gm (F i c) (d c)) j = F i j := by
        rw [xs_one _ j i hij fun c hc hne => by rw [hU c hc i hi, if_neg (fun e => hne e.symm), gm_zero_left], hU i hij i hi, if_pos rfl]
        have : d i = F i j := by show (if i = j then 1 else if i < j ∧ i < H then F i j else 0) = _; rw [if_neg (by omega), if_pos ⟨hij, hi⟩]
        rw [this, gm_one_left (hF _ _)]
      rw [e1, Nat.xor_self]
    · have e1 : xs (fun c => gm (F i c) (d c)) j = 0 := xs_zero _ fun c hc => by rw [hU c hc i hi, if_neg (by omega), gm_zero_left]
      rw [e1, h0 i (by omega) hi]
      rfl
  refine ⟨fun c => v c ^^^ d c, fun c => xor_lt (hv c) (hd8 c), fun i hi => ?_, ?_⟩
  · have : dotf (F i) (fun c => v c ^^^ d c) m = dotf (F i) v m ^^^ dotf (F i) d m := by
      unfold dotf
      rw [← xs_xor]
      exact xs_congr m fun c _ => gm_add_right _ _ _
    rw [this, hd i hi, Nat.xor_zero, hs i hi]
  · show v j ^^^ d j ≠ v j
    have : d j = 1 := by show (if j = j then 1 else _) = 1; rw [if_pos rfl]
    rw [this]
    intro e
    have h5 : v j ^^^ (v j ^^^ 1) = 0 := by rw [e, Nat.xor_self]
    rw [← Nat.xor_assoc, Nat.xor_self, Nat.zero_xor] at h5
    cases h5

/-- The first row from j on whose factor in column j isn't 0; H: there is none. -/
def pivf (F : Nat → Nat → Nat) (H j : Nat) : Nat → Nat
  | 0 => H
  | n + 1 => if F (H - (n + 1)) j ≠ 0 then H - (n + 1) else pivf F H j n
theorem pivf_spec (F : Nat → Nat → Nat) (H j : Nat) : ∀ n, n ≤ H → (pivf F H j n = H ∧ ∀ i, H - n ≤ i → i < H → F i j = 0) ∨ (H - n ≤ pivf F H j n ∧ pivf F H j n < H ∧ F (pivf F H j n) j ≠ 0 ∧ ∀ i, H - n ≤ i → i < pivf F H j n → F i j = 0)
  | 0, _ => Or.inl ⟨rfl, fun i h1 h2 => by omega⟩
  | n + 1, hn => by
    unfold pivf
    by_cases h : F (H - (n + 1)) j ≠ 0
    · rw [if_pos h]
      exact Or.inr ⟨by omega, by omega, h, fun i h1 h2 => by omega⟩
    · rw [if_neg h]
      have hz : F (H - (n + 1)) j = 0 := Classical.not_not.1 h
      have ext : ∀ b, (∀ i, H - n ≤ i → i < b → F i j = 0) → ∀ i, H - (n + 1) ≤ i → i < b → F i j = 0 := fun b hb i h1 h2 => by
        by_cases e : i = H - (n + 1)
        · rw [e]; exact hz
        · exact hb i (by omega) h2
      rcases pivf_spec F H j n (by omega) with h1 | h1
      · exact Or.inl ⟨h1.1, ext H h1.2⟩
      · exact Or.inr ⟨by omega, h1.2.1, h1.2.2.1, ext _ h1.2.2.2⟩
/-- The first j columns. -/
def gs (F : Nat → Nat → Nat) (H : Nat) : Nat → Option (Nat → Nat → Nat)
  | 0 => some F
  | j + 1 => (gs F H j).bind fun G => if pivf G H j (H - j) < H then some (stepf G j (pivf G H j (H - j))) else none
theorem gs_some {F : Nat → Nat → Nat} (hF : Byf F) {H : Nat} : ∀ (j : Nat) (G : Nat → Nat → Nat), gs F H j = some G → j ≤ H ∧ Byf G ∧ Uni G H j ∧ ∀ m v, (∀ c, v c < 256) → (Solf G H m v ↔ Solf F H m v)
  | 0, G, h => by
    cases h
    exact ⟨Nat.zero_le _, hF, fun c hc => absurd hc (by omega), fun _ _ _ => Iff.rfl⟩
  | j + 1, G, h => by
    unfold gs at h
    cases hq : gs F H j with
    | none => rw [hq] at h; cases h
    | some E =>
      rw [hq] at h
      obtain ⟨h1, h2, h3, h4⟩ := gs_some hF j E hq
      simp only [Option.bind_some] at h
      by_cases hp : pivf E H j (H - j) < H
      · rw [if_pos hp] at h
        cases h
        have hj : j < H := by
          rcases pivf_spec E H j (H - j) (by omega) with q | q
          · omega
          · omega
        rcases pivf_spec E H j (H - j) (by omega) with q | q
        · omega
        · exact ⟨by omega, byf_step h2 _ _, uni_step h2 hj (by omega) q.2.1 q.2.2.1 h3, fun m v hv => by rw [sol_step h2 hj q.2.1 q.2.2.1 hv]; exact h4 m v hv⟩
      · rw [if_neg hp] at h; cases h
/-- No way on: each solution has another one. -/
theorem gs_none {F : Nat → Nat → Nat} (hF : Byf F) {H m : Nat} : ∀ j, j ≤ m → gs F H j = none → ∀ v : Nat → Nat, (∀ c, v c < 256) → Solf F H m v → ∃ v' : Nat → Nat, (∀ c, v' c < 256) ∧ Solf F H m v' ∧ ∃ c, c < m ∧ v' c ≠ v c
  | 0, _, h => by cases h
  | j + 1, hjm, h => fun v hv hs => by
    cases hq : gs F H j with
    | none => exact gs_none hF j (by omega) hq v hv hs
    | some E =>
      obtain ⟨h1, h2, h3, h4⟩ := gs_some hF j E hq
      unfold gs at h
      rw [hq] at h
      simp only [Option.bind_some] at h
      by_cases hp : pivf E H j (H - j) < H
      · rw [if_pos hp] at h; cases h
      · have hz : ∀ i, j ≤ i → i < H → E i j = 0 := by
          rcases pivf_spec E H j (H - j) (by omega) with q | q
          · intro i hi hi2; exact q.2 i (by omega) hi2
          · omega
        obtain ⟨v', g1, g2, g3⟩ := uni_none h2 h3 (by omega) hz hv ((h4 m v hv).2 hs)
        exact ⟨v', g1, (h4 m v' g1).1 g2, j, by omega, g3⟩

end RsMath
