/- The bytes at some places that make a word right: the document's Solve, as a function. No program. -/
import Derived.Test.YtpoipbngefcdnaaGreatRsMath3
namespace RsMath
open GfMath PolyMath
set_option linter.unusedVariables false

theorem ev_set {D : List Nat} (hD : By D) {q x : Nat} (hq : q < D.length) (hx : x < 256) (h0 : sq D q = 0) (i : Nat) : ev (D.set q x) (ex i) = ev D (ex i) ^^^ gm x (ex (i * (D.length - 1 - q))) := by
  have hS : By (D.set q x) := fun z hz => by
    rcases List.mem_or_eq_of_mem_set hz with h | h
    · exact hD z h
    · rw [h]; exact hx
  rw [ev_places hS, ev_places hD, List.length_set]
  have h1 : gm x (ex (i * (D.length - 1 - q))) = xs (fun j => gm (if j = q then x else 0) (ex (i * (D.length - 1 - j)))) D.length := by
    rw [xs_one _ D.length q hq fun c _ hne => by rw [if_neg hne, gm_zero_left], if_pos rfl]
  rw [h1, ← xs_xor]
  refine xs_congr _ fun j hj => ?_
  rw [← gm_add_left, sq_set D q x j hq]
  by_cases e : j = q
  · rw [if_pos e, if_pos e, e, h0, Nat.zero_xor]
  · rw [if_neg e, if_neg e, Nat.xor_zero]

/-- The first j places filled. -/
def fillk (R Pl : List Nat) (v : Nat → Nat) : Nat → List Nat
  | 0 => R
  | j + 1 => (fillk R Pl v j).set (sq Pl j) (v j)
theorem fillk_length (R Pl : List Nat) (v : Nat → Nat) : ∀ j, (fillk R Pl v j).length = R.length
  | 0 => rfl
  | j + 1 => by rw [fillk, List.length_set, fillk_length R Pl v j]
theorem fillk_by {R : List Nat} (Pl : List Nat) {v : Nat → Nat} (hR : By R) (hv : ∀ c, v c < 256) : ∀ j, By (fillk R Pl v j)
  | 0 => hR
  | j + 1 => fun z hz => by
    rcases List.mem_or_eq_of_mem_set hz with h | h
    · exact fillk_by Pl hR hv j z h
    · rw [h]; exact hv j
theorem fillk_out (R Pl : List Nat) (v : Nat → Nat) (q : Nat) : ∀ j, (∀ c, c < j → sq Pl c ≠ q) → (∀ c, c < j → sq Pl c < R.length) → sq (fillk R Pl v j) q = sq R q
  | 0, _, _ => rfl
  | j + 1, h, hl => by
    rw [fillk, sq_set _ _ _ _ (by rw [fillk_length]; exact hl j (by omega)), if_neg (fun e => h j (by omega) e.symm)]
    exact fillk_out R Pl v q j (fun c hc => h c (by omega)) fun c hc => hl c (by omega)
theorem fillk_in (R Pl : List Nat) (v : Nat → Nat) : ∀ j, (∀ a b, a < b → b < j → sq Pl a ≠ sq Pl b) → (∀ c, c < j → sq Pl c < R.length) → ∀ c, c < j → sq (fillk R Pl v j) (sq Pl c) = v c
  | 0, _, _, c, hc => absurd hc (by omega)
  | j + 1, h, hl, c, hc => by
    rw [fillk, sq_set _ _ _ _ (by rw [fillk_length]; exact hl j (by omega))]
    by_cases e : c = j
    · rw [e, if_pos rfl]
    · rw [if_neg (h c j (by omega) (by omega))]
      exact fillk_in R Pl v j (fun a b hab hb => h a b hab (by omega)) (fun c hc => hl c (by omega)) c (by omega)
theorem ev_fill {R Pl : List Nat} {v : Nat → Nat} (hR : By R) (hv : ∀ c, v c < 256) (i : Nat) : ∀ j, (∀ a b, a < b → b < j → sq Pl a ≠ sq Pl b) → (∀ c, c < j → sq Pl c < R.length ∧ sq R (sq Pl c) = 0) →
    ev (fillk R Pl v j) (ex i) = ev R (ex i) ^^^ xs (fun c => gm (ex (i * (R.length - 1 - sq Pl c))) (v c)) j
  | 0, _, _ => by rw [fillk]; exact (Nat.xor_zero _).symm
  | j + 1, h, hl => by
    have hz : sq (fillk R Pl v j) (sq Pl j) = 0 := by
      rw [fillk_out R Pl v _ j (fun c hc => h c j hc (by omega)) fun c hc => (hl c (by omega)).1]
      exact (hl j (by omega)).2
    rw [fillk, ev_set (fillk_by Pl hR hv j) (by rw [fillk_length]; exact (hl j (by omega)).1) (hv j) hz, ev_fill hR hv i j (fun a b hab hb => h a b hab (by omega)) (fun c hc => hl c (by omega)), fillk_length, Nat.xor_assoc, gm_comm (hv j) (ex_lt _)]
    rfl

/-- Unlike places of a word. -/
structure Plc (Pl : List Nat) (n : Nat) : Prop where
  lt : ∀ c, c < Pl.length → sq Pl c < n
  ne : ∀ a b, a < b → b < Pl.length → sq Pl a ≠ sq Pl b
/-- A word, 0 at some places. -/
def zerow (W Pl : List Nat) : List Nat := fillk W Pl (fun _ => 0) Pl.length
theorem zerow_length (W Pl : List Nat) : (zerow W Pl).length = W.length := fillk_length _ _ _ _
theorem zerow_by {W : List Nat} (Pl : List Nat) (hW : By W) : By (zerow W Pl) := fillk_by Pl hW (fun _ => by omega) _
/-- The equations: a row for each value that must be 0. -/
def mat (R Pl : List Nat) : Nat → Nat → Nat := fun i c => if c = Pl.length then ev R (ex i) else ex (i * (R.length - 1 - sq Pl c))
theorem mat_by {R : List Nat} (Pl : List Nat) (hR : By R) : Byf (mat R Pl) := fun i c => by unfold mat; split; exact ev_lt hR (ex_lt i); exact ex_lt _
theorem xor_zero_iff {a b : Nat} : a ^^^ b = 0 ↔ b = a := by
  constructor
  · intro h
    by_cases e : a = b
    · exact e.symm
    · exact absurd h (xor_ne e)
  · intro h; rw [h, Nat.xor_self]
theorem mat_sol {W Pl : List Nat} (hW : By W) (hP : Plc Pl W.length) {p : Nat} {v : Nat → Nat} (hv : ∀ c, v c < 256) :
    Solf (mat (zerow W Pl) Pl) p Pl.length v ↔ ∀ i, i < p → ev (fillk (zerow W Pl) Pl v Pl.length) (ex i) = 0 := by
  have hz : ∀ c, c < Pl.length → sq Pl c < (zerow W Pl).length ∧ sq (zerow W Pl) (sq Pl c) = 0 := fun c hc => by
    rw [zerow_length]
    exact ⟨hP.lt c hc, fillk_in W Pl _ Pl.length hP.ne hP.lt c hc⟩
  have key : ∀ i, ev (fillk (zerow W Pl) Pl v Pl.length) (ex i) = mat (zerow W Pl) Pl i Pl.length ^^^ dotf (mat (zerow W Pl) Pl i) v Pl.length := fun i => by
    rw [ev_fill (zerow_by Pl hW) hv i Pl.length hP.ne hz]
    unfold dotf
    congr 1
    · unfold mat; rw [if_pos rfl]
    · refine xs_congr _ fun c hc => ?_
      unfold mat
      rw [if_neg (by omega)]
  unfold Solf
  constructor
  · intro h i hi
    rw [key i, h i hi, Nat.xor_self]
  · intro h i hi
    have := h i hi
    rw [key i] at this
    exact xor_zero_iff.1 this

theorem sub_length : ∀ (L P : List Nat), L.Nodup → (∀ x ∈ L, x ∈ P) → L.length ≤ P.length
  | [], _, _, _ => Nat.zero_le _
  | a :: t, P, hn, h => by
    rw [List.nodup_cons] at hn
    have ha := h a (by simp)
    have := sub_length t (P.erase a) hn.2 fun x hx => by
      have hne : x ≠ a := fun e => hn.1 (e ▸ hx)
      exact (List.mem_erase_of_ne hne).2 (h x (by simp [hx]))
    rw [List.length_erase_of_mem ha] at this
    have := List.length_pos_of_mem ha
    simp only [List.length_cons]
    omega
/-- Two words that differ at some places alone. -/
theorem dif_places {A B Pl : List Nat} {n : Nat} (h : ∀ q, q < n → (∀ c, c < Pl.length → sq Pl c ≠ q) → sq A q = sq B q) : dif A B n ≤ Pl.length := by
  rw [dif_filter]
  refine sub_length _ _ (List.Pairwise.filter _ List.nodup_range) fun x hx => ?_
  rw [List.mem_filter, List.mem_range] at hx
  obtain ⟨hx1, hx2⟩ := hx
  by_cases hm : x ∈ Pl
  · exact hm
  · exfalso
    have := h x hx1 fun c hc e => hm (by rw [← e, sq_get Pl c hc]; exact List.getElem_mem hc)
    simp [this] at hx2

def gone (G : Nat → Nat → Nat) (m : Nat) : Nat → Bool
  | 0 => true
  | i + 1 => gone G m i && (decide (i < m) || decide (G i m = 0))
theorem gone_iff (G : Nat → Nat → Nat) (m : Nat) : ∀ H, gone G m H = true ↔ ∀ i, m ≤ i → i < H → G i m = 0
  | 0 => ⟨fun _ i _ h => absurd h (by omega), fun _ => rfl⟩
  | H + 1 => by
    rw [gone, Bool.and_eq_true, gone_iff G m H, Bool.or_eq_true, decide_eq_true_iff, decide_eq_true_iff]
    constructor
    · rintro ⟨h1, h2⟩ i hi hi2
      by_cases e : i = H
      · rw [e]
        rcases h2 with h2 | h2
        · omega
        · exact h2
      · exact h1 i hi (by omega)
    · intro h
      refine ⟨fun i hi hi2 => h i hi (by omega), ?_⟩
      by_cases e : H < m
      · exact Or.inl e
      · exact Or.inr (h H (by omega) (by omega))
/-- The document's Solve. -/
def solveF (W Pl : List Nat) (p : Nat) : Option (List Nat) :=
  (gs (mat (zerow W Pl) Pl) p Pl.length).bind fun G => if gone G Pl.length p then some (fillk (zerow W Pl) Pl (fun c => G c Pl.length) Pl.length) else none
/-- A word that is W but for some places. -/
def Agree (W Pl D : List Nat) : Prop := D.length = W.length ∧ By D ∧ ∀ q, (∀ c, c < Pl.length → sq Pl c ≠ q) → sq D q = sq W q
theorem fill_agree {W Pl : List Nat} (hW : By W) (hP : Plc Pl W.length) {v : Nat → Nat} (hv : ∀ c, v c < 256) : Agree W Pl (fillk (zerow W Pl) Pl v Pl.length) :=
  ⟨by rw [fillk_length, zerow_length], fillk_by Pl (zerow_by Pl hW) hv _, fun q hq => by
    rw [fillk_out _ Pl v q Pl.length hq fun c hc => by rw [zerow_length]; exact hP.lt c hc, zerow, fillk_out W Pl _ q Pl.length hq hP.lt]⟩
theorem fill_of {W Pl D : List Nat} (hP : Plc Pl W.length) (hD : Agree W Pl D) : fillk (zerow W Pl) Pl (fun c => sq D (sq Pl c)) Pl.length = D := by
  refine list_eq (by rw [fillk_length, zerow_length, hD.1]) fun q hq => ?_
  have hz : ∀ c, c < Pl.length → sq Pl c < (zerow W Pl).length := fun c hc => by rw [zerow_length]; exact hP.lt c hc
  by_cases h : ∃ c, c < Pl.length ∧ sq Pl c = q
  · obtain ⟨c, hc, rfl⟩ := h
    rw [fillk_in _ Pl _ Pl.length hP.ne hz c hc]
  · have h2 : ∀ c, c < Pl.length → sq Pl c ≠ q := fun c hc e => h ⟨c, hc, e⟩
    rw [fillk_out _ Pl _ q Pl.length h2 hz, zerow, fillk_out W Pl _ q Pl.length h2 hP.lt, hD.2.2 q h2]
/-- Of right words that are W but for at most p places there is at most one. -/
theorem agree_one {W Pl D D' : List Nat} {p : Nat} (hn : W.length ≤ 255) (hm : Pl.length ≤ p) (h1 : Agree W Pl D) (h2 : Agree W Pl D') (r1 : allz (vals D p) = true) (r2 : allz (vals D' p) = true) : D = D' :=
  far_dif h1.2.1 h2.2.1 (by rw [h1.1, h2.1]) (by rw [h1.1]; exact hn) (Nat.le_trans (dif_places fun q _ hq => by rw [h1.2.2 q hq, h2.2.2 q hq]) hm) r1 r2
theorem solveF_some {W Pl D : List Nat} {p : Nat} (hW : By W) (hP : Plc Pl W.length) (hm : Pl.length ≤ p) (h : solveF W Pl p = some D) : Agree W Pl D ∧ allz (vals D p) = true := by
  unfold solveF at h
  cases hg : gs (mat (zerow W Pl) Pl) p Pl.length with
  | none => rw [hg] at h; cases h
  | some G =>
    rw [hg] at h
    simp only [Option.bind_some] at h
    obtain ⟨h1, h2, h3, h4⟩ := gs_some (mat_by Pl (zerow_by Pl hW)) _ G hg
    by_cases hz : gone G Pl.length p = true
    · rw [if_pos hz] at h
      cases h
      have hv : ∀ c, (fun c => G c Pl.length) c < 256 := fun c => h2 c _
      refine ⟨fill_agree hW hP hv, allz_zero.2 ?_⟩
      exact (mat_sol hW hP hv).1 ((h4 _ _ hv).1 ((uni_end h3 hm hv).2 ⟨fun _ _ => rfl, (gone_iff G _ p).1 hz⟩))
    · rw [if_neg hz] at h; cases h
theorem solveF_none {W Pl : List Nat} {p : Nat} (hW : By W) (hn : W.length ≤ 255) (hP : Plc Pl W.length) (hm : Pl.length ≤ p) (h : solveF W Pl p = none) {D : List Nat} (hD : Agree W Pl D) : allz (vals D p) = false := by
  cases hr : allz (vals D p) with
  | false => rfl
  | true =>
    exfalso
    have hv : ∀ c, (fun c => sq D (sq Pl c)) c < 256 := fun c => hD.2.1.sq _
    have hs : Solf (mat (zerow W Pl) Pl) p Pl.length fun c => sq D (sq Pl c) := (mat_sol hW hP hv).2 (by rw [fill_of hP hD]; exact allz_zero.1 hr)
    unfold solveF at h
    cases hg : gs (mat (zerow W Pl) Pl) p Pl.length with
    | none =>
      obtain ⟨v', q1, q2, c, hc, q3⟩ := gs_none (mat_by Pl (zerow_by Pl hW)) Pl.length (Nat.le_refl _) hg _ hv hs
      have e := agree_one hn hm (fill_agree hW hP q1) hD (allz_zero.2 ((mat_sol hW hP q1).1 q2)) hr
      have hz : ∀ c, c < Pl.length → sq Pl c < (zerow W Pl).length := fun c hc => by rw [zerow_length]; exact hP.lt c hc
      have := fillk_in (zerow W Pl) Pl v' Pl.length hP.ne hz c hc
      rw [e] at this
      exact q3 this.symm
    | some G =>
      rw [hg] at h
      simp only [Option.bind_some] at h
      obtain ⟨h1, h2, h3, h4⟩ := gs_some (mat_by Pl (zerow_by Pl hW)) _ G hg
      have hz := ((uni_end h3 hm hv).1 ((h4 _ _ hv).2 hs)).2
      rw [if_pos ((gone_iff G _ p).2 hz)] at h
      cases h
/-- The document's Encode. -/
theorem solveF_code {X : List Nat} (hX : By X) {p : Nat} (hn : X.length + p ≤ 255) : solveF (X ++ List.replicate p 0) (tab p fun c => X.length + c) p = some (code X p) := by
  have hW : By (X ++ List.replicate p 0) := fun x hx => by
    rcases List.mem_append.1 hx with h | h
    · exact hX x h
    · rw [(List.mem_replicate.1 h).2]; omega
  have hWl : (X ++ List.replicate p 0).length = X.length + p := by simp
  have hs : ∀ c, c < p → sq (tab p fun c => X.length + c) c = X.length + c := fun c hc => by rw [sq_tab, if_pos hc]
  have hP : Plc (tab p fun c => X.length + c) (X ++ List.replicate p 0).length := ⟨fun c hc => by rw [tab_length] at hc; rw [hs c hc, hWl]; omega, fun a b hab hb => by rw [tab_length] at hb; rw [hs a (by omega), hs b hb]; omega⟩
  have hA : Agree (X ++ List.replicate p 0) (tab p fun c => X.length + c) (code X p) := by
    refine ⟨by rw [code_length X hX, hWl], code_by X hX p, fun q hq => ?_⟩
    by_cases h : q < X.length
    · rw [code, sq_append _ _ _ h, sq_append _ _ _ h]
    · by_cases h2 : q < X.length + p
      · exact absurd (hs (q - X.length) (by omega)) (by rw [show X.length + (q - X.length) = q by omega]; exact hq _ (by rw [tab_length]; omega))
      · rw [sq_out _ _ (by rw [code_length X hX]; omega), sq_out _ _ (by rw [hWl]; omega)]
  have hm : (tab p fun c => X.length + c).length ≤ p := by rw [tab_length]; exact Nat.le_refl _
  cases h : solveF (X ++ List.replicate p 0) (tab p fun c => X.length + c) p with
  | none =>
    have := solveF_none hW (by rw [hWl]; exact hn) hP hm h hA
    rw [code_right hX] at this
    cases this
  | some D =>
    obtain ⟨h1, h2⟩ := solveF_some hW hP hm h
    rw [agree_one (by rw [hWl]; exact hn) hm h1 hA h2 (code_right hX p)]

end RsMath
