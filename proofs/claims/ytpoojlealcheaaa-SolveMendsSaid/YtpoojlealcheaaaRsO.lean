/- The document's Solve: its rows in memory; the steps of each column. -/
import Derived.Test.YtpoojlealcheaaaB3
import Derived.Test.YtpoojlealcheaaaGfCX
import Derived.Test.YtpoojlealcheaaaGrow2
import Derived.Test.YtpoojlealcheaaaOpK
namespace Go.Proofs.Ytpoojlealcheaaa
open Go.RowKit GfMath PolyMath RsMath
set_option linter.unusedVariables false
set_option maxRecDepth 100000

/-! Mathematics of the loops. -/
theorem pivf_at {F : Nat → Nat → Nat} {H j a : Nat} (hjH : j ≤ H) (hj : j ≤ a) (ha : a ≤ H) (hz : ∀ i, j ≤ i → i < a → F i j = 0) (he : a = H ∨ F a j ≠ 0) : pivf F H j (H - j) = a := by
  rcases pivf_spec F H j (H - j) (by omega) with ⟨h1, h2⟩ | ⟨h1, h2, h3, h4⟩
  · rcases he with he | he
    · rw [h1, he]
    · by_cases e : a = H
      · rw [h1, e]
      · exact absurd (h2 a (by omega) (by omega)) he
  · rcases Nat.lt_trichotomy (pivf F H j (H - j)) a with h | h | h
    · exact absurd (hz _ (by omega) h) h3
    · exact h
    · rcases he with he | he
      · omega
      · exact absurd (h4 a (by omega) h) he
theorem gs_up {F : Nat → Nat → Nat} {H : Nat} {j : Nat} (h : gs F H j = none) : ∀ k, gs F H (j + k) = none
  | 0 => h
  | k + 1 => by
    show gs F H ((j + k) + 1) = none
    rw [gs, gs_up h k]
    rfl
/-- The pivot's row, its first c factors scaled. -/
def scalek (E : Nat → Nat → Nat) (j s c : Nat) : Nat → Nat → Nat := fun i q => if i = j ∧ q < c then gm (E j q) s else E i q
theorem scalek_zero (E : Nat → Nat → Nat) (j s : Nat) : scalek E j s 0 = E := by
  funext i q
  unfold scalek
  rw [if_neg (by omega)]
theorem scalek_at (E : Nat → Nat → Nat) (j s c : Nat) : scalek E j s c j c = E j c := by unfold scalek; rw [if_neg (by omega)]
theorem scalek_next (E : Nat → Nat → Nat) (j s c : Nat) (i q : Nat) : (if i = j ∧ q = c then gm (E j c) s else scalek E j s c i q) = scalek E j s (c + 1) i q := by
  unfold scalek
  by_cases h1 : i = j ∧ q = c
  · rw [if_pos h1, if_pos ⟨h1.1, by omega⟩, h1.2]
  · rw [if_neg h1]
    by_cases h2 : i = j ∧ q < c
    · rw [if_pos h2, if_pos ⟨h2.1, by omega⟩]
    · rw [if_neg h2, if_neg (by omega)]
theorem scalek_end (E : Nat → Nat → Nat) (j m : Nat) (i q : Nat) (hq : q ≤ m) : scalek E j (iv (E j j)) (m + 1) i q = scalef E j i q := by
  unfold scalek scalef
  by_cases h : i = j
  · rw [if_pos ⟨h, by omega⟩, if_pos h]
  · rw [if_neg (by omega), if_neg h]
/-- The first i rows cleared of column j, and the first c factors of row i. -/
def elimk (E : Nat → Nat → Nat) (j i c : Nat) : Nat → Nat → Nat := fun r q => if r ≠ j ∧ (r < i ∨ (r = i ∧ q < c)) then E r q ^^^ gm (E r j) (E j q) else E r q
theorem elimk_zero (E : Nat → Nat → Nat) (j : Nat) : elimk E j 0 0 = E := by
  funext r q
  unfold elimk
  rw [if_neg (by omega)]
theorem elimk_self (E : Nat → Nat → Nat) (j i c q : Nat) : elimk E j i c j q = E j q := by unfold elimk; rw [if_neg (by omega)]
theorem elimk_at (E : Nat → Nat → Nat) (j i c : Nat) : elimk E j i c i c = E i c := by unfold elimk; rw [if_neg (by omega)]
theorem elimk_at0 (E : Nat → Nat → Nat) (j i : Nat) : elimk E j i 0 i j = E i j := by unfold elimk; rw [if_neg (by omega)]
theorem elimk_next (E : Nat → Nat → Nat) (j i c : Nat) (hi : i ≠ j) (r q : Nat) : (if r = i ∧ q = c then E i c ^^^ gm (E i j) (E j c) else elimk E j i c r q) = elimk E j i (c + 1) r q := by
  unfold elimk
  by_cases h1 : r = i ∧ q = c
  · rw [if_pos h1, if_pos (by omega), h1.1, h1.2]
  · rw [if_neg h1]
    by_cases h2 : r ≠ j ∧ (r < i ∨ (r = i ∧ q < c))
    · rw [if_pos h2, if_pos (by omega)]
    · rw [if_neg h2, if_neg (by omega)]
theorem elimk_row (E : Nat → Nat → Nat) (j i m : Nat) (r q : Nat) (hq : q ≤ m) : elimk E j i (m + 1) r q = elimk E j (i + 1) 0 r q := by
  unfold elimk
  by_cases h : r ≠ j ∧ (r < i ∨ (r = i ∧ q < m + 1))
  · rw [if_pos h, if_pos (by omega)]
  · rw [if_neg h, if_neg (by omega)]
theorem elimk_skip (E : Nat → Nat → Nat) (j i : Nat) (h : i = j ∨ E i j = 0) (r q : Nat) : elimk E j i 0 r q = elimk E j (i + 1) 0 r q := by
  unfold elimk
  by_cases h1 : r ≠ j ∧ (r < i ∨ (r = i ∧ q < 0))
  · rw [if_pos h1, if_pos (by omega)]
  · rw [if_neg h1]
    by_cases h2 : r ≠ j ∧ (r < i + 1 ∨ (r = i + 1 ∧ q < 0))
    · rw [if_pos h2]
      have e : r = i := by omega
      rcases h with h | h
      · omega
      · rw [e, h, gm_zero_left, Nat.xor_zero]
    · rw [if_neg h2]
theorem elimk_end (E : Nat → Nat → Nat) (j H : Nat) (r q : Nat) (hr : r < H) : elimk E j H 0 r q = elimf E j r q := by
  unfold elimk elimf
  by_cases h : r = j
  · rw [if_neg (by omega), if_pos h, h]
  · rw [if_pos (by omega), if_neg h]
theorem gone_at (G : Nat → Nat → Nat) (m H i : Nat) (h1 : m ≤ i) (h2 : i < H) (h3 : G i m ≠ 0) : gone G m H = false := by
  cases h : gone G m H with
  | false => rfl
  | true => exact absurd ((gone_iff G m H).1 h i h1 h2) h3

/-! Rows in memory. -/
def heads (H m : Nat) (hb hc : Nat → Nat) : List Value := (List.range H).map fun i => .slice (some ⟨hb i, 0, none⟩) (m + 1) (hc i)
theorem heads_length (H m : Nat) (hb hc : Nat → Nat) : (heads H m hb hc).length = H := by simp [heads]
theorem heads_get (H m : Nat) (hb hc : Nat → Nat) (i : Nat) (h : i < H) : (heads H m hb hc)[i]? = some (.slice (some ⟨hb i, 0, none⟩) (m + 1) (hc i)) := by simp [heads, h]
theorem heads_snoc (H m : Nat) (hb hc : Nat → Nat) : heads (H + 1) m hb hc = heads H m hb hc ++ [.slice (some ⟨hb H, 0, none⟩) (m + 1) (hc H)] := by simp [heads, List.range_succ]
theorem heads_congr {H m : Nat} {hb hc hb' hc' : Nat → Nat} (h : ∀ i, i < H → hb i = hb' i ∧ hc i = hc' i) : heads H m hb hc = heads H m hb' hc' := by
  unfold heads
  refine List.map_congr_left fun i hi => ?_
  obtain ⟨h1, h2⟩ := h i (List.mem_range.1 hi)
  rw [h1, h2]
def swapn (f : Nat → Nat) (a b : Nat) : Nat → Nat := fun i => if i = a then f b else if i = b then f a else f i
theorem heads_swap (H m : Nat) (hb hc : Nat → Nat) (a b : Nat) (ha : a < H) (hb' : b < H) :
    ((heads H m hb hc).set a (.slice (some ⟨hb b, 0, none⟩) (m + 1) (hc b))).set b (.slice (some ⟨hb a, 0, none⟩) (m + 1) (hc a)) = heads H m (swapn hb a b) (swapn hc a b) := by
  apply List.ext_getElem?
  intro i
  by_cases hi : i < H
  · rw [heads_get _ _ _ _ i hi, List.getElem?_set, List.getElem?_set, List.length_set, heads_length]
    unfold swapn
    by_cases e1 : b = i
    · subst e1
      rw [if_pos rfl, if_pos hi]
      by_cases e2 : b = a
      · subst e2
        rw [if_pos rfl, if_pos rfl]
      · rw [if_neg e2, if_neg e2, if_pos rfl, if_pos rfl]
    · rw [if_neg e1]
      by_cases e2 : a = i
      · subst e2
        rw [if_pos rfl, if_pos hi, if_pos rfl, if_pos rfl]
      · have f1 : ¬ i = a := fun e => e2 e.symm
        have f2 : ¬ i = b := fun e => e1 e.symm
        simp only [if_neg e2, if_neg f1, if_neg f2]
        exact heads_get _ _ _ _ i hi
  · rw [List.getElem?_eq_none (by rw [List.length_set, List.length_set, heads_length]; omega), List.getElem?_eq_none (by rw [heads_length]; omega)]

structure Mt (w : World) (B o H m : Nat) (hb hc : Nat → Nat) (F : Nat → Nat → Nat) : Prop where
  outer : ∃ zs, Row w o 23 (heads H m hb hc ++ zs)
  inner : ∀ i, i < H → ∃ zs, Row w (hb i) 3 (nats (tab (m + 1) (F i)) ++ zs)
  inj : ∀ i j, i < H → j < H → hb i = hb j → i = j
  obase : B ≤ o
  ibase : ∀ i, i < H → B ≤ hb i
theorem mt_row_ne {w : World} {a b : Nat} {t t' : TypeId} {l l' : List Value} (h : Row w a t l) (h' : Row w b t' l') (hne : t ≠ t') : a ≠ b := by
  intro e
  subst e
  have : some (Obj.cells l.toArray t (0, 0)) = some (Obj.cells l'.toArray t' (0, 0)) := h.symm.trans h'
  injection this with this
  injection this with h1 h2 h3
  exact hne h2
section
variable {w : World} {B o H m : Nat} {hb hc : Nat → Nat} {F : Nat → Nat → Nat}
theorem Mt.head (h : Mt w B o H m hb hc F) (i : Nat) (hi : i < H) : w.cell? ⟨o, i, none⟩ = some (.slice (some ⟨hb i, 0, none⟩) (m + 1) (hc i)) := by
  obtain ⟨zs, h1⟩ := h.outer
  rw [h1.cell, List.getElem?_append_left (by rw [heads_length]; exact hi), heads_get _ _ _ _ i hi]
theorem Mt.cell (h : Mt w B o H m hb hc F) (i c : Nat) (hi : i < H) (hc' : c ≤ m) : w.cell? ⟨hb i, c, none⟩ = some (.int .i64 (F i c : Int)) := by
  obtain ⟨zs, h1⟩ := h.inner i hi
  rw [h1.cell, List.getElem?_append_left (by rw [nats_length, tab_length]; omega), nats_get _ _ (by rw [tab_length]; omega)]
  have := sq_get (tab (m + 1) (F i)) c (by rw [tab_length]; omega)
  rw [sq_tab, if_pos (by omega)] at this
  rw [← this]
theorem Mt.frozenO (h : Mt w B o H m hb hc F) (i : Nat) : w.frozen? ⟨o, i, none⟩ = false := by obtain ⟨zs, h1⟩ := h.outer; exact h1.frozen _
theorem Mt.frozenI (h : Mt w B o H m hb hc F) (i c : Nat) (hi : i < H) : w.frozen? ⟨hb i, c, none⟩ = false := by obtain ⟨zs, h1⟩ := h.inner i hi; exact h1.frozen _
theorem Mt.ne (h : Mt w B o H m hb hc F) (i : Nat) (hi : i < H) : hb i ≠ o := by
  obtain ⟨zs, h1⟩ := h.outer
  obtain ⟨ys, h2⟩ := h.inner i hi
  exact mt_row_ne h2 h1 (by decide)
theorem Mt.olt (h : Mt w B o H m hb hc F) : o < w.heap.size := by obtain ⟨zs, h1⟩ := h.outer; exact h1.lt
theorem Mt.ilt (h : Mt w B o H m hb hc F) (i : Nat) (hi : i < H) : hb i < w.heap.size := by obtain ⟨zs, h1⟩ := h.inner i hi; exact h1.lt
theorem Mt.step {w' : World} (h : Mt w B o H m hb hc F) (hbw : Below w.heap.size w w') : Mt w' B o H m hb hc F :=
  ⟨by obtain ⟨zs, h1⟩ := h.outer; exact ⟨zs, h1.step hbw⟩, fun i hi => by obtain ⟨zs, h1⟩ := h.inner i hi; exact ⟨zs, h1.step hbw⟩, h.inj, h.obase, h.ibase⟩
theorem Mt.congr {F' : Nat → Nat → Nat} (h : Mt w B o H m hb hc F) (he : ∀ i c, i < H → c ≤ m → F i c = F' i c) : Mt w B o H m hb hc F' :=
  ⟨h.outer, fun i hi => by
    obtain ⟨zs, h1⟩ := h.inner i hi
    have e : tab (m + 1) (F i) = tab (m + 1) (F' i) := tab_congr _ fun c hc => he i c hi (by omega)
    exact ⟨zs, by rw [← e]; exact h1⟩, h.inj, h.obase, h.ibase⟩
theorem Mt.far (h : Mt w B o H m hb hc F) (p : Addr) (v : Value) (h1 : o ≠ p.block) (h2 : ∀ i, i < H → hb i ≠ p.block) : Mt (w.setCell p v) B o H m hb hc F :=
  ⟨by obtain ⟨zs, q⟩ := h.outer; exact ⟨zs, q.far p v h1⟩, fun i hi => by obtain ⟨zs, q⟩ := h.inner i hi; exact ⟨zs, q.far p v (h2 i hi)⟩, h.inj, h.obase, h.ibase⟩
theorem Mt.set (h : Mt w B o H m hb hc F) (i c : Nat) (hi : i < H) (hcm : c ≤ m) (x : Nat) : Mt (w.setCell ⟨hb i, c, none⟩ (.int .i64 (x : Int))) B o H m hb hc (fun r q => if r = i ∧ q = c then x else F r q) := by
  refine ⟨?_, fun r hr => ?_, h.inj, h.obase, h.ibase⟩
  · obtain ⟨zs, q⟩ := h.outer
    exact ⟨zs, q.far _ _ (fun e => h.ne i hi e.symm)⟩
  · obtain ⟨zs, q⟩ := h.inner r hr
    by_cases e : r = i
    · subst e
      have q2 := q.set c (.int .i64 (x : Int))
      rw [List.set_append_left _ _ (by rw [nats_length, tab_length]; omega), nats_set] at q2
      refine ⟨zs, ?_⟩
      have e2 : (tab (m + 1) (F r)).set c x = tab (m + 1) (fun q => if r = r ∧ q = c then x else F r q) := by
        refine list_eq (by rw [List.length_set, tab_length, tab_length]) fun k hk => ?_
        rw [sq_set _ _ _ _ (by rw [tab_length]; omega), sq_tab, sq_tab]
        rw [List.length_set, tab_length] at hk
        rw [if_pos hk, if_pos hk]
        by_cases e3 : k = c
        · rw [if_pos e3, if_pos ⟨rfl, e3⟩]
        · rw [if_neg e3, if_neg (fun h => e3 h.2)]
      rw [← e2]
      exact q2
    · have e2 : (fun q => if r = i ∧ q = c then x else F r q) = F r := by funext q; rw [if_neg (fun h => e h.1)]
      rw [e2]
      exact ⟨zs, q.far _ _ (fun e3 => e (h.inj r i hr hi e3))⟩
theorem Mt.swap (h : Mt w B o H m hb hc F) (a b : Nat) (ha : a < H) (hbH : b < H) :
    Mt ((w.setCell ⟨o, a, none⟩ (.slice (some ⟨hb b, 0, none⟩) (m + 1) (hc b))).setCell ⟨o, b, none⟩ (.slice (some ⟨hb a, 0, none⟩) (m + 1) (hc a))) B o H m (swapn hb a b) (swapn hc a b) (swapf F a b) := by
  have hsw : ∀ i, i < H → ∃ r, r < H ∧ swapn hb a b i = hb r ∧ swapf F a b i = F r ∧ (r = if i = a then b else if i = b then a else i) := fun i hi => by
    unfold swapn swapf
    by_cases e1 : i = a
    · exact ⟨b, hbH, by rw [if_pos e1], by rw [if_pos e1], by rw [if_pos e1]⟩
    · by_cases e2 : i = b
      · exact ⟨a, ha, by rw [if_neg e1, if_pos e2], by rw [if_neg e1, if_pos e2], by rw [if_neg e1, if_pos e2]⟩
      · exact ⟨i, hi, by rw [if_neg e1, if_neg e2], by rw [if_neg e1, if_neg e2], by rw [if_neg e1, if_neg e2]⟩
  refine ⟨?_, fun i hi => ?_, fun i j hi hj e => ?_, h.obase, fun i hi => ?_⟩
  · obtain ⟨zs, q⟩ := h.outer
    have q2 := (q.set a (.slice (some ⟨hb b, 0, none⟩) (m + 1) (hc b))).set b (.slice (some ⟨hb a, 0, none⟩) (m + 1) (hc a))
    rw [List.set_append_left _ _ (by rw [heads_length]; exact ha), List.set_append_left _ _ (by rw [List.length_set, heads_length]; exact hbH), heads_swap _ _ _ _ a b ha hbH] at q2
    exact ⟨zs, q2⟩
  · obtain ⟨r, hr, e1, e2, _⟩ := hsw i hi
    rw [e1, e2]
    obtain ⟨zs, q⟩ := h.inner r hr
    exact ⟨zs, (q.far _ _ (h.ne r hr)).far _ _ (h.ne r hr)⟩
  · obtain ⟨r, hr, e1, _, e3⟩ := hsw i hi
    obtain ⟨r', hr', e1', _, e3'⟩ := hsw j hj
    rw [e1, e1'] at e
    have := h.inj r r' hr hr' e
    rw [e3, e3'] at this
    split at this <;> split at this <;> (try split at this) <;> (try split at this) <;> omega
  · obtain ⟨r, hr, e1, _⟩ := hsw i hi
    rw [e1]
    exact h.ibase r hr
theorem Mt.drew (h : Mt w B o H m hb hc F) : Mt w.drew B o H m hb hc F := h.step (by exact ⟨rfl, rfl, rfl, Nat.le_refl _, fun _ _ => rfl⟩)
end
theorem rexp_all (n : Nat) (w : World) (hn : n ≤ 100000) :
    Calls Try.prog 61 #[.int .i64 (n : Int)] w fun e w' => e = .returned (.int .i64 (ex n : Int)) ∧ w = w' := by
  obtain ⟨r, hr⟩ : ∃ r, r = n % 255 := ⟨_, rfl⟩
  have ht : (n : Int).tmod 255 = (r : Int) := by rw [show (n : Int).tmod 255 = ((n % 255 : Nat) : Int) from rfl, hr]
  have ht2 : (n : Int) % 255 = (r : Int) := by omega
  have HX : Hid (ex r = ex n) := Lib.hid (by rw [hr]; exact ex_mod n)
  have hr2 : r < 255 := by rw [hr]; exact Nat.mod_lt _ (by decide)
  clear hr
  go_enter Try.func61, Try.ntmps61
  go_wp2
  go_loop [3, 4] (fun p i => ∃ k : Nat, k ≤ r ∧ i = .int .i64 k ∧ p = .int .i64 (ex k : Int)) (fun _ i => r - (intOf i).toNat)
  case atStart => exact ⟨0, Nat.zero_le _, rfl, rfl⟩
  case round =>
    obtain ⟨k, hk, rfl, rfl⟩ := hrel
    by_cases hlt : k < r
    · have hk1 : (k : Int) < r := by omega
      have hx := ex_lt k
      have hst : gm (ex k) 2 = ex (k + 1) := by rw [(gm_two_all _ hx).1]; rfl
      have HM : Hid (∀ u, Calls Try.prog 63 #[.int .i64 (ex k : Int), .int .i64 2] u fun e w' => e = .returned (.int .i64 (ex (k + 1) : Int)) ∧ u = w') := Lib.hid fun u => by rw [← hst]; exact rmul_any (ex k) 2 u hx
      clear hst hx
      go_wp2_with (go_at_call 63; refine (HM.out _).mono ?_; rintro e w1 ⟨rfl, rfl⟩)
      go_round
      case rel => exact ⟨k + 1, by omega, by go_num, rfl⟩
      case measure => simp [intOf]; omega
    · have hge : ¬ (k : Int) < (r : Int) := by omega
      have HE : Hid (ex k = ex n) := Lib.hid (by rw [show k = r by omega, HX.out])
      clear hlt
      go_wp2
      go_ret
      exact ⟨ret_int (by rw [HE.out]), rfl⟩
end Go.Proofs.Ytpoojlealcheaaa
