/- Digests as words, and back, as plain mathematics. -/
import Derived.Test.YtbehbefijiaehaaDoorShaMath
namespace Go.Proofs.YtbehbefijiaehaaDoor.ShaMath

/-- The number of a digit; none of any other letter. -/
def digit? (c : UInt8) : Option Nat := if 48 ≤ c.toNat ∧ c.toNat ≤ 57 then some (c.toNat - 48) else if 97 ≤ c.toNat ∧ c.toNat ≤ 102 then some (c.toNat - 87) else none
def dv (c : UInt8) : Nat := (digit? c).getD 0
def digB (c : UInt8) : Bool := (digit? c).isSome
theorem digit_lt {c : UInt8} {v : Nat} (h : digit? c = some v) : v < 16 := by
  unfold digit? at h
  split at h
  · simp at h; omega
  · split at h
    · simp at h; omega
    · cases h
theorem digit_digs (c : UInt8) (v : Nat) (h : digit? c = some v) : digs.getD v 0 = c := by
  have key : ∀ n : Fin 256, ∀ v, digit? (UInt8.ofNat n.val) = some v → digs.getD v 0 = UInt8.ofNat n.val := by decide +kernel
  have := key ⟨c.toNat, c.toNat_lt⟩ v
  simp at this
  exact this h
theorem digs_digit (v : Nat) (h : v < 16) : digit? (digs.getD v 0) = some v := by
  have key : ∀ n : Fin 16, digit? (digs.getD n.val 0) = some n.val := by decide +kernel
  exact key ⟨v, h⟩

def nst (x c : UInt8) : UInt8 := (x <<< 4) ||| UInt8.ofNat (dv c)
/-- The bytes when the first i letters have gone into them. -/
def nibs (S : List UInt8) (i : Nat) : List UInt8 := (List.range 32).map fun j => (((S.take i).drop (2 * j)).take 2).foldl nst 0
theorem nibs_length (S : List UInt8) (i : Nat) : (nibs S i).length = 32 := by simp [nibs]
theorem nibs_get (S : List UInt8) (i j : Nat) (h : j < (nibs S i).length) : (nibs S i)[j] = (((S.take i).drop (2 * j)).take 2).foldl nst 0 := by simp [nibs]
theorem nibs_zero (S : List UInt8) : nibs S 0 = List.replicate 32 0 := by
  apply List.ext_getElem
  · simp [nibs]
  · intro j h1 h2
    rw [nibs_get, List.getElem_replicate, List.take_zero, List.drop_nil, List.take_nil]
    rfl
theorem nibs_step (S : List UInt8) (i : Nat) (hi : i < S.length) (hq : i / 2 < (nibs S i).length) :
    nibs S (i + 1) = (nibs S i).set (i / 2) (((nibs S i)[i / 2] <<< 4) ||| UInt8.ofNat (dv S[i])) := by
  apply List.ext_getElem
  · simp [nibs]
  · intro j h1 h2
    have hl : (S.take i).length = i := by simp; omega
    rw [List.getElem_set, nibs_get, List.take_succ_eq_append_getElem hi]
    by_cases e : i / 2 = j
    · rw [if_pos e]
      subst e
      rw [nibs_get, List.drop_append_of_le_length (by omega), List.take_append]
      have h3 : ((S.take i).drop (2 * (i / 2))).length = i % 2 := by rw [List.length_drop, hl]; omega
      rw [h3, List.take_of_length_le (l := [S[i]]) (by simp; omega), List.foldl_append]
      rfl
    · rw [if_neg e, nibs_get]
      congr 1
      by_cases hlt : 2 * j ≤ i
      · rw [List.drop_append_of_le_length (by omega), List.take_append_of_le_length]
        rw [List.length_drop, hl]
        omega
      · rw [List.drop_of_length_le (by simp; omega), List.drop_of_length_le (by omega)]

/-- Is it the word of a digest? -/
def wordB (S : List UInt8) : Bool := decide (S.length = 64) && S.all digB
theorem hex_get (Y : List UInt8) (j : Nat) (h : j < Y.length) : (hexB Y)[2 * j]? = some (digs.getD (Y[j].toNat / 16) 0) ∧ (hexB Y)[2 * j + 1]? = some (digs.getD (Y[j].toNat % 16) 0) := by
  induction Y generalizing j with
  | nil => simp at h
  | cons y Y ih =>
    have e : hexB (y :: Y) = digs.getD (y.toNat / 16) 0 :: digs.getD (y.toNat % 16) 0 :: hexB Y := rfl
    rw [e]
    match j with
    | 0 => exact ⟨rfl, rfl⟩
    | j + 1 =>
      have := ih j (by simpa using h)
      exact this
theorem byte_join (a b : Nat) (ha : a < 16) (hb : b < 16) : ((((0 : UInt8) <<< 4 ||| UInt8.ofNat a) <<< 4) ||| UInt8.ofNat b).toNat = 16 * a + b := by
  have key : ∀ x y : Fin 16, ((((0 : UInt8) <<< 4 ||| UInt8.ofNat x.val) <<< 4) ||| UInt8.ofNat y.val).toNat = 16 * x.val + y.val := by decide +kernel
  exact key ⟨a, ha⟩ ⟨b, hb⟩
theorem nibs_pair (S : List UInt8) (hS : S.length = 64) (j : Nat) (hj : j < 32) (h : j < (nibs S 64).length) :
    (nibs S 64)[j] = (((0 : UInt8) <<< 4 ||| UInt8.ofNat (dv (S[2 * j]'(by omega)))) <<< 4) ||| UInt8.ofNat (dv (S[2 * j + 1]'(by omega))) := by
  rw [nibs_get, List.take_of_length_le (l := S) (by omega), List.drop_eq_getElem_cons (by omega), List.take_succ_cons, List.drop_eq_getElem_cons (by omega), List.take_succ_cons, List.take_zero]
  rfl
theorem word_hex (S : List UInt8) (h : wordB S = true) : hexB (nibs S 64) = S := by
  unfold wordB at h
  simp only [Bool.and_eq_true, decide_eq_true_eq, List.all_eq_true] at h
  obtain ⟨hS, hd⟩ := h
  have hv : ∀ i (hi : i < S.length), dv S[i] < 16 ∧ digs.getD (dv S[i]) 0 = S[i] := by
    intro i hi
    have := hd S[i] (List.getElem_mem _)
    unfold digB at this
    obtain ⟨v, hv⟩ := Option.isSome_iff_exists.1 this
    have e : dv S[i] = v := by unfold dv; rw [hv]; rfl
    rw [e]
    exact ⟨digit_lt hv, digit_digs _ _ hv⟩
  apply List.ext_getElem?
  intro i
  have hlen : (nibs S 64).length = 32 := nibs_length S 64
  by_cases hi : i < 64
  · have hj : i / 2 < 32 := by omega
    have hg := hex_get (nibs S 64) (i / 2) (by omega)
    rw [nibs_pair S hS (i / 2) hj] at hg
    have v1 := hv (2 * (i / 2)) (by omega)
    have v2 := hv (2 * (i / 2) + 1) (by omega)
    rw [byte_join _ _ v1.1 v2.1] at hg
    rw [List.getElem?_eq_getElem (by omega : i < S.length)]
    by_cases e : i % 2 = 0
    · have ei : 2 * (i / 2) = i := by omega
      have := hg.1
      rw [show (16 * dv (S[2 * (i / 2)]'(by omega)) + dv (S[2 * (i / 2) + 1]'(by omega))) / 16 = dv (S[2 * (i / 2)]'(by omega)) by omega, v1.2] at this
      simpa [ei] using this
    · have ei : 2 * (i / 2) + 1 = i := by omega
      have := hg.2
      rw [show (16 * dv (S[2 * (i / 2)]'(by omega)) + dv (S[2 * (i / 2) + 1]'(by omega))) % 16 = dv (S[2 * (i / 2) + 1]'(by omega)) by omega, v2.2] at this
      simpa [ei] using this
  · rw [List.getElem?_eq_none (by rw [hexB_length, hlen]; omega), List.getElem?_eq_none (by omega)]
theorem hex_word (Y : List UInt8) (hY : Y.length = 32) : wordB (hexB Y) = true := by
  unfold wordB
  rw [hexB_length, hY, decide_eq_true rfl, Bool.true_and, List.all_eq_true]
  intro c hc
  rw [hexB, List.mem_flatMap] at hc
  obtain ⟨y, _, hc⟩ := hc
  have := y.toNat_lt
  simp only [List.mem_cons, List.not_mem_nil, or_false] at hc
  rcases hc with rfl | rfl
  · unfold digB; rw [digs_digit _ (by omega)]; rfl
  · unfold digB; rw [digs_digit _ (by omega)]; rfl
theorem hex_inj {X Y : List UInt8} (hX : X.length = 32) (hY : Y.length = 32) (h : hexB X = hexB Y) : X = Y := by
  apply List.ext_getElem
  · omega
  · intro j h1 h2
    have a := hex_get X j h1
    have b := hex_get Y j h2
    rw [h] at a
    have e1 := Option.some.inj (a.1.symm.trans b.1)
    have e2 := Option.some.inj (a.2.symm.trans b.2)
    have l1 := X[j].toNat_lt
    have l2 := Y[j].toNat_lt
    have f1 := congrArg digit? e1
    have f2 := congrArg digit? e2
    rw [digs_digit _ (by omega), digs_digit _ (by omega)] at f1
    rw [digs_digit _ (by omega), digs_digit _ (by omega)] at f2
    have g1 := Option.some.inj f1
    have g2 := Option.some.inj f2
    apply UInt8.toNat_inj.1
    omega
theorem word_back (Y : List UInt8) (hY : Y.length = 32) : nibs (hexB Y) 64 = Y := hex_inj (nibs_length _ _) hY (word_hex _ (hex_word Y hY))

end Go.Proofs.YtbehbefijiaehaaDoor.ShaMath
