/- Numbers in parts of 16 bits: their values; what fits. No program. -/
import Derived.Test.YtmphjmbnfaimiaaDoorShaRef
namespace Go.Proofs.YtmphjmbnfaimiaaDoor.ShaMath

/-- The value of parts of 16 bits, the lowest first. -/
def val : List Nat → Nat
  | [] => 0
  | d :: r => d + 65536 * val r
/-- All parts have 16 bits. -/
def Parts (l : List Nat) : Prop := ∀ d ∈ l, d < 65536
theorem val_lt : ∀ (l : List Nat), Parts l → val l < 65536 ^ l.length
  | [], _ => by simp [val]
  | d :: r, h => by
    have h1 := val_lt r (fun x hx => h x (by simp [hx]))
    have h2 := h d (by simp)
    rw [val, List.length_cons, Nat.pow_succ]
    omega
theorem val_append : ∀ (a b : List Nat), val (a ++ b) = val a + 65536 ^ a.length * val b
  | [], b => by simp [val]
  | d :: r, b => by
    rw [List.cons_append, val, val_append r b, val, List.length_cons, Nat.pow_succ, Nat.mul_add, ← Nat.mul_assoc, Nat.mul_comm (65536 ^ r.length), Nat.add_assoc]
theorem val_zeros (n : Nat) : val (List.replicate n 0) = 0 := by
  induction n with
  | zero => rfl
  | succ n ih => rw [List.replicate_succ, val, ih]
theorem val_split (l : List Nat) (k : Nat) (h : k ≤ l.length) : val l = val (l.take k) + 65536 ^ k * val (l.drop k) := by
  conv => lhs; rw [← List.take_append_drop k l]
  rw [val_append, List.length_take, Nat.min_eq_left h]
theorem val_set : ∀ (l : List Nat) (m : Nat) (h : m < l.length) (d : Nat), val (l.set m d) + 65536 ^ m * l[m] = val l + 65536 ^ m * d
  | e :: r, 0, _, d => by rw [List.set_cons_zero, val, val]; simp; omega
  | e :: r, m + 1, h, d => by
    have h1 := val_set r m (by simpa using h) d
    rw [List.set_cons_succ, val, val, List.getElem_cons_succ, Nat.pow_succ, Nat.mul_comm (65536 ^ m), Nat.mul_assoc, Nat.mul_assoc]
    omega
theorem Parts.set {l : List Nat} (h : Parts l) (m d : Nat) (hd : d < 65536) : Parts (l.set m d) := by
  intro x hx
  rcases List.mem_or_eq_of_mem_set hx with hx | hx
  · exact h x hx
  · rw [hx]; exact hd
theorem Parts.get {l : List Nat} (h : Parts l) (m : Nat) (hm : m < l.length) : l[m] < 65536 := h _ (List.getElem_mem hm)
theorem Parts.take {l : List Nat} (h : Parts l) (m : Nat) : Parts (l.take m) := fun x hx => h x (List.mem_of_mem_take hx)
theorem Parts.drop {l : List Nat} (h : Parts l) (m : Nat) : Parts (l.drop m) := fun x hx => h x (List.mem_of_mem_drop hx)
theorem Parts.zeros (n : Nat) : Parts (List.replicate n 0) := fun x hx => by
  rw [List.eq_of_mem_replicate hx]; omega

/-- One step of carrying: c is added at place m; what is left is carried to the next place. -/
theorem carry (l : List Nat) (m c X : Nat) (hm : m < l.length) (hX : val l + 65536 ^ m * c = X) :
    val (l.set m ((c + l[m]) % 65536)) + 65536 ^ (m + 1) * ((c + l[m]) / 65536) = X := by
  have h1 := val_set l m hm ((c + l[m]) % 65536)
  have h2 := Nat.mod_add_div (c + l[m]) 65536
  generalize (c + l[m]) % 65536 = r at *
  generalize (c + l[m]) / 65536 = q at *
  have h3 : 65536 ^ m * (r + 65536 * q) = 65536 ^ m * (c + l[m]) := by rw [h2]
  rw [Nat.mul_add, Nat.mul_add, ← Nat.mul_assoc, ← Nat.pow_succ] at h3
  show _ + 65536 ^ m.succ * q = X
  omega
/-- A place that carries lies within. -/
theorem carry_in (l : List Nat) (m c X n : Nat) (hX : val l + 65536 ^ m * c = X) (hn : X < 65536 ^ n) (hc : 0 < c) : m < n := by
  apply Classical.byContradiction
  intro h
  have h1 : 65536 ^ n ≤ 65536 ^ m := Nat.pow_le_pow_right (by omega) (by omega)
  have h2 : 65536 ^ m * 1 ≤ 65536 ^ m * c := Nat.mul_le_mul_left _ hc
  omega

/-- The three parts of a number. -/
def low3 (n : Nat) : List Nat := [n % 65536, n / 65536 % 65536, n / 4294967296]
theorem low3_val (n : Nat) : val (low3 n) = n := by simp [low3, val]; omega
theorem low3_parts (n : Nat) (h : n < 281474976710656) : Parts (low3 n) := by intro x hx; simp [low3] at hx; omega
/-- What has been added when i parts of a have been taken, and k parts of the other one with the next. -/
def upto (a : List Nat) (n i k : Nat) : Nat := val (a.take i) * n + 65536 ^ i * (a.getD i 0 * val ((low3 n).take k))
theorem upto_zero (a : List Nat) (n i : Nat) : upto a n i 0 = val (a.take i) * n := by simp [upto, val]
theorem upto_next (a : List Nat) (n i : Nat) (h : i < a.length) : upto a n i 3 = val (a.take (i + 1)) * n := by
  have e : val (a.take (i + 1)) = val (a.take i) + 65536 ^ i * a.getD i 0 := by
    rw [List.take_succ_eq_append_getElem h, val_append, List.length_take, Nat.min_eq_left (by omega), List.getD_eq_getElem?_getD, List.getElem?_eq_getElem h]
    simp [val]
  rw [upto, List.take_of_length_le (l := low3 n) (by simp [low3]), low3_val, e, Nat.add_mul, Nat.mul_assoc]
theorem upto_step (a : List Nat) (n i k : Nat) (hk : k < 3) : upto a n i (k + 1) = upto a n i k + 65536 ^ (i + k) * (a.getD i 0 * (low3 n).getD k 0) := by
  have e : val ((low3 n).take (k + 1)) = val ((low3 n).take k) + 65536 ^ k * (low3 n).getD k 0 := by
    have hl : k < (low3 n).length := by simp [low3]; omega
    rw [List.take_succ_eq_append_getElem hl, val_append, List.length_take, Nat.min_eq_left (by omega), List.getD_eq_getElem?_getD, List.getElem?_eq_getElem hl]
    simp [val]
  rw [upto, upto, e, Nat.mul_add, Nat.mul_add, Nat.pow_add, Nat.add_assoc]
  congr 2
  rw [Nat.mul_left_comm (a.getD i 0), Nat.mul_assoc]
theorem upto_lt (a : List Nat) (n i k : Nat) (ha : Parts a) (hi : i < a.length) (hn : n < 281474976710656) : upto a n i k < 65536 ^ (a.length + 4) := by
  have h1 : val (a.take i) < 65536 ^ i := by have := val_lt _ (ha.take i); rwa [List.length_take, Nat.min_eq_left (by omega)] at this
  have h2 : val ((low3 n).take k) ≤ n := by
    conv => rhs; rw [← low3_val n]
    by_cases hk : k ≤ 3
    · rw [val_split (low3 n) k (by simpa [low3] using hk)]; omega
    · rw [List.take_of_length_le (by simp [low3]; omega)]; omega
  have h3 : a.getD i 0 < 65536 := by
    rw [List.getD_eq_getElem?_getD, List.getElem?_eq_getElem hi]; exact ha.get i hi
  have h4 : a.getD i 0 * val ((low3 n).take k) ≤ 65535 * n := Nat.mul_le_mul (by omega) h2
  have h5 : val (a.take i) * n ≤ 65536 ^ i * n := Nat.mul_le_mul_right _ (by omega)
  have h6 : 65536 ^ i * (a.getD i 0 * val ((low3 n).take k)) ≤ 65536 ^ i * (65535 * n) := Nat.mul_le_mul_left _ h4
  have h7 : 65536 ^ i * n + 65536 ^ i * (65535 * n) = 65536 ^ i * (65536 * n) := by rw [← Nat.mul_add]; congr 1; omega
  have h8 : 65536 ^ i * (65536 * n) < 65536 ^ i * 65536 ^ 4 := Nat.mul_lt_mul_of_pos_left (by omega) (Nat.pow_pos (by omega))
  have h9 : 65536 ^ i * 65536 ^ 4 ≤ 65536 ^ (a.length + 4) := by rw [← Nat.pow_add]; exact Nat.pow_le_pow_right (by omega) (by omega)
  unfold upto
  omega

/-- What fits, by parts: at is where p stands. -/
theorem fits_high (l : List Nat) (at' p h : Nat) (hp : p < 1000000) (i : Nat) (hi : at' ≤ i) (hil : i ≤ l.length) (hh : val (l.drop i) = h) (hb : 1000000 < h) : ¬ val l ≤ p * 65536 ^ at' := by
  have h1 := val_split l i hil
  rw [hh] at h1
  have h2 : 65536 ^ at' ≤ 65536 ^ i := Nat.pow_le_pow_right (by omega) hi
  have h3 : 65536 ^ at' * h ≤ 65536 ^ i * h := Nat.mul_le_mul_right _ h2
  have h4 : 65536 ^ at' * (p + 1) ≤ 65536 ^ at' * h := Nat.mul_le_mul_left _ (by omega)
  have h5 : 0 < 65536 ^ at' := Nat.pow_pos (by omega)
  rw [Nat.mul_add, Nat.mul_one, Nat.mul_comm _ p] at h4
  omega
theorem fits_not (l : List Nat) (at' p : Nat) (hl : Parts l) (ha : at' ≤ l.length) (hne : val (l.drop at') ≠ p) : (val l ≤ p * 65536 ^ at') ↔ val (l.drop at') < p := by
  have h1 := val_split l at' ha
  have h2 : val (l.take at') < 65536 ^ at' := by have := val_lt _ (hl.take at'); rwa [List.length_take, Nat.min_eq_left ha] at this
  have h5 : 0 < 65536 ^ at' := Nat.pow_pos (by omega)
  generalize val (l.drop at') = h at *
  generalize 65536 ^ at' = B at *
  constructor
  · intro h3
    apply Classical.byContradiction
    intro h4
    have h6 : B * (p + 1) ≤ B * h := Nat.mul_le_mul_left _ (by omega)
    rw [Nat.mul_add, Nat.mul_one, Nat.mul_comm B p] at h6
    omega
  · intro h3
    have h6 : B * (h + 1) ≤ B * p := Nat.mul_le_mul_left _ (by omega)
    rw [Nat.mul_add, Nat.mul_one, Nat.mul_comm B p] at h6
    omega
theorem fits_some (l : List Nat) (at' p i : Nat) (ha : at' ≤ l.length) (he : val (l.drop at') = p) (hi : i < at') (hl : i < l.length) (hd : l[i] ≠ 0) : ¬ val l ≤ p * 65536 ^ at' := by
  have h1 := val_split l at' ha
  rw [he, Nat.mul_comm _ p] at h1
  have h2 : 0 < val (l.take at') := by
    have h3 := val_split (l.take at') i (by rw [List.length_take]; omega)
    have h4 : (l.take at').drop i = l[i] :: ((l.take at').drop (i + 1)) := by
      rw [List.drop_eq_getElem_cons (by rw [List.length_take]; omega), List.getElem_take]
    rw [h4, val] at h3
    have h5 : 0 < 65536 ^ i := Nat.pow_pos (by omega)
    have h6 : 65536 ^ i * 1 ≤ 65536 ^ i * (l[i] + 65536 * val ((l.take at').drop (i + 1))) := Nat.mul_le_mul_left _ (by omega)
    omega
  omega
theorem fits_all (l : List Nat) (at' p : Nat) (ha : at' ≤ l.length) (he : val (l.drop at') = p) (hz : ∀ i (h : i < l.length), i < at' → l[i] = 0) : val l ≤ p * 65536 ^ at' := by
  have h1 := val_split l at' ha
  have h2 : l.take at' = List.replicate at' 0 := by
    apply List.ext_getElem
    · rw [List.length_take, List.length_replicate]; omega
    · intro i h3 h4
      rw [List.getElem_take, List.getElem_replicate]
      rw [List.length_replicate] at h4
      exact hz i _ h4
  rw [h2, val_zeros, he, Nat.zero_add, Nat.mul_comm] at h1
  omega
theorem val_drop (l : List Nat) (i : Nat) (h : i < l.length) : val (l.drop i) = 65536 * val (l.drop (i + 1)) + l[i] := by
  rw [List.drop_eq_getElem_cons h, val]; omega
theorem fit_two (p x : Nat) : fitN true p x = decide (x * x ≤ p * 65536 ^ 4) := rfl
theorem fit_three (p x : Nat) : fitN false p x = decide (x * x * x ≤ p * 65536 ^ 6) := rfl

end Go.Proofs.YtmphjmbnfaimiaaDoor.ShaMath
