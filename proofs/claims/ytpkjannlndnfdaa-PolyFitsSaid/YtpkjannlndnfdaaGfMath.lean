/- The field of 256 bytes as numbers: products of polynomials, powers of x, logs. No program. -/
namespace GfMath

/-- x times a polynomial. -/
def xt (p : Nat) : Nat := if p &&& 128 = 0 then p * 2 % 256 else (p * 2 % 256) ^^^ 29
/-- The powers of x. -/
def ex : Nat → Nat
  | 0 => 1
  | n + 1 => xt (ex n)
/-- The product of polynomials, k bits of the second one. -/
def cl (a b : Nat) : Nat → Nat
  | 0 => 0
  | k + 1 => if b >>> k % 2 = 1 then cl a b k ^^^ (a <<< k) else cl a b k
/-- What is left modulo the polynomial, k of the seven bits from above. -/
def rd (p : Nat) : Nat → Nat
  | 0 => p
  | k + 1 => if rd p k >>> (14 - k) % 2 = 1 then rd p k ^^^ (285 <<< (6 - k)) else rd p k
/-- The product. -/
def gm (a b : Nat) : Nat := rd (cl a b 8) 7

theorem cl_zero_right (a : Nat) : ∀ k, cl a 0 k = 0
  | 0 => rfl
  | k + 1 => by rw [cl, cl_zero_right a k]; simp
theorem rd_zero : ∀ k, rd 0 k = 0
  | 0 => rfl
  | k + 1 => by rw [rd, rd_zero k]; simp
theorem cl_add_right (a b c : Nat) : ∀ k, cl a (b ^^^ c) k = cl a b k ^^^ cl a c k
  | 0 => (Nat.xor_self 0).symm
  | k + 1 => by
    rw [cl, cl, cl, cl_add_right a b c k, Nat.shiftRight_xor_distrib]
    have h := @Nat.xor_mod_two_eq_one (b >>> k) (c >>> k)
    by_cases h1 : b >>> k % 2 = 1 <;> by_cases h2 : c >>> k % 2 = 1 <;> simp only [h1, h2, h, if_true, if_false, iff_true, not_true, not_false_iff, iff_self, iff_false]
    · rw [Nat.xor_assoc, ← Nat.xor_assoc (a <<< k), Nat.xor_comm (a <<< k), Nat.xor_assoc (cl a c k), Nat.xor_self, Nat.xor_zero]
    · rw [Nat.xor_assoc, Nat.xor_assoc, Nat.xor_comm (cl a c k)]
    · rw [Nat.xor_assoc]
theorem cl_add_left (a b c : Nat) : ∀ k, cl (a ^^^ b) c k = cl a c k ^^^ cl b c k
  | 0 => (Nat.xor_self 0).symm
  | k + 1 => by
    rw [cl, cl, cl, cl_add_left a b c k, Nat.shiftLeft_xor_distrib]
    split
    · rw [Nat.xor_assoc, Nat.xor_assoc, ← Nat.xor_assoc (cl b c k), ← Nat.xor_assoc (a <<< k), Nat.xor_comm (cl b c k)]
    · rfl
theorem rd_add (p q : Nat) : ∀ k, rd (p ^^^ q) k = rd p k ^^^ rd q k
  | 0 => rfl
  | k + 1 => by
    rw [rd, rd, rd, rd_add p q k, Nat.shiftRight_xor_distrib]
    have h := @Nat.xor_mod_two_eq_one (rd p k >>> (14 - k)) (rd q k >>> (14 - k))
    generalize (285 <<< (6 - k)) = m
    by_cases h1 : rd p k >>> (14 - k) % 2 = 1 <;> by_cases h2 : rd q k >>> (14 - k) % 2 = 1 <;> simp only [h1, h2, h, if_true, if_false, iff_true, not_true, not_false_iff, iff_self, iff_false]
    · rw [Nat.xor_assoc, ← Nat.xor_assoc m, Nat.xor_comm m, Nat.xor_assoc (rd q k), Nat.xor_self, Nat.xor_zero]
    · rw [Nat.xor_assoc, Nat.xor_assoc, Nat.xor_comm (rd q k)]
    · rw [Nat.xor_assoc]
theorem gm_add_right (a b c : Nat) : gm a (b ^^^ c) = gm a b ^^^ gm a c := by rw [gm, cl_add_right, rd_add]; rfl
theorem gm_add_left (a b c : Nat) : gm (a ^^^ b) c = gm a c ^^^ gm b c := by rw [gm, cl_add_left, rd_add]; rfl
theorem gm_zero_right (a : Nat) : gm a 0 = 0 := by rw [gm, cl_zero_right, rd_zero]

/-- What is known of the eight bits is known of all bytes. -/
theorem bits_ind {P : Nat → Prop} (h0 : P 0) (h1 : ∀ i, i < 8 → P (2 ^ i)) (hx : ∀ a b, a < 256 → b < 256 → P a → P b → P (a ^^^ b)) : ∀ a, a < 256 → P a := by
  have key : ∀ k, k ≤ 8 → ∀ a, a < 2 ^ k → P a := by
    intro k
    induction k with
    | zero => intro _ a ha; have : a = 0 := by omega
              subst this; exact h0
    | succ k ih =>
      intro hk a ha
      by_cases hs : a < 2 ^ k
      · exact ih (by omega) a hs
      · have h2 : 2 ^ (k + 1) = 2 * 2 ^ k := by rw [Nat.pow_succ, Nat.mul_comm]
        have hp : 2 ^ k ≤ 128 := by have := Nat.pow_le_pow_right (n := 2) (by omega) (show k ≤ 7 by omega); omega
        have e : a = 2 ^ k ^^^ (a - 2 ^ k) := by
          have h3 : a = 2 ^ k + (a - 2 ^ k) := by omega
          have h5 : a - 2 ^ k < 2 ^ k := by omega
          generalize a - 2 ^ k = r at h3 h5
          have h4 : 2 ^ k ^^^ r = 2 ^ k + r := by
            apply Nat.eq_of_testBit_eq
            intro i
            rw [Nat.testBit_xor, Nat.testBit_two_pow]
            by_cases hi : k = i
            · subst hi
              rw [Nat.testBit_two_pow_add_eq, Nat.testBit_lt_two_pow h5]
              simp
            · by_cases hl : i < k
              · rw [Nat.testBit_two_pow_add_gt hl]
                simp [hi]
              · rw [Nat.testBit_lt_two_pow (i := i) (x := r) (Nat.lt_of_lt_of_le h5 (Nat.pow_le_pow_right (by omega) (by omega))), Nat.testBit_lt_two_pow (i := i) (x := 2 ^ k + r)]
                · simp [hi]
                · have : 2 ^ (k + 1) ≤ 2 ^ i := Nat.pow_le_pow_right (by omega) (by omega)
                  omega
          rw [h4]; exact h3
        rw [e]
        exact hx _ _ (by omega) (by omega) (h1 k (by omega)) (ih (by omega) _ (by omega))
  exact key 8 (Nat.le_refl _)
theorem xor_lt {a b : Nat} (ha : a < 256) (hb : b < 256) : a ^^^ b < 256 := Nat.xor_lt_two_pow (n := 8) ha hb

theorem gm_zero_left (b : Nat) : gm 0 b = 0 := by
  have h := gm_add_left 0 0 b
  rw [Nat.xor_self, Nat.xor_self] at h
  exact h
theorem bit8 {P : Nat → Prop} (h : P 1 ∧ P 2 ∧ P 4 ∧ P 8 ∧ P 16 ∧ P 32 ∧ P 64 ∧ P 128) (i : Nat) (hi : i < 8) : P (2 ^ i) := by
  obtain ⟨h0, h1, h2, h3, h4, h5, h6, h7⟩ := h
  match i, hi with
  | 0, _ => exact h0
  | 1, _ => exact h1
  | 2, _ => exact h2
  | 3, _ => exact h3
  | 4, _ => exact h4
  | 5, _ => exact h5
  | 6, _ => exact h6
  | 7, _ => exact h7
theorem xor_swap (a b c d : Nat) : (a ^^^ b) ^^^ (c ^^^ d) = (a ^^^ c) ^^^ (b ^^^ d) := by
  rw [Nat.xor_assoc, Nat.xor_assoc, ← Nat.xor_assoc b, ← Nat.xor_assoc c, Nat.xor_comm b]

theorem lt_bits : ∀ i, i < 8 → ∀ j, j < 8 → gm (2 ^ i) (2 ^ j) < 256 := by decide +kernel
theorem gm_lt {a b : Nat} (ha : a < 256) (hb : b < 256) : gm a b < 256 := by
  refine bits_ind (P := fun a => gm a b < 256) (by rw [gm_zero_left]; omega) ?_ (fun x y _ _ h1 h2 => by rw [gm_add_left]; exact xor_lt h1 h2) a ha
  intro i hi
  exact bits_ind (P := fun b => gm (2 ^ i) b < 256) (by rw [gm_zero_right]; omega) (fun j hj => lt_bits i hi j hj) (fun x y _ _ h1 h2 => by rw [gm_add_right]; exact xor_lt h1 h2) b hb
theorem comm_bits : ∀ i, i < 8 → ∀ j, j < 8 → gm (2 ^ i) (2 ^ j) = gm (2 ^ j) (2 ^ i) := by decide +kernel
theorem gm_comm {a b : Nat} (ha : a < 256) (hb : b < 256) : gm a b = gm b a := by
  refine bits_ind (P := fun a => gm a b = gm b a) (by rw [gm_zero_left, gm_zero_right]) ?_ (fun x y _ _ h1 h2 => by rw [gm_add_left, gm_add_right, h1, h2]) a ha
  intro i hi
  exact bits_ind (P := fun b => gm (2 ^ i) b = gm b (2 ^ i)) (by rw [gm_zero_left, gm_zero_right]) (fun j hj => comm_bits i hi j hj) (fun x y _ _ h1 h2 => by rw [gm_add_left, gm_add_right, h1, h2]) b hb
theorem assoc_bits : ∀ i, i < 8 → ∀ j, j < 8 → ∀ k, k < 8 → gm (gm (2 ^ i) (2 ^ j)) (2 ^ k) = gm (2 ^ i) (gm (2 ^ j) (2 ^ k)) := by decide +kernel
theorem gm_assoc {a b c : Nat} (ha : a < 256) (hb : b < 256) (hc : c < 256) : gm (gm a b) c = gm a (gm b c) := by
  refine bits_ind (P := fun a => gm (gm a b) c = gm a (gm b c)) (by rw [gm_zero_left, gm_zero_left, gm_zero_left]) ?_ (fun x y _ _ h1 h2 => by rw [gm_add_left, gm_add_left, gm_add_left, h1, h2]) a ha
  intro i hi
  refine bits_ind (P := fun b => gm (gm (2 ^ i) b) c = gm (2 ^ i) (gm b c)) (by rw [gm_zero_left, gm_zero_right, gm_zero_left]) ?_ (fun x y _ _ h1 h2 => by rw [gm_add_left, gm_add_right, gm_add_right, gm_add_left, h1, h2]) b hb
  intro j hj
  exact bits_ind (P := fun c => gm (gm (2 ^ i) (2 ^ j)) c = gm (2 ^ i) (gm (2 ^ j) c)) (by rw [gm_zero_right, gm_zero_right, gm_zero_right]) (fun k hk => assoc_bits i hi j hj k hk) (fun x y _ _ h1 h2 => by rw [gm_add_right, gm_add_right, gm_add_right, h1, h2]) c hc
theorem gm_one_all : ∀ a, a < 256 → gm a 1 = a := by decide +kernel
theorem gm_one {a : Nat} (ha : a < 256) : gm a 1 = a := gm_one_all a ha
theorem gm_one_left {a : Nat} (ha : a < 256) : gm 1 a = a := by rw [gm_comm (by omega) ha, gm_one ha]
theorem gm_two_all : ∀ a, a < 256 → gm a 2 = xt a ∧ xt a < 256 := by decide +kernel

theorem ex_lt : ∀ n, ex n < 256
  | 0 => by decide
  | n + 1 => (gm_two_all _ (ex_lt n)).2
theorem ex_add (i : Nat) : ∀ j, gm (ex i) (ex j) = ex (i + j)
  | 0 => gm_one (ex_lt i)
  | j + 1 => by rw [ex, ← (gm_two_all _ (ex_lt j)).1, ← gm_assoc (ex_lt i) (ex_lt j) (by omega), ex_add i j, (gm_two_all _ (ex_lt _)).1]; rfl
theorem ex_255 : ex 255 = 1 := by decide +kernel
theorem ex_mod (n : Nat) : ex (n % 255) = ex n := by
  have h : ∀ k m, ex (m + 255 * k) = ex m := by
    intro k
    induction k with
    | zero => intro m; rfl
    | succ k ih => intro m; rw [show m + 255 * (k + 1) = (m + 255 * k) + 255 by omega, ← ex_add, ex_255, gm_one (ex_lt _), ih]
  conv => rhs; rw [← Nat.mod_add_div n 255]
  exact (h _ _).symm
theorem ex_eq {m n : Nat} (h : m % 255 = n % 255) : ex m = ex n := by rw [← ex_mod m, ← ex_mod n, h]

/-- The table of logs, k of them written. -/
def lgs : Nat → List Nat
  | 0 => List.replicate 256 0
  | n + 1 => (lgs n).set (ex n) n
theorem lgs_length : ∀ n, (lgs n).length = 256
  | 0 => List.length_replicate
  | n + 1 => by rw [lgs, List.length_set, lgs_length n]
/-- The log. -/
def lg (a : Nat) : Nat := (lgs 255).getD a 0
theorem lg_lt_all : (lgs 255).all (fun v => decide (v < 255)) = true := by decide +kernel
theorem ex_lg_all : ∀ a, a < 256 → a = 0 ∨ ex (lg a) = a := by decide +kernel
theorem lg_ex_all : ∀ i, i < 255 → lg (ex i) = i := by decide +kernel
theorem lg_lt (a : Nat) : lg a < 255 := by
  rw [lg, List.getD_eq_getElem?_getD]
  cases h : (lgs 255)[a]? with
  | none => decide
  | some v =>
    exact of_decide_eq_true (List.all_eq_true.1 lg_lt_all v (List.mem_of_getElem? h))
theorem ex_lg {a : Nat} (ha : a < 256) (h0 : a ≠ 0) : ex (lg a) = a := (ex_lg_all a ha).resolve_left h0
theorem lg_ex (i : Nat) : lg (ex i) = i % 255 := by rw [← ex_mod, lg_ex_all _ (Nat.mod_lt _ (by omega))]
theorem ex_pos (n : Nat) : ex n ≠ 0 := by
  intro h
  have h2 := ex_add n (255 - n % 255)
  rw [h, gm_zero_left] at h2
  have h3 := ex_mod (n + (255 - n % 255))
  have h4 : (n + (255 - n % 255)) % 255 = 0 := by have := Nat.mod_add_div n 255; omega
  rw [h4, ← h2] at h3
  exact absurd h3 (by decide)
theorem ex_inj {m n : Nat} (hm : m < 255) (hn : n < 255) (h : ex m = ex n) : m = n := by rw [← lg_ex_all m hm, ← lg_ex_all n hn, h]
theorem lgs_get (a : Nat) (h : a < 256) : (lgs 255)[a]? = some (lg a) := by
  rw [lg, List.getD_eq_getElem?_getD]
  rw [List.getElem?_eq_getElem (by rw [lgs_length]; exact h)]
  rfl

/-- The product by logs. -/
theorem gm_logs {a b : Nat} (ha : a < 256) (hb : b < 256) (ha0 : a ≠ 0) (hb0 : b ≠ 0) : gm a b = ex (lg a + lg b) := by
  rw [← ex_add, ex_lg ha ha0, ex_lg hb hb0]
theorem gm_ne {a b : Nat} (ha : a < 256) (hb : b < 256) (ha0 : a ≠ 0) (hb0 : b ≠ 0) : gm a b ≠ 0 := by
  rw [gm_logs ha hb ha0 hb0]; exact ex_pos _
theorem gm_eq_zero {a b : Nat} (ha : a < 256) (hb : b < 256) (h : gm a b = 0) : a = 0 ∨ b = 0 :=
  Classical.byContradiction fun hn => gm_ne ha hb (fun h0 => hn (Or.inl h0)) (fun h0 => hn (Or.inr h0)) h

/-- The inverse. -/
def iv (a : Nat) : Nat := if a = 0 then 0 else ex (255 - lg a)
theorem iv_lt (a : Nat) : iv a < 256 := by unfold iv; split; omega; exact ex_lt _
theorem gm_iv {a : Nat} (ha : a < 256) (h0 : a ≠ 0) : gm a (iv a) = 1 := by
  rw [iv, if_neg h0]
  conv => lhs; rw [show a = ex (lg a) from (ex_lg ha h0).symm]
  rw [lg_ex, Nat.mod_eq_of_lt (lg_lt a), ex_add, show lg a + (255 - lg a) = 255 by have := lg_lt a; omega, ex_255]
theorem iv_gm {a : Nat} (ha : a < 256) (h0 : a ≠ 0) : gm (iv a) a = 1 := by rw [gm_comm (iv_lt a) ha, gm_iv ha h0]
theorem gm_cancel {a b c : Nat} (ha : a < 256) (hb : b < 256) (hc : c < 256) (h0 : a ≠ 0) (h : gm a b = gm a c) : b = c := by
  have h2 : gm (iv a) (gm a b) = gm (iv a) (gm a c) := by rw [h]
  rwa [← gm_assoc (iv_lt a) ha hb, ← gm_assoc (iv_lt a) ha hc, iv_gm ha h0, gm_one_left hb, gm_one_left hc] at h2
theorem iv_unique {a b : Nat} (ha : a < 256) (hb : b < 256) (h : gm a b = 1) : b = iv a := by
  have h0 : a ≠ 0 := fun e => by rw [e, gm_zero_left] at h; exact absurd h (by decide)
  exact gm_cancel ha hb (iv_lt a) h0 (by rw [h, gm_iv ha h0])

/-- Powers of any byte. -/
def pw (a : Nat) : Nat → Nat
  | 0 => 1
  | n + 1 => gm (pw a n) a
theorem pw_lt {a : Nat} (ha : a < 256) : ∀ n, pw a n < 256
  | 0 => show 1 < 256 by omega
  | n + 1 => gm_lt (pw_lt ha n) ha
theorem pw_ex (g : Nat) : ∀ n, pw (ex g) n = ex (g * n)
  | 0 => rfl
  | n + 1 => by rw [pw, pw_ex g n, ex_add, Nat.mul_succ]

/-- Sums and products of lists. -/
def sum (l : List Nat) : Nat := l.foldl (· ^^^ ·) 0
def prod (l : List Nat) : Nat := l.foldl gm 1
theorem sum_lt (l : List Nat) (h : ∀ x ∈ l, x < 256) : sum l < 256 := by
  have : ∀ (l : List Nat) (s : Nat), s < 256 → (∀ x ∈ l, x < 256) → l.foldl (· ^^^ ·) s < 256 := by
    intro l
    induction l with
    | nil => intro s hs _; exact hs
    | cons a l ih => intro s hs h; exact ih _ (xor_lt hs (h a (by simp))) (fun x hx => h x (by simp [hx]))
  exact this l 0 (by omega) h
theorem prod_lt (l : List Nat) (h : ∀ x ∈ l, x < 256) : prod l < 256 := by
  have : ∀ (l : List Nat) (s : Nat), s < 256 → (∀ x ∈ l, x < 256) → l.foldl gm s < 256 := by
    intro l
    induction l with
    | nil => intro s hs _; exact hs
    | cons a l ih => intro s hs h; exact ih _ (gm_lt hs (h a (by simp))) (fun x hx => h x (by simp [hx]))
  exact this l 1 (by omega) h
theorem sum_snoc (l : List Nat) (a : Nat) : sum (l ++ [a]) = sum l ^^^ a := by simp [sum]
theorem prod_snoc (l : List Nat) (a : Nat) : prod (l ++ [a]) = gm (prod l) a := by simp [prod]


/-- The power of x by any number. -/
def exI (n : Int) : Nat := ex ((n.tmod 255 + 255).toNat)
theorem exI_lt (n : Int) : exI n < 256 := ex_lt _
theorem tmod_bd (n : Int) : -255 < n.tmod 255 ∧ n.tmod 255 < 255 ∧ ∃ q, n = 255 * q + n.tmod 255 :=
  ⟨Int.lt_tmod_of_pos n (by omega), Int.tmod_lt_of_pos n (by omega), n.tdiv 255, (Int.mul_tdiv_add_tmod n 255).symm⟩
theorem exI_emod (n : Int) : exI n = ex ((n % 255).toNat) := by
  unfold exI
  apply ex_eq
  obtain ⟨h1, h2, q, hq⟩ := tmod_bd n
  generalize n.tmod 255 = r at *
  omega
theorem exI_nat (n : Nat) : exI (n : Int) = ex n := by
  rw [exI_emod, ← ex_mod n]
  congr 1
theorem exI_neg {a : Nat} (h0 : a ≠ 0) : exI (-(lg a : Int)) = iv a := by
  rw [iv, if_neg h0, exI_emod]
  apply ex_eq
  have := lg_lt a
  omega
theorem exI_add (m n : Int) : exI (m + n) = gm (exI m) (exI n) := by
  rw [exI_emod, exI_emod, exI_emod, ex_add]
  apply ex_eq
  omega

/-- A power of any byte. -/
def powI (a : Nat) (n : Int) : Nat := if n = 0 then 1 else if a = 0 then 0 else exI (lg a * n.tmod 255)
theorem powI_lt (a : Nat) (n : Int) : powI a n < 256 := by unfold powI; split; omega; split; omega; exact ex_lt _
theorem powI_pw {a : Nat} (ha : a < 256) (h0 : a ≠ 0) (n : Int) (k : Nat) (hk : (k : Int) = n % 255) : powI a n = pw a k := by
  have e : pw a k = ex (lg a * k) := by
    conv => lhs; rw [show a = ex (lg a) from (ex_lg ha h0).symm]
    rw [pw_ex]
  rw [e, ← exI_nat]
  unfold powI
  rw [if_neg h0]
  split
  · rename_i hn
    subst hn
    have : k = 0 := by omega
    subst this
    rw [exI_nat]
    rfl
  · rw [exI_emod, exI_emod]
    congr 2
    rw [Int.natCast_mul, hk]
    obtain ⟨h1, h2, q, hq⟩ := tmod_bd n
    have e1 : n.tmod 255 % 255 = n % 255 := by generalize n.tmod 255 = r at *; omega
    rw [Int.mul_emod, e1]
    conv => rhs; rw [Int.mul_emod, Int.emod_emod]

theorem cl_lt {a : Nat} (ha : a < 256) (b : Nat) : ∀ k, cl a b k < 2 ^ (8 + k)
  | 0 => by rw [cl]; decide
  | k + 1 => by
    have h := cl_lt ha b k
    have h2 : 2 ^ (8 + k) ≤ 2 ^ (8 + (k + 1)) := Nat.pow_le_pow_right (by omega) (by omega)
    rw [cl]
    split
    · refine Nat.xor_lt_two_pow (by omega) ?_
      rw [Nat.shiftLeft_eq, show 8 + (k + 1) = 8 + 1 + k by omega, Nat.pow_add]
      exact (Nat.mul_lt_mul_right (Nat.two_pow_pos k)).2 (by omega)
    · omega
theorem cl_16 {a : Nat} (ha : a < 256) (b k : Nat) (hk : k ≤ 8) : cl a b k < 65536 := Nat.lt_of_lt_of_le (cl_lt ha b k) (show 2 ^ (8 + k) ≤ 2 ^ 16 from Nat.pow_le_pow_right (by omega) (by omega))
theorem m_16 : ∀ k, k < 7 → 285 <<< (6 - k) < 65536 := by decide
theorem rd_16 {p : Nat} (hp : p < 65536) : ∀ k, k ≤ 7 → rd p k < 65536
  | 0, _ => hp
  | k + 1, hk => by
    have h := rd_16 hp k (by omega)
    rw [rd]
    split
    · exact Nat.xor_lt_two_pow (n := 16) h (m_16 k (by omega))
    · exact h
end GfMath
