/- Plain facts on numbers as bytes: big-endian digits, their value, their order. -/
import Derived.WalkKit
import Derived.PlainAid
namespace Go.Proofs.Ytpeofjlecgenbaa.NumMath

/-- The bytes of n, the highest first, in s bytes. -/
def be : Nat → Nat → List UInt8
  | 0, _ => []
  | s + 1, n => be s (n / 256) ++ [UInt8.ofNat (n % 256)]

/-- The number whose bytes these are. -/
def val (l : List UInt8) : Nat := l.foldl (fun a b => 256 * a + b.toNat) 0

theorem be_length (s n : Nat) : (be s n).length = s := by
  induction s generalizing n with
  | zero => rfl
  | succ s ih => simp [be, ih]

theorem val_nil : val [] = 0 := rfl
theorem val_snoc (l : List UInt8) (b : UInt8) : val (l ++ [b]) = 256 * val l + b.toNat := by simp [val]

theorem toNat_mod (n : Nat) : (UInt8.ofNat (n % 256)).toNat = n % 256 := by
  rw [UInt8.toNat_ofNat']; omega

theorem val_be (s n : Nat) (h : n < 256 ^ s) : val (be s n) = n := by
  induction s generalizing n with
  | zero => have : n = 0 := by simpa using h
            subst this; rfl
  | succ s ih =>
    rw [be, val_snoc, ih (n / 256) (by rw [Nat.pow_succ] at h; omega), toNat_mod]
    omega

theorem snoc_ind {α : Type} {P : List α → Prop} (h0 : P []) (h1 : ∀ l a, P l → P (l ++ [a])) (l : List α) : P l := by
  have h : ∀ r : List α, P r.reverse := fun r => by
    induction r with
    | nil => exact h0
    | cons a r ih => rw [List.reverse_cons]; exact h1 _ _ ih
  simpa using h l.reverse

theorem val_lt (l : List UInt8) : val l < 256 ^ l.length := by
  induction l using snoc_ind with
  | h0 => simp [val]
  | h1 l b ih =>
    rw [val_snoc]
    have := b.toNat_lt
    simp only [List.length_append, List.length_singleton, Nat.pow_succ]
    omega

theorem be_val (l : List UInt8) : be l.length (val l) = l := by
  induction l using snoc_ind with
  | h0 => rfl
  | h1 l b ih =>
    have hb := b.toNat_lt
    have e1 : (256 * val l + b.toNat) / 256 = val l := by omega
    have e2 : (256 * val l + b.toNat) % 256 = b.toNat := by omega
    rw [val_snoc, List.length_append, List.length_singleton, be, e1, e2, ih]
    simp

theorem be_inj (s n m : Nat) (hn : n < 256 ^ s) (hm : m < 256 ^ s) (h : be s n = be s m) : n = m := by
  rw [← val_be s n hn, ← val_be s m hm, h]

/-- The lowest byte first: what is laid ahead of it has the higher ones. -/
theorem be_cons (s n : Nat) : be (s + 1) n = UInt8.ofNat (n / 256 ^ s % 256) :: be s n := by
  induction s generalizing n with
  | zero => simp [be]
  | succ s ih =>
    rw [be, ih (n / 256), be, List.cons_append]
    congr 2
    rw [Nat.div_div_eq_div_mul, Nat.pow_succ, Nat.mul_comm]

theorem be_mod (s n : Nat) : be s n = be s (n % 256 ^ s) := by
  induction s generalizing n with
  | zero => rfl
  | succ s ih =>
    have hp : (256 : Nat) ^ (s + 1) = 256 * 256 ^ s := by rw [Nat.pow_succ, Nat.mul_comm]
    have e1 : n % 256 ^ (s + 1) / 256 = n / 256 % 256 ^ s := by rw [hp, Nat.mod_mul_right_div_self]
    have e2 : n % 256 ^ (s + 1) % 256 = n % 256 := by rw [hp]; exact Nat.mod_mul_right_mod n 256 (256 ^ s)
    rw [be, be, ih (n / 256), e1, e2]

end Go.Proofs.Ytpeofjlecgenbaa.NumMath
