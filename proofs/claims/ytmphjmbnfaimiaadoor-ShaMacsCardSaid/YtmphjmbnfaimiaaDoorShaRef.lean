/- The document's words H and K, as plain mathematics: primes, roots found bit by bit; they are the program's. -/
import Derived.Test.YtmphjmbnfaimiaaDoorShaMath
namespace Go.Proofs.YtmphjmbnfaimiaaDoor.ShaMath

/-- The numbers from 2 to below n that none of those found ahead divides. -/
def sieve : Nat → List Nat
  | 0 => []
  | n + 1 => if 2 ≤ n ∧ (sieve n).all (fun p => n % p != 0) then sieve n ++ [n] else sieve n
def fitN (two : Bool) (p y : Nat) : Bool := if two then decide (y * y ≤ p * 2 ^ 64) else decide (y * y * y ≤ p * 2 ^ 96)
/-- The bits below k, from the highest on. -/
def bitsN (two : Bool) (p : Nat) : Nat → Nat → Nat
  | 0, x => x
  | k + 1, x => bitsN two p k (if fitN two p (x + 2 ^ k) then x + 2 ^ k else x)
def rootN (two : Bool) (p : Nat) : Nat := bitsN two p 36 0 % 4294967296

def sieveF : Nat → Nat → List Nat → List Nat
  | 0, _, l => l
  | f + 1, n, l => sieveF f (n + 1) (if 2 ≤ n ∧ l.all (fun p => n % p != 0) then l ++ [n] else l)
theorem sieveF_eq (f n : Nat) : sieveF f n (sieve n) = sieve (n + f) := by
  induction f generalizing n with
  | zero => rfl
  | succ f ih =>
    rw [sieveF]
    have : (if 2 ≤ n ∧ (sieve n).all (fun p => n % p != 0) then sieve n ++ [n] else sieve n) = sieve (n + 1) := rfl
    rw [this, ih, Nat.add_right_comm]
    rfl
theorem sieve_fast (n : Nat) : sieve n = sieveF n 0 [] := by
  have := sieveF_eq n 0
  rw [Nat.zero_add] at this
  exact this.symm
set_option maxRecDepth 100000 in
theorem sieve_length : (sieve 312).length = 64 := by rw [sieve_fast]; decide +kernel
set_option maxRecDepth 100000 in
theorem sieve_short : ∀ n : Fin 312, (sieveF n.val 0 []).length < 64 := by decide +kernel
theorem sieve_lt (n : Nat) (h : n < 312) : (sieve n).length < 64 := by rw [sieve_fast]; exact sieve_short ⟨n, h⟩
set_option maxRecDepth 100000 in
theorem roots_are : (sieve 312).map (rootN false) = roots.map (·.toNat) := by rw [sieve_fast]; decide +kernel
set_option maxRecDepth 100000 in
theorem first_are : ((sieve 312).take 8).map (rootN true) = first.map (·.toNat) := by rw [sieve_fast]; decide +kernel
set_option maxRecDepth 100000 in
theorem sieve_small : ((sieve 312).all fun p => decide (2 ≤ p ∧ p ≤ 311)) = true := by rw [sieve_fast]; decide +kernel

end Go.Proofs.YtmphjmbnfaimiaaDoor.ShaMath
