/- Polynomials with the lowest power first, as the document's answers have them. No program. -/
import Derived.Test.YtpkjannlndnfdaaPolyMath2
namespace PolyMath
open GfMath
set_option linter.unusedVariables false

theorem sq_cf (l : List Nat) (n : Nat) : sq l n = cf l.reverse n := by
  by_cases h : n < l.length
  · rw [cf_in _ _ (by simpa using h), sq_get l n h, sq_get _ _ (by simp; omega), List.getElem_reverse]
    congr 1; simp; omega
  · rw [cf_out _ _ (by simp; omega), sq_out l n (by omega)]
theorem cf_sq (l : List Nat) (n : Nat) : cf l n = sq l.reverse n := by rw [sq_cf, List.reverse_reverse]
def cut (l : List Nat) : List Nat := (beh l.reverse).reverse
def lo (l : List Nat) : List Nat := (beh l).reverse
theorem cut_reverse (l : List Nat) : cut l.reverse = lo l := by rw [cut, List.reverse_reverse, lo]
theorem sq_cut (l : List Nat) (n : Nat) : sq (cut l) n = sq l n := by rw [sq_cf, cut, List.reverse_reverse, cf_beh, ← sq_cf]
theorem sq_lo (l : List Nat) (n : Nat) : sq (lo l) n = cf l n := by rw [sq_cf, lo, List.reverse_reverse, cf_beh]
theorem lo_length (l : List Nat) : (lo l).length = (beh l).length := by rw [lo, List.length_reverse]
theorem lo_by {l : List Nat} (h : By l) : By (lo l) := fun x hx => h.beh x (by simpa [lo] using hx)
theorem cut_by {l : List Nat} (h : By l) : By (cut l) := fun x hx => by
  have h2 : By l.reverse := fun y hy => h y (by simpa using hy)
  exact h2.beh x (by simpa [cut] using hx)
theorem cut_take (l : List Nat) : cut l = l.take (cut l).length := by
  have e : cut l = l.take (l.length - zs l.reverse) := by rw [cut, beh, List.drop_reverse, List.reverse_reverse]
  have h := congrArg List.length e
  rw [List.length_take] at h
  rw [h, Nat.min_eq_left (by omega)]
  exact e
theorem cut_le (l : List Nat) : (cut l).length ≤ l.length := by
  have := congrArg List.length (cut_take l)
  rw [List.length_take] at this
  omega
theorem cut_len (l : List Nat) (k : Nat) (hk : k ≤ l.length) (h0 : ∀ j, k ≤ j → j < l.length → sq l j = 0) (h1 : k = 0 ∨ sq l (k - 1) ≠ 0) : (cut l).length = k := by
  rw [cut, List.length_reverse, beh_length, List.length_reverse]
  have hs : ∀ j, j < l.length → sq l.reverse j = sq l (l.length - 1 - j) := fun j hj => by
    rw [sq_cf l, cf_in _ _ (by simp; omega), List.length_reverse]; congr 1; omega
  by_cases hz : k = 0
  · subst hz
    rw [zs_all l.reverse fun j hj => by rw [List.length_reverse] at hj; rw [hs j hj]; exact h0 _ (by omega) (by omega), List.length_reverse]
    omega
  · rw [zs_eq l.reverse (l.length - k) (fun j hj => by rw [hs j (by omega)]; exact h0 _ (by omega) (by omega)) (by rw [hs _ (by omega), show l.length - 1 - (l.length - k) = k - 1 by omega]; exact h1.resolve_left hz)]
    omega
theorem cut_idem (l : List Nat) : cut (cut l) = cut l := by
  rw [cut, show (cut l).reverse = beh l.reverse by rw [cut, List.reverse_reverse], (beh_can _).beh, cut]
theorem cut_lo (l : List Nat) : cut (lo l) = lo l := by rw [← cut_reverse, cut_idem]
/-- Are they alike? -/
def sameB (a b : List Nat) : Bool := decide (a = (cut b).reverse)
theorem same_of {a b : List Nat} (ha : Can a) (h : ∀ k, cf a k = sq b k) : sameB a b = true := by
  refine decide_eq_true (can_eq ha ?_ fun k => ?_)
  · rw [cut, List.reverse_reverse]; exact beh_can _
  · rw [cut, List.reverse_reverse, cf_beh, ← sq_cf, h k]
/-- The document's sum, product, derivative. -/
def radd (a b : List Nat) : List Nat := cut (tab (max a.length b.length) (fun n => sq a n ^^^ sq b n))
theorem sq_radd (a b : List Nat) (n : Nat) : sq (radd a b) n = sq a n ^^^ sq b n := by
  rw [radd, sq_cut, sq_tab]
  split
  · rfl
  · rw [sq_out a n (by omega), sq_out b n (by omega)]; rfl
def rmul (a b : List Nat) : List Nat := cut (tab (a.length + b.length + 1) (cvk (sq a) (sq b) a.length))
theorem sq_rmul (a b : List Nat) (n : Nat) : sq (rmul a b) n = cv (sq a) (sq b) n := by
  rw [rmul, sq_cut, sq_tab]
  split
  · exact cvk_full _ _ _ _ fun i hi => sq_out a i hi
  · exact (cv_out (N := a.length) (M := b.length) (fun i hi => sq_out a i hi) (fun i hi => sq_out b i hi) (by omega)).symm
def rder (a : List Nat) : List Nat := cut (tab (a.length - 1) (fun n => if (n + 1) % 2 = 1 then sq a (n + 1) else 0))
theorem sq_rder (a : List Nat) (n : Nat) : sq (rder a) n = if n % 2 = 0 then sq a (n + 1) else 0 := by
  rw [rder, sq_cut, sq_tab]
  split
  · by_cases h : n % 2 = 0
    · rw [if_pos h, if_pos (by omega)]
    · rw [if_neg h, if_neg (by omega)]
  · rw [sq_out a _ (by omega)]; split <;> rfl
theorem radd_by {a b : List Nat} (ha : By a) (hb : By b) : By (radd a b) := cut_by (tab_by _ fun n _ => xor_lt (ha.sq n) (hb.sq n))
theorem rmul_by {a b : List Nat} (ha : By a) (hb : By b) : By (rmul a b) := cut_by (tab_by _ fun n _ => cvk_lt (fun i => ha.sq i) (fun i => hb.sq i) _ _)
theorem rder_by {a : List Nat} (ha : By a) : By (rder a) := cut_by (tab_by _ fun n _ => by split; exact ha.sq _; omega)
theorem radd_le (a b : List Nat) : (radd a b).length ≤ max a.length b.length := by have := cut_le (tab (max a.length b.length) (fun n => sq a n ^^^ sq b n)); rw [tab_length] at this; exact this
theorem rmul_le (a b : List Nat) : (rmul a b).length ≤ a.length + b.length + 1 := by have := cut_le (tab (a.length + b.length + 1) (cvk (sq a) (sq b) a.length)); rw [tab_length] at this; exact this
theorem rder_le (a : List Nat) : (rder a).length ≤ a.length := by have := cut_le (tab (a.length - 1) (fun n => if (n + 1) % 2 = 1 then sq a (n + 1) else 0)); rw [tab_length] at this; rw [rder]; omega
/-- A step of a reversed list. -/
theorem drop_rev (l : List Nat) (m : Nat) (h : m < l.length) : (l.drop m).reverse = (l.drop (m + 1)).reverse ++ [sq l m] := by
  rw [List.drop_eq_getElem_cons h, List.reverse_cons, sq_get l m h]
theorem tab_snoc (N : Nat) (f : Nat → Nat) : tab (N + 1) f = tab N f ++ [f N] := by simp [tab, List.range_succ]

end PolyMath
