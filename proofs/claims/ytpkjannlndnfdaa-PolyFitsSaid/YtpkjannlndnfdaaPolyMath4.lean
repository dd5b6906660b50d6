/- Sums and products as the law reckons them. No program. -/
import Derived.Test.YtpkjannlndnfdaaPolyMath3
namespace PolyMath
open GfMath
set_option linter.unusedVariables false

def rsum (ls : List (List Nat)) : List Nat := ls.foldl (fun s l => radd s (lo l)) []
def rprod (ls : List (List Nat)) : List Nat := ls.foldl (fun p l => rmul p (lo l)) [1]
theorem rsum_snoc (ls : List (List Nat)) (l : List Nat) : rsum (ls ++ [l]) = radd (rsum ls) (lo l) := by simp [rsum]
theorem rprod_snoc (ls : List (List Nat)) (l : List Nat) : rprod (ls ++ [l]) = rmul (rprod ls) (lo l) := by simp [rprod]
theorem rsum_all (ls : List (List Nat)) (h : ∀ l ∈ ls, By l) : By (rsum ls) ∧ ∀ k, sq (rsum ls) k = sumf ls k := by
  revert h
  refine snocs2 (P := fun ls => (∀ l ∈ ls, By l) → By (rsum ls) ∧ ∀ k, sq (rsum ls) k = sumf ls k) (fun _ => ⟨by_nil, fun k => rfl⟩) (fun ls l ih h => ?_) ls
  obtain ⟨h1, h2⟩ := ih fun y hy => h y (by simp [hy])
  have h3 := h l (by simp)
  rw [rsum_snoc]
  exact ⟨radd_by h1 (lo_by h3), fun k => by rw [sq_radd, h2, sq_lo, sumf_snoc]⟩
theorem rprod_all (ls : List (List Nat)) (h : ∀ l ∈ ls, By l) : By (rprod ls) ∧ ∀ k, sq (rprod ls) k = cf (pms ls) k := by
  revert h
  refine snocs2 (P := fun ls => (∀ l ∈ ls, By l) → By (rprod ls) ∧ ∀ k, sq (rprod ls) k = cf (pms ls) k) (fun _ => ⟨by_one (by omega), fun k => ?_⟩) (fun ls l ih h => ?_) ls
  · exact sq_cf [1] k
  · obtain ⟨h1, h2⟩ := ih fun y hy => h y (by simp [hy])
    have h3 := h l (by simp)
    rw [rprod_snoc, pms_snoc]
    refine ⟨rmul_by h1 (lo_by h3), fun k => ?_⟩
    have e1 : sq (rprod ls) = cf (pms ls) := funext h2
    have e2 : sq (lo l) = cf (beh l) := funext fun k => by rw [sq_lo, cf_beh]
    rw [sq_rmul, pm_cf, e1, e2]
theorem lo_le (l : List Nat) : (lo l).length ≤ l.length := by rw [lo_length]; exact beh_le l
theorem rsum_le (ls : List (List Nat)) (N : Nat) (h : ∀ l ∈ ls, l.length ≤ N) : (rsum ls).length ≤ N := by
  revert h
  refine snocs2 (P := fun ls => (∀ l ∈ ls, l.length ≤ N) → (rsum ls).length ≤ N) (fun _ => Nat.zero_le _) (fun ls l ih h => ?_) ls
  have h1 := ih fun y hy => h y (by simp [hy])
  have h2 := h l (by simp)
  have h3 := radd_le (rsum ls) (lo l)
  have h4 := lo_le l
  rw [rsum_snoc]
  omega
theorem rprod_le (ls : List (List Nat)) (N : Nat) (h : ∀ l ∈ ls, l.length ≤ N) : (rprod ls).length ≤ 1 + ls.length * (N + 1) := by
  revert h
  refine snocs2 (P := fun ls => (∀ l ∈ ls, l.length ≤ N) → (rprod ls).length ≤ 1 + ls.length * (N + 1)) (fun _ => by simp [rprod]) (fun ls l ih h => ?_) ls
  have h1 := ih fun y hy => h y (by simp [hy])
  have h2 := h l (by simp)
  have h3 := rmul_le (rprod ls) (lo l)
  have h4 := lo_le l
  rw [rprod_snoc, List.length_append, List.length_singleton, Nat.add_mul]
  omega

end PolyMath
