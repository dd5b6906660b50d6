/- Values of sums, products, shifted polynomials. No program. -/
import Derived.Test.YtpkjannlndnfdaaPolyMath
namespace PolyMath
open GfMath
set_option linter.unusedVariables false

theorem ev_zeros {l : List Nat} {x : Nat} (hl : By l) (hx : x < 256) : ∀ k, ev (l ++ List.replicate k 0) x = gm (ev l x) (pw x k)
  | 0 => by rw [List.replicate_zero, List.append_nil]; exact (gm_one (ev_lt hl hx)).symm
  | k + 1 => by
    rw [List.replicate_succ', ← List.append_assoc, ev_snoc, ev_zeros hl hx k, Nat.xor_zero, pw, gm_assoc (ev_lt hl hx) (pw_lt hx k) hx]
theorem ev_shl {l : List Nat} {x : Nat} (hl : By l) (hx : x < 256) (k : Nat) : ev (shl l k) x = gm (ev l x) (pw x k) := by
  unfold shl
  split
  · rename_i h
    have : beh l = [] := List.eq_nil_of_length_eq_zero h
    rw [← ev_beh hx hl, this]
    exact (gm_zero_left _).symm
  · rw [ev_zeros hl.beh hx, ev_beh hx hl]
theorem shl_le (l : List Nat) (k : Nat) : (shl l k).length ≤ l.length + k := by
  unfold shl
  have := beh_le l
  split
  · simp
  · rw [List.length_append, List.length_replicate]; omega
theorem shl_by {l : List Nat} (h : By l) (k : Nat) : By (shl l k) := by
  unfold shl
  split
  · exact by_nil
  · intro x hx
    rcases List.mem_append.1 hx with h1 | h1
    · exact h.beh x h1
    · rw [(List.mem_replicate.1 h1).2]; omega
theorem E_xor (f g : Nat → Nat) (N x : Nat) : E (fun k => f k ^^^ g k) N x = E f N x ^^^ E g N x := by
  rw [E, E, E, ← xs_xor]
  exact xs_congr N fun k _ => gm_add_left _ _ _
theorem addl_le (ls : List (List Nat)) : (addl ls).length ≤ mx ls := by
  have := beh_le (hi (mx ls) (sumf ls))
  rw [hi_length] at this
  exact this
theorem addl_can (ls : List (List Nat)) : Can (addl ls) := beh_can _
theorem ev_addl2 {a b : List Nat} {x : Nat} (ha : By a) (hb : By b) (hx : x < 256) : ev (addl [a, b]) x = ev a x ^^^ ev b x := by
  have h8 : ∀ l ∈ [a, b], By l := by intro l hl; simp at hl; rcases hl with rfl | rfl <;> assumption
  have hm : mx [a, b] = max a.length b.length := by simp [mx]
  have h1 := addl_le [a, b]
  rw [ev_E_le hx (addl_by _ h8) (N := max a.length b.length) (by omega), ev_E_le hx ha (N := max a.length b.length) (by omega), ev_E_le hx hb (N := max a.length b.length) (by omega), ← E_xor]
  refine E_congr fun k _ => ?_
  rw [addl_cf]
  simp [sumf]
theorem ev_one {x : Nat} : ev [1] x = 1 := by show gm 0 x ^^^ 1 = 1; rw [gm_zero_left]; rfl
theorem ev_pms2 {a b : List Nat} {x : Nat} (ha : By a) (hb : By b) (hx : x < 256) : ev (pms [a, b]) x = gm (ev a x) (ev b x) := by
  have h1 : By [1] := by_one (by omega)
  show ev (pm (pm [1] (beh a)) (beh b)) x = _
  rw [ev_pm (pm_by h1 ha.beh) hb.beh hx, ev_pm h1 ha.beh hx, ev_one, gm_one_left (ev_lt ha.beh hx), ev_beh hx ha, ev_beh hx hb]

end PolyMath
