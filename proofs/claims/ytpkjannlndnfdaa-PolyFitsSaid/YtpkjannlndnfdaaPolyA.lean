/- Contracts of poly's behind, Degree, Trim, less. -/
import Derived.Test.YtpkjannlndnfdaaGfTwo
import Derived.Test.YtpkjannlndnfdaaSlice
import Derived.Test.YtpkjannlndnfdaaPolyMath
namespace Go.Proofs.Ytpkjannlndnfdaa
open Go.RowKit GfMath PolyMath
set_option linter.unusedVariables false

theorem nonzero_any (x : Nat) (w : World) :
    Calls Try.prog 29 #[.int .u8 (x : Int)] w fun e w' => e = .returned (.bool (decide (x ≠ 0))) ∧ w = w' := by
  by_cases h : x = 0
  · subst h
    go_enter Try.func29, Try.ntmps29
    go_wp2
    go_ret
    exact ⟨rfl, rfl⟩
  · have h1 : ((x : Int) != 0) = true := by simp; omega
    have h2 : ¬ (x : Int) = 0 := by omega
    have h3 : decide (x ≠ 0) = true := by simpa using h
    go_enter Try.func29, Try.ntmps29
    go_wp2
    go_ret
    exact ⟨ret_bool h3.symm, rfl⟩

/-- Where the first one lies that isn't 0. -/
def firstOf (l : List Nat) : Int := if zs l < l.length then (zs l : Int) else -1
theorem index_any (a : Option Addr) (cap : Nat) (l : List Nat) (w : World) (hl : l.length ≤ 140737488355328) (hr : Lies w w.heap.size a (u8s l)) :
    Calls Try.prog 28 #[.slice a l.length cap, .func (.func 29) #[] #[]] w fun e w' => e = .returned (.int .i64 (firstOf l)) ∧ w = w' := by
  go_enter Try.func28, Try.ntmps28
  go_wp2
  go_loop [8] (fun i => ∃ k : Nat, k ≤ l.length ∧ i = .int .i64 k ∧ ∀ j, j < k → sq l j = 0) (fun i => l.length - (intOf i).toNat)
  case atStart => exact ⟨0, Nat.zero_le _, rfl, fun j hj => absurd hj (by omega)⟩
  case round =>
    obtain ⟨k, hk, rfl, hz⟩ := hrel
    have HZ := Lib.hid hz
    clear hz
    by_cases hlt : k < l.length
    · obtain ⟨b2, off, rfl, hbb, hc⟩ := hr (by rw [u8s_length]; omega)
      have hcell : w.cell? ⟨b2, off + k, none⟩ = some (.int .u8 (sq l k : Int)) := by rw [sq_get l k hlt]; exact hc k _ (u8s_get l k hlt)
      obtain ⟨x, hx⟩ : ∃ x, sq l k = x := ⟨_, rfl⟩
      rw [hx] at hcell
      have hk1 : (k : Int) < l.length := by omega
      by_cases h0 : x = 0
      · have HN : Hid (∀ u, Calls Try.prog 29 #[.int .u8 (x : Int)] u fun e w' => e = .returned (.bool false) ∧ u = w') := Lib.hid fun u => by have := nonzero_any x u; rwa [decide_eq_false (by omega)] at this
        have HX : Hid (sq l k = 0) := Lib.hid (by rw [hx, h0])
        clear hr hc hx h0
        go_wp2_with (go_at_call 29; (with_reducible refine (HN.out _).mono ?_); rintro e w1 ⟨rfl, rfl⟩)
        go_round
        case rel => exact ⟨k + 1, by omega, by go_num, fun j hj => by
          by_cases e : j = k
          · rw [e]; exact HX.out
          · exact HZ.out j (by omega)⟩
        case measure => simp [intOf]; omega
      · have HN : Hid (∀ u, Calls Try.prog 29 #[.int .u8 (x : Int)] u fun e w' => e = .returned (.bool true) ∧ u = w') := Lib.hid fun u => by have := nonzero_any x u; rwa [decide_eq_true (by omega)] at this
        have HX : Hid (firstOf l = (k : Int)) := Lib.hid (by
          have := zs_eq l k HZ.out (by rw [hx]; exact h0)
          rw [firstOf, this, if_pos hlt])
        clear hr hc hx h0
        go_wp2_with (go_at_call 29; (with_reducible refine (HN.out _).mono ?_); rintro e w1 ⟨rfl, rfl⟩)
        go_ret
        exact ⟨ret_int HX.out.symm, rfl⟩
    · have HX : Hid (firstOf l = -1) := Lib.hid (by
        have := zs_all l fun j hj => HZ.out j (by omega)
        rw [firstOf, this, if_neg (by omega)])
      clear hr
      go_wp2
      go_ret
      exact ⟨ret_int HX.out.symm, rfl⟩

theorem Lies.drop {w : World} {B : Nat} {b off : Nat} {xs : List Value} (h : Lies w B (some ⟨b, off, none⟩) xs) (k : Nat) : Lies w B (some ⟨b, off + k, none⟩) (xs.drop k) := by
  intro h0
  rw [List.length_drop] at h0
  obtain ⟨b', off', e, h1, h2⟩ := h (by omega)
  cases e
  refine ⟨b, off + k, rfl, h1, fun j u hj => ?_⟩
  rw [List.getElem?_drop] at hj
  have := h2 _ _ hj
  rwa [← Nat.add_assoc] at this

/-- A slice that reads as l. -/
def Reads (w : World) (v : Value) (l : List Nat) : Prop := ∃ a cap, v = .slice a l.length cap ∧ l.length ≤ cap ∧ Lies w w.heap.size a (u8s l)
theorem Reads.step {w w' : World} {v : Value} {l : List Nat} (h : Reads w v l) (hb : Below w.heap.size w w') : Reads w' v l := by
  obtain ⟨a, cap, h1, h2, h3⟩ := h
  exact ⟨a, cap, h1, h2, h3.step hb⟩
theorem Reads.nil (w : World) : Reads w (.slice none 0 0) [] := ⟨none, 0, rfl, Nat.le_refl _, Lies.nil _ _ _⟩

theorem behind_any (a : Option Addr) (cap : Nat) (l : List Nat) (w : World) (hl : l.length ≤ 140737488355328) (hcap : l.length ≤ cap) (hr : Lies w w.heap.size a (u8s l)) :
    Calls Try.prog 23 #[.slice a l.length cap] w fun e w' => (∃ v, e = .returned v ∧ Reads w v (beh l)) ∧ w = w' := by
  have HI := Lib.hid (index_any a cap l w hl hr)
  have hz := zs_le l
  by_cases hlt : zs l < l.length
  · obtain ⟨b2, off, rfl, hbb, hc⟩ := hr (by rw [u8s_length]; omega)
    have HR : Hid (Reads w (.slice (some ⟨b2, off + zs l, none⟩) (l.length - zs l) (cap - zs l)) (beh l)) := Lib.hid (by
      refine ⟨_, _, by rw [beh_length], by rw [beh_length]; omega, ?_⟩
      have h := (show Lies w w.heap.size (some ⟨b2, off, none⟩) (u8s l) from fun _ => ⟨b2, off, rfl, hbb, hc⟩).drop (zs l)
      rwa [show u8s (beh l) = (u8s l).drop (zs l) by rw [beh, u8s, u8s, List.map_drop]])
    have hf : firstOf l = (zs l : Int) := if_pos hlt
    rw [hf] at HI
    generalize zs l = z at *
    generalize beh l = m at *
    have hz0 : 0 ≤ (z : Int) := by omega
    have hz1 : (z : Int) ≤ l.length := by omega
    have hz2 : ¬ (z : Int) < 0 := by omega
    clear hf hr hc
    go_enter Try.func23, Try.ntmps23
    go_wp2_with (go_at_call 28; (with_reducible refine HI.out.mono ?_); rintro e w1 ⟨rfl, rfl⟩)
    go_ret
    exact ⟨⟨_, rfl, HR.out⟩, rfl⟩
  · have hf : firstOf l = -1 := if_neg hlt
    rw [hf] at HI
    have HB : Hid (beh l = []) := Lib.hid (List.eq_nil_of_length_eq_zero (by rw [beh_length]; omega))
    clear hf hr
    go_enter Try.func23, Try.ntmps23
    go_wp2_with (go_at_call 28; (with_reducible refine HI.out.mono ?_); rintro e w1 ⟨rfl, rfl⟩)
    go_ret
    exact ⟨⟨_, rfl, by rw [HB.out]; exact Reads.nil _⟩, rfl⟩

theorem degree_any (a : Option Addr) (cap : Nat) (l : List Nat) (w : World) (hl : l.length ≤ 140737488355328) (hcap : l.length ≤ cap) (hr : Lies w w.heap.size a (u8s l)) :
    Calls Try.prog 10 #[.slice a l.length cap] w fun e w' => e = .returned (.int .i64 (((beh l).length : Int) - 1)) ∧ w = w' := by
  have HB := Lib.hid (behind_any a cap l w hl hcap hr)
  have hb := beh_length l
  generalize beh l = m at *
  have hb2 : m.length ≤ 140737488355328 := by omega
  clear hr hb
  go_enter Try.func10, Try.ntmps10
  go_wp2_with (go_at_call 23; (with_reducible refine HB.out.mono ?_); rintro e w1 ⟨⟨v, rfl, a', cap', rfl, hc, hr⟩, rfl⟩; have HR := Lib.hid hr; clear hr)
  go_ret
  exact ⟨rfl, rfl⟩

theorem less_any (x : Nat) (w : World) :
    Calls Try.prog 22 #[.int .u8 (x : Int)] w fun e w' => e = .returned (.slice (some ⟨w.heap.size, 0, none⟩) 2 2) ∧ Lies w' w'.heap.size (some ⟨w.heap.size, 0, none⟩) (u8s [1, x]) ∧ Below w.heap.size w w' := by
  go_enter Try.func22, Try.ntmps22
  go_wp2
  go_ret
  exact ⟨rfl, laid_two 1 x w _, alloc_below _ _⟩

end Go.Proofs.Ytpkjannlndnfdaa
