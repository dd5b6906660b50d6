/- SolveAgain's walk, whole. -/
import Derived.Test.YtcjjdnijdbmegaaSolI
namespace Go.Proofs.Ytcjjdnijdbmegaa
open Go.RowKit GfMath PolyMath RsMath SolMath
set_option linter.unusedVariables false
set_option maxRecDepth 100000

theorem mendF_at_le {seek : Nat → List Nat → Nat → List Nat} {n p : Nat} {W m l : List Nat} {er : List Int} (h : mendF seek n p W er = .ok m l) : l.length ≤ n := by
  rw [mendF_eq] at h
  split at h
  · cases h
  · unfold mendG at h
    simp only at h
    split at h
    · injection h with h1 h2
      subst h2
      exact atF_le _ n
    · cases h

set_option maxHeartbeats 1000000 in
theorem solveAgain_walk (n k : Int) (a : Option Addr) (ca : Nat) (W : List Nat) (c' : Option Addr) (ce : Nat) (er : List Int) (w : World) (hW8 : By W) (hr : Lies w w.heap.size a (u8s W)) (hca : W.length ≤ ca) (her : Lies w w.heap.size c' (ints er)) :
    Calls Try.prog 6 #[.int .i64 n, .int .i64 k, .agg #[.slice a W.length ca, .slice c' er.length ce]] w fun e w' => e = .returned (.bool true) ∧ Below w.heap.size w w' := by
  by_cases hgood : (1 ≤ k ∧ k < n ∧ n ≤ 255 ∧ n - k ≤ 64) ∧ W.length ≤ 300 ∧ er.length ≤ 60
  · obtain ⟨ht, hl, he⟩ := hgood
    obtain ⟨k', rfl⟩ : ∃ k' : Nat, k = (k' : Int) := ⟨k.toNat, by omega⟩
    obtain ⟨p, rfl⟩ : ∃ p : Nat, n = ((k' + p : Nat) : Int) := ⟨(n - k').toNat, by omega⟩
    by_cases hn : W.length = k' + p
    · have hM : ∀ (u : World) (b c : Nat), Below w.heap.size w u → Cod u c b k' p → ∀ (er2 : List Int) (v : Value), (∀ x, x ∈ er ↔ x ∈ er2) → er2.length ≤ 1000 → Rz er2 v u → Calls Try.prog 12 #[.pointer (some ⟨c, 0, none⟩), .slice a W.length ca, v] u fun e w' =>
          Mdd (mendF masseyF (k' + p) p W er) (k' + p) e w' ∧ Below u.heap.size u w' := by
        intro u b c hb hc er2 v hm hl2 hv
        obtain ⟨wb, wo, rfl, h1, h2⟩ := hr (by rw [u8s_length]; omega)
        obtain ⟨a2, c2, rfl, h3⟩ := hv
        have := mend_any c b k' p wb wo ca W a2 c2 er2 u hc hn hca hW8 ((show Lies w w.heap.size (some ⟨wb, wo, none⟩) (u8s W) from fun _ => ⟨wb, wo, rfl, h1, h2⟩).step hb) hl2 h3
        rw [← mendF_mem masseyF p W hm] at this
        rwa [hn]
      cases hmd : mendF masseyF (k' + p) p W er with
      | arg =>
        exact again_fail k' p a W.length ca c' ce er 1 w (by omega) (by omega) (by omega) (by omega) hl he her (Or.inl rfl) fun u b c hb hc er2 v hm hl2 hv => (hM u b c hb hc er2 v hm hl2 hv).mono fun e w' ⟨h1, h2⟩ => by
          rw [hmd] at h1
          exact ⟨h1, h2⟩
      | bad =>
        exact again_fail k' p a W.length ca c' ce er 8 w (by omega) (by omega) (by omega) (by omega) hl he her (Or.inr rfl) fun u b c hb hc er2 v hm hl2 hv => (hM u b c hb hc er2 v hm hl2 hv).mono fun e w' ⟨h1, h2⟩ => by
          rw [hmd] at h1
          exact ⟨h1, h2⟩
      | ok m l =>
        obtain ⟨o1, o2, o3, o4⟩ := mendF_ok hmd
        have o5 := mendF_by hW8 hmd
        have o6 := mendF_right (n := k' + p) (p := p) (m := m) (er := er) (by omega) o2 o1 o3
        have o7 := mendF_at_le hmd
        refine again_ok k' p a W.length ca c' ce er m l w (by omega) (by omega) (by omega) (by omega) hl he her o5 (by omega) o2 (by omega) (fun u b c hb hc er2 v hm hl2 hv => (hM u b c hb hc er2 v hm hl2 hv).mono fun e w' ⟨h1, h2⟩ => ?_) (fun u b c gm cm hc hcm hL v hv => ?_)
        · rw [hmd] at h1
          obtain ⟨gm, cm, y, e1, e2, e3, e4⟩ := h1
          exact ⟨⟨gm, cm, y, e1, e2, e3, e4⟩, h2⟩
        · obtain ⟨a2, c2, rfl, h3⟩ := hv
          refine (mend_any c b k' p gm 0 cm m a2 c2 er u hc (by omega) (by omega) o5 hL (by omega) h3).mono fun e w' ⟨h1, h2⟩ => ?_
          rw [o6] at h1
          obtain ⟨gm, cm, y, e1, e2, e3, e4⟩ := h1
          exact ⟨⟨gm, cm, y, e1, e2, e3, e4⟩, h2⟩
    · exact again_fail k' p a W.length ca c' ce er 1 w (by omega) (by omega) (by omega) (by omega) hl he her (Or.inl rfl) fun u b c hb hc er2 v hm hl2 hv => by
        obtain ⟨a', cap', hcor, _⟩ := hc.cor
        exact mend_bad c b k' p _ a W.length ca v u hcor hn (by omega)
  · obtain ⟨w0, hw0, q0, q1, b0, s0⟩ := pair_laid w (.slice a W.length ca) (.slice c' er.length ce) 25
    have HW0 := Lib.hid hw0
    have B0 := Lib.hid b0
    have HA := Lib.hid (solAwake_any w0)
    have hcab : (W.length : Int) < 9223372036854775807 ∨ True := Or.inr trivial
    obtain ⟨m, hm⟩ : ∃ m, W.length = m := ⟨_, rfl⟩
    obtain ⟨t, htt⟩ : ∃ t, er.length = t := ⟨_, rfl⟩
    rw [hm] at q0 HW0 hgood ⊢
    rw [htt] at q1 HW0 hgood ⊢
    clear hw0 b0 hr hW8 hca her hm htt hcab
    by_cases ht : 1 ≤ k ∧ k < n ∧ n ≤ 255 ∧ n - k ≤ 64
    · have HT : Hid (∀ u, Calls Try.prog 15 #[.int .i64 n, .int .i64 k] u fun e w' => e = .returned (.bool true) ∧ u = w') := Lib.hid fun u => there_yes n k u ht
      by_cases hl : m ≤ 300
      · have h3 : (t : Int) > 60 := by
          have : ¬ t ≤ 60 := fun h => hgood ⟨ht, hl, h⟩
          omega
        have hl1 : (m : Int) ≤ 300 := by omega
        clear hgood ht hl
        go_enter Try.func6, Try.ntmps6
        go_wp2_with (first
          | (go_at_call 8; (rw [← HW0.out]); (with_reducible refine HA.out.mono ?_); rintro e u1 ⟨rfl, b1⟩; have B1 := Lib.hid (B0.out.next b1); have r0 := (b1.cell (p := ⟨w.heap.size, 0, none⟩) s0).trans q0; have r1 := (b1.cell (p := ⟨w.heap.size, 1, none⟩) s0).trans q1; clear b1 q0 q1)
          | (go_at_call 15; (with_reducible refine (HT.out u1).mono ?_); rintro e ux ⟨rfl, rfl⟩))
        go_ret
        exact ⟨rfl, B1.out⟩
      · have hl1 : (m : Int) > 300 := by omega
        clear hgood ht hl
        go_enter Try.func6, Try.ntmps6
        go_wp2_with (first
          | (go_at_call 8; (rw [← HW0.out]); (with_reducible refine HA.out.mono ?_); rintro e u1 ⟨rfl, b1⟩; have B1 := Lib.hid (B0.out.next b1); have r0 := (b1.cell (p := ⟨w.heap.size, 0, none⟩) s0).trans q0; have r1 := (b1.cell (p := ⟨w.heap.size, 1, none⟩) s0).trans q1; clear b1 q0 q1)
          | (go_at_call 15; (with_reducible refine (HT.out u1).mono ?_); rintro e ux ⟨rfl, rfl⟩))
        go_ret
        exact ⟨rfl, B1.out⟩
    · have HT : Hid (∀ u, Calls Try.prog 15 #[.int .i64 n, .int .i64 k] u fun e w' => e = .returned (.bool false) ∧ u = w') := Lib.hid fun u => there_no n k u ht
      clear hgood ht
      go_enter Try.func6, Try.ntmps6
      go_wp2_with (first
        | (go_at_call 8; (rw [← HW0.out]); (with_reducible refine HA.out.mono ?_); rintro e u1 ⟨rfl, b1⟩; have B1 := Lib.hid (B0.out.next b1); clear b1 q0 q1)
        | (go_at_call 15; (with_reducible refine (HT.out u1).mono ?_); rintro e ux ⟨rfl, rfl⟩))
      go_ret
      exact ⟨rfl, B1.out⟩

end Go.Proofs.Ytcjjdnijdbmegaa
