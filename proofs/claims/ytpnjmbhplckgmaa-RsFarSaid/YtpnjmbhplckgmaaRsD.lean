/- Contracts of rs's Syndromes, Right. -/
import Derived.Test.YtpnjmbhplckgmaaRsC
namespace Go.Proofs.Ytpnjmbhplckgmaa
open Go.RowKit GfMath PolyMath RsMath
set_option linter.unusedVariables false

/-- The two variables that Syndromes lays. -/
theorem two_laid (w : World) (x y : Value) (s t : TypeId) : ∃ u, u = (w.alloc (.cells #[x] s)).alloc (.cells #[y] t) ∧ u.cell? ⟨w.heap.size, 0, none⟩ = some x ∧ u.cell? ⟨w.heap.size + 1, 0, none⟩ = some y ∧ Below w.heap.size w u ∧ u.heap.size = w.heap.size + 2 := by
  have r1 : Row (w.alloc (.cells #[x] s)) w.heap.size s [x] := Row.new w s [x]
  have r2 : Row ((w.alloc (.cells #[x] s)).alloc (.cells #[y] t)) (w.alloc (.cells #[x] s)).heap.size t [y] := Row.new _ t [y]
  have hs : (w.alloc (.cells #[x] s)).heap.size = w.heap.size + 1 := by simp
  refine ⟨_, rfl, ?_, ?_, (alloc_below _ _).next (alloc_below _ _), by simp⟩
  · rw [(r1.alloc _).cell]; rfl
  · rw [hs] at r2; rw [r2.cell]; rfl

theorem syn_nil (a : Option Addr) (n cap : Nat) (w : World) : Calls Try.prog 17 #[.pointer none, .slice a n cap] w fun e w' => e = .returned (.tuple #[.slice none 0 0, .int .i64 1]) ∧ Below w.heap.size w w' := by
  have HN : Hid (∀ u, Calls Try.prog 25 #[.pointer none] u fun e w' => e = .returned (.bool true) ∧ w' = u) := Lib.hid fun u => (none_nil u).mono fun _ _ h => ⟨h.1, h.2.symm⟩
  obtain ⟨u2, hu, q1, q2, b2, s2⟩ := two_laid w (.pointer none) (.slice a n cap) 24 22
  have HU := Lib.hid hu
  have B2 := Lib.hid b2
  clear hu b2 s2
  go_enter Try.func17, Try.ntmps17
  go_wp2
  rw [← HU.out]
  go_quiet ((go_at_call 25; exact Calls.quiet_of_same (HN.out _)))
  go_wp2
  go_ret2
  exact ⟨rfl, B2.out.drewN _⟩

theorem syn_bad (c b k p : Nat) (v : Value) (a : Option Addr) (n cap : Nat) (w : World) (h : Cor w c b k p v) (hn : n ≠ k + p) (hl : n ≤ 140737488355328) : Calls Try.prog 17 #[.pointer (some ⟨c, 0, none⟩), .slice a n cap] w fun e w' => e = .returned (.tuple #[.slice none 0 0, .int .i64 1]) ∧ Below w.heap.size w w' := by
  obtain ⟨u2, hu, q1, q2, b2, s2⟩ := two_laid w (.pointer (some ⟨c, 0, none⟩)) (.slice a n cap) 24 22
  have hc2 := h.step b2
  have HN : Hid (∀ d, Calls Try.prog 25 #[.pointer (some ⟨c, 0, none⟩)] (u2.drewN d) fun e w' => e = .returned (.bool false) ∧ w' = u2.drewN d) := Lib.hid fun d => (none_any c b k p v _ (hc2.step ((Below.refl _ _).drewN d))).mono fun _ _ h => ⟨h.1, h.2.symm⟩
  have q3 := hc2.c1
  have HU := Lib.hid hu
  have B2 := Lib.hid b2
  obtain ⟨m, hm⟩ : ∃ m, k + p = m := ⟨_, rfl⟩
  rw [hm] at q3 hn
  have hne : ((n : Int) != (m : Int)) = true := by simp; omega
  have hne2 : ¬ (n : Int) = (m : Int) := by omega
  clear hu b2 s2 h hc2 hm
  go_enter Try.func17, Try.ntmps17
  go_wp2
  rw [← HU.out]
  go_quiet ((go_at_call 25; exact Calls.quiet_of_same (HN.out _)))
  go_wp2
  go_ret2
  exact ⟨rfl, B2.out.drewN _⟩

set_option maxRecDepth 100000 in
theorem syn_any (c b k p : Nat) (v : Value) (a : Option Addr) (cap : Nat) (l : List Nat) (w : World) (h : Cor w c b k p v) (hn : k + p ≤ 255) (hl : l.length = k + p) (hby : By l) (hcap : l.length ≤ cap) (hr : Lies w w.heap.size a (u8s l)) :
    Calls Try.prog 17 #[.pointer (some ⟨c, 0, none⟩), .slice a (k + p) cap] w fun e w' =>
      (∃ g, e = .returned (.tuple #[.slice (some ⟨g, 0, none⟩) p p, .int .i64 0]) ∧ w.heap.size ≤ g ∧ Row w' g 5 (u8s (tab p fun i => ev l (ex i)))) ∧ Below w.heap.size w w' := by
  obtain ⟨u2, hu, q1, q2, b2, s2⟩ := two_laid w (.pointer (some ⟨c, 0, none⟩)) (.slice a (k + p) cap) 24 22
  have hc2 := h.step b2
  have HN : Hid (∀ d, Calls Try.prog 25 #[.pointer (some ⟨c, 0, none⟩)] (u2.drewN d) fun e w' => e = .returned (.bool false) ∧ w' = u2.drewN d) := Lib.hid fun d => (none_any c b k p v _ (hc2.step ((Below.refl _ _).drewN d))).mono fun _ _ h => ⟨h.1, h.2.symm⟩
  have HEA : Hid (∀ d, Calls Try.prog 22 #[.pointer (some ⟨c, 0, none⟩), .func (.func 32) #[] #[.pointer (some ⟨w.heap.size, 0, none⟩), .pointer (some ⟨w.heap.size + 1, 0, none⟩)]] (u2.drewN d) fun e w' => (∃ g, e = .returned (.slice (some ⟨g, 0, none⟩) p p) ∧ w.heap.size ≤ g ∧ Row w' g 5 (u8s (tab p fun i => ev l (ex i)))) ∧ Below w.heap.size w w') := Lib.hid fun d => by
    have e1 : (u2.drewN d).heap.size = w.heap.size + 2 := s2
    refine (each_at c b k p v w.heap.size (w.heap.size + 1) a cap l _ (hc2.step ((Below.refl _ _).drewN d)) hn (by omega) hby hcap ((hr.step b2).step ((Below.refl _ _).drewN d)) (by omega) (by omega) q1 (by rw [hl]; exact q2)).mono fun e w' ⟨⟨g, h1, h2, h3⟩, h4⟩ => ⟨⟨g, h1, by omega, h3⟩, (b2.drewN d).trans (h4.mono (by omega))⟩
  have q3 := hc2.c1
  have HU := Lib.hid hu
  obtain ⟨m, hm⟩ : ∃ m, k + p = m := ⟨_, rfl⟩
  rw [hm] at q3 hn HU
  have hmb : (m : Int) ≤ 255 := by omega
  rw [hm] at q2 ⊢
  clear hu b2 s2 h hc2 hm hr hby hl
  go_enter Try.func17, Try.ntmps17
  go_wp2
  rw [← HU.out]
  go_quiet ((go_at_call 25; exact Calls.quiet_of_same (HN.out _)))
  go_wp2_with (go_at_call 22; (with_reducible refine (HEA.out _).mono ?_); rintro e u3 ⟨⟨g, rfl, g0, r3⟩, b3⟩; have G0 := Lib.hid g0; have R3 := Lib.hid r3; have B3 := Lib.hid b3; clear g0 r3 b3)
  go_ret2
  exact ⟨⟨_, rfl, G0.out, R3.out⟩, B3.out⟩

end Go.Proofs.Ytpnjmbhplckgmaa
