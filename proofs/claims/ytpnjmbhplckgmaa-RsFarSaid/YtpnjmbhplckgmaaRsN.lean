/- RsFar's walk, the other cases. From tools/rs_far.tail. -/
import Derived.Test.YtpnjmbhplckgmaaRsM
namespace Go.Proofs.Ytpnjmbhplckgmaa
open Go.RowKit GfMath PolyMath RsMath
set_option linter.unusedVariables false

set_option maxRecDepth 100000 in
set_option maxHeartbeats 4000000 in
theorem rsFar_bad (k p : Nat) (a : Option Addr) (ca : Nat) (X : List Nat) (c' : Option Addr) (cc : Nat) (Y : List Nat) (w : World) (hk1 : 1 ≤ k) (hp1 : 1 ≤ p) (hn : k + p ≤ 255) (hp64 : p ≤ 64) (hX : By X) (hca : X.length ≤ ca) (hca2 : ca ≤ 140737488351232) (hr : Lies w w.heap.size a (u8s X))
    (hY : By Y) (hcc : Y.length ≤ cc) (hcc2 : cc ≤ 140737488351232) (hs : Lies w w.heap.size c' (u8s Y)) (hbad : ¬ (X.length = k ∧ Y.length = k)) :
    Calls Try.prog 5 #[.int .i64 ((k + p : Nat) : Int), .int .i64 (k : Int), .agg #[.slice a X.length ca, .slice c' Y.length cc]] w fun e w' => e = .returned (.bool true) ∧ Below w.heap.size w w' := by
  obtain ⟨w0, hw0, q0, q1, b0, s0⟩ := pair_laid w (.slice a X.length ca) (.slice c' Y.length cc) 41
  have HW0 := Lib.hid hw0
  have B0 := Lib.hid b0
  have HA := Lib.hid (rsAwake_any w0)
  have HT : Hid (∀ u, Calls Try.prog 11 #[.int .i64 ((k + p : Nat) : Int), .int .i64 (k : Int)] u fun e w' => e = .returned (.bool true) ∧ u = w') := Lib.hid fun u => there_yes _ _ u (by omega)
  have HC : Hid (∀ (u : World) (b : Nat), Fld u b → Calls Try.prog 9 #[.pointer (some ⟨b, 0, none⟩), .int .i64 ((k + p : Nat) : Int), .int .i64 (k : Int)] u fun e w' => (∃ c, e = .returned (.tuple #[.pointer (some ⟨c, 0, none⟩), .int .i64 0]) ∧ Cod w' c b k p) ∧ Below u.heap.size u w') := Lib.hid fun u b h => rsNew_any b k p u h hk1 hp1 (by omega) hp64
  have HEB : ∀ (u : World) (b c : Nat) (ad : Option Addr) (cp : Nat) (L : List Nat), L.length ≠ k → L.length ≤ cp → cp ≤ 140737488351232 → Cod u c b k p → Calls Try.prog 13 #[.pointer (some ⟨c, 0, none⟩), .slice ad L.length cp] u fun e w' => e = .returned (.tuple #[.slice none 0 0, .int .i64 1]) ∧ u = w' := fun u b c ad cp L h1 h2 h3 h => by
    obtain ⟨a', c', h4, _⟩ := h.cor
    exact enc_bad c b k p _ ad L.length cp u h4 h1 (by omega)
  by_cases hl : X.length = k
  · have hl2 : Y.length ≠ k := fun h => hbad ⟨hl, h⟩
    have HE : Hid (∀ (u : World) (b c : Nat), Below w.heap.size w u → Cod u c b k p → Calls Try.prog 13 #[.pointer (some ⟨c, 0, none⟩), .slice a k ca] u fun e w' =>
      (∃ g c2, e = .returned (.tuple #[.slice (some ⟨g, 0, none⟩) (k + p) c2, .int .i64 0])) ∧ Below u.heap.size u w') := Lib.hid fun u b c hu h => (enc_row c b k p a ca X u h hl hX hca hca2 (hr.step hu)).mono fun e w' ⟨⟨g, c2, ys, h1, h2, h3, h4⟩, h5⟩ => ⟨⟨g, c2, h1⟩, h5⟩
    have HE2 : Hid (∀ (u : World) (b c : Nat), Cod u c b k p → Calls Try.prog 13 #[.pointer (some ⟨c, 0, none⟩), .slice c' Y.length cc] u fun e w' => e = .returned (.tuple #[.slice none 0 0, .int .i64 1]) ∧ u = w') := Lib.hid fun u b c h => HEB u b c c' cc Y hl2 hcc hcc2 h
    rw [hl] at q0 HW0 ⊢
    obtain ⟨m, hm⟩ : ∃ m, Y.length = m := ⟨_, rfl⟩
    rw [hm] at q1 HW0 HE2 hl2 ⊢
    obtain ⟨n, hnn⟩ : ∃ n, k + p = n := ⟨_, rfl⟩
    rw [hnn] at HT HC HE ⊢
    have hmf : ((m : Int) != (k : Int)) = true := by simp; omega
    have hmk : ¬ (m : Int) = (k : Int) := by omega
    have hkk : ((k : Int) != (k : Int)) = false := by simp
    clear hw0 b0 hr hs hX hY hca hca2 hcc hcc2 hl hnn hm HEB hbad
    go_enter Try.func5, Try.ntmps5
    go_wp2_with (first
      | (go_at_call 8; (rw [← HW0.out]); (with_reducible refine HA.out.mono ?_); rintro e u1 ⟨rfl, b1⟩; have B1 := Lib.hid (B0.out.next b1); have W1 := Lib.hid b1; clear b1)
      | (go_at_call 11; (with_reducible refine (HT.out _).mono ?_); rintro e v2 ⟨rfl, rfl⟩)
      | (go_at_call 10; (with_reducible refine (gfNew_any u1).mono ?_); rintro e u2 ⟨rfl, f2, b2⟩; have F2 := Lib.hid f2; have B2 := Lib.hid (B1.out.next b2); have W2 := Lib.hid (W1.out.next b2); clear f2 b2)
      | (go_at_call 9; (with_reducible refine (HC.out u2 _ F2.out).mono ?_); rintro e u3 ⟨⟨c, rfl, d3⟩, b3⟩; have D3 := Lib.hid d3; have B3 := Lib.hid (B2.out.next b3); have W3 := Lib.hid (W2.out.next b3); have r0 := (W3.out.cell (p := ⟨w.heap.size, 0, none⟩) s0).trans q0; clear d3 b3)
      | (go_at_call 13; (with_reducible refine (HE.out u3 _ c B3.out D3.out).mono ?_); rintro e u4 ⟨⟨g1, c1, rfl⟩, b4⟩; have D4 := Lib.hid (D3.out.step b4); have B4 := Lib.hid (B3.out.next b4); have W4 := Lib.hid (W3.out.next b4); have r1 := (W4.out.cell (p := ⟨w.heap.size, 1, none⟩) s0).trans q1; have r2 := (W4.out.cell (p := ⟨w.heap.size, 0, none⟩) s0).trans q0; clear b4)
      | (go_at_call 13; (with_reducible refine (HE2.out u4 _ c D4.out).mono ?_); rintro e u5 ⟨rfl, rfl⟩))
    go_ret
    exact ⟨rfl, B4.out⟩
  · by_cases hl2 : Y.length = k
    · have HE : Hid (∀ (u : World) (b c : Nat), Cod u c b k p → Calls Try.prog 13 #[.pointer (some ⟨c, 0, none⟩), .slice a X.length ca] u fun e w' => e = .returned (.tuple #[.slice none 0 0, .int .i64 1]) ∧ u = w') := Lib.hid fun u b c h => HEB u b c a ca X hl hca hca2 h
      have HE2 : Hid (∀ (u : World) (b c : Nat), Below w.heap.size w u → Cod u c b k p → Calls Try.prog 13 #[.pointer (some ⟨c, 0, none⟩), .slice c' k cc] u fun e w' =>
        (∃ g c2, e = .returned (.tuple #[.slice (some ⟨g, 0, none⟩) (k + p) c2, .int .i64 0])) ∧ Below u.heap.size u w') := Lib.hid fun u b c hu h => (enc_row c b k p c' cc Y u h hl2 hY hcc hcc2 (hs.step hu)).mono fun e w' ⟨⟨g, c2, ys, h1, h2, h3, h4⟩, h5⟩ => ⟨⟨g, c2, h1⟩, h5⟩
      rw [hl2] at q1 HW0 ⊢
      obtain ⟨m, hm⟩ : ∃ m, X.length = m := ⟨_, rfl⟩
      rw [hm] at q0 HW0 HE hl ⊢
      obtain ⟨n, hnn⟩ : ∃ n, k + p = n := ⟨_, rfl⟩
      rw [hnn] at HT HC HE2 ⊢
      have hmf : ((m : Int) != (k : Int)) = true := by simp; omega
      have hmk : ¬ (m : Int) = (k : Int) := by omega
      clear hw0 b0 hr hs hX hY hca hca2 hcc hcc2 hl2 hnn hm HEB hbad
      go_enter Try.func5, Try.ntmps5
      go_wp2_with (first
        | (go_at_call 8; (rw [← HW0.out]); (with_reducible refine HA.out.mono ?_); rintro e u1 ⟨rfl, b1⟩; have B1 := Lib.hid (B0.out.next b1); have W1 := Lib.hid b1; clear b1)
        | (go_at_call 11; (with_reducible refine (HT.out _).mono ?_); rintro e v2 ⟨rfl, rfl⟩)
        | (go_at_call 10; (with_reducible refine (gfNew_any u1).mono ?_); rintro e u2 ⟨rfl, f2, b2⟩; have F2 := Lib.hid f2; have B2 := Lib.hid (B1.out.next b2); have W2 := Lib.hid (W1.out.next b2); clear f2 b2)
        | (go_at_call 9; (with_reducible refine (HC.out u2 _ F2.out).mono ?_); rintro e u3 ⟨⟨c, rfl, d3⟩, b3⟩; have D3 := Lib.hid d3; have B3 := Lib.hid (B2.out.next b3); have W3 := Lib.hid (W2.out.next b3); have r0 := (W3.out.cell (p := ⟨w.heap.size, 0, none⟩) s0).trans q0; have r1 := (W3.out.cell (p := ⟨w.heap.size, 1, none⟩) s0).trans q1; clear d3 b3)
        | (go_at_call 13; (with_reducible refine (HE.out u3 _ c D3.out).mono ?_); rintro e u4 ⟨rfl, rfl⟩)
        | (go_at_call 13; (with_reducible refine (HE2.out u3 _ c B3.out D3.out).mono ?_); rintro e u5 ⟨⟨g1, c1, rfl⟩, b5⟩; have B5 := Lib.hid (B3.out.next b5); have W5 := Lib.hid (W3.out.next b5); have r2 := (W5.out.cell (p := ⟨w.heap.size, 0, none⟩) s0).trans q0; clear b5))
      go_ret
      exact ⟨rfl, B5.out⟩
    · have HE : Hid (∀ (u : World) (b c : Nat), Cod u c b k p → Calls Try.prog 13 #[.pointer (some ⟨c, 0, none⟩), .slice a X.length ca] u fun e w' => e = .returned (.tuple #[.slice none 0 0, .int .i64 1]) ∧ u = w') := Lib.hid fun u b c h => HEB u b c a ca X hl hca hca2 h
      have HE2 : Hid (∀ (u : World) (b c : Nat), Cod u c b k p → Calls Try.prog 13 #[.pointer (some ⟨c, 0, none⟩), .slice c' Y.length cc] u fun e w' => e = .returned (.tuple #[.slice none 0 0, .int .i64 1]) ∧ u = w') := Lib.hid fun u b c h => HEB u b c c' cc Y hl2 hcc hcc2 h
      obtain ⟨m, hm⟩ : ∃ m, X.length = m := ⟨_, rfl⟩
      obtain ⟨m2, hm2⟩ : ∃ m, Y.length = m := ⟨_, rfl⟩
      rw [hm] at q0 HW0 HE hl ⊢
      rw [hm2] at q1 HW0 HE2 hl2 ⊢
      obtain ⟨n, hnn⟩ : ∃ n, k + p = n := ⟨_, rfl⟩
      rw [hnn] at HT HC ⊢
      have hmf : ((m : Int) != (k : Int)) = true := by simp; omega
      have hmk : ¬ (m : Int) = (k : Int) := by omega
      clear hw0 b0 hr hs hX hY hca hca2 hcc hcc2 hnn hm HEB hbad hm2
      go_enter Try.func5, Try.ntmps5
      go_wp2_with (first
        | (go_at_call 8; (rw [← HW0.out]); (with_reducible refine HA.out.mono ?_); rintro e u1 ⟨rfl, b1⟩; have B1 := Lib.hid (B0.out.next b1); have W1 := Lib.hid b1; clear b1)
        | (go_at_call 11; (with_reducible refine (HT.out _).mono ?_); rintro e v2 ⟨rfl, rfl⟩)
        | (go_at_call 10; (with_reducible refine (gfNew_any u1).mono ?_); rintro e u2 ⟨rfl, f2, b2⟩; have F2 := Lib.hid f2; have B2 := Lib.hid (B1.out.next b2); have W2 := Lib.hid (W1.out.next b2); clear f2 b2)
        | (go_at_call 9; (with_reducible refine (HC.out u2 _ F2.out).mono ?_); rintro e u3 ⟨⟨c, rfl, d3⟩, b3⟩; have D3 := Lib.hid d3; have B3 := Lib.hid (B2.out.next b3); have W3 := Lib.hid (W2.out.next b3); have r0 := (W3.out.cell (p := ⟨w.heap.size, 0, none⟩) s0).trans q0; have r1 := (W3.out.cell (p := ⟨w.heap.size, 1, none⟩) s0).trans q1; clear d3 b3)
        | (go_at_call 13; (with_reducible refine (HE.out u3 _ c D3.out).mono ?_); rintro e u4 ⟨rfl, rfl⟩)
        | (go_at_call 13; (with_reducible refine (HE2.out u3 _ c D3.out).mono ?_); rintro e u5 ⟨rfl, rfl⟩))
      go_ret
      exact ⟨rfl, B3.out⟩

theorem rsFar_walk (n k : Int) (a : Option Addr) (ca : Nat) (X : List Nat) (c' : Option Addr) (cc : Nat) (Y : List Nat) (w : World) (hX : By X) (hca : X.length ≤ ca) (hca2 : ca ≤ 140737488351232) (hr : Lies w w.heap.size a (u8s X))
    (hY : By Y) (hcc : Y.length ≤ cc) (hcc2 : cc ≤ 140737488351232) (hs : Lies w w.heap.size c' (u8s Y)) :
    Calls Try.prog 5 #[.int .i64 n, .int .i64 k, .agg #[.slice a X.length ca, .slice c' Y.length cc]] w fun e w' => e = .returned (.bool true) ∧ Below w.heap.size w w' := by
  by_cases ht : 1 ≤ k ∧ k < n ∧ n ≤ 255 ∧ n - k ≤ 64
  · obtain ⟨k', rfl⟩ : ∃ k' : Nat, k = (k' : Int) := ⟨k.toNat, by omega⟩
    obtain ⟨p, rfl⟩ : ∃ p : Nat, n = ((k' + p : Nat) : Int) := ⟨(n - k').toNat, by omega⟩
    by_cases hg : X.length = k' ∧ Y.length = k'
    · obtain ⟨hl, hl2⟩ := hg
      have := rsFar_good k' p a ca X c' cc Y w (by omega) (by omega) (by omega) (by omega) hl hX hca hca2 hr hl2 hY hcc hcc2 hs
      rw [hl, hl2]
      exact this
    · exact rsFar_bad k' p a ca X c' cc Y w (by omega) (by omega) (by omega) (by omega) hX hca hca2 hr hY hcc hcc2 hs hg
  · obtain ⟨w0, hw0, q0, q1, b0, s0⟩ := pair_laid w (.slice a X.length ca) (.slice c' Y.length cc) 41
    have HW0 := Lib.hid hw0
    have B0 := Lib.hid b0
    have HA := Lib.hid (rsAwake_any w0)
    have HT : Hid (∀ u, Calls Try.prog 11 #[.int .i64 n, .int .i64 k] u fun e w' => e = .returned (.bool false) ∧ u = w') := Lib.hid fun u => there_no n k u ht
    clear hw0 b0 hr hs hX hY hca hca2 hcc hcc2 ht q0 q1
    go_enter Try.func5, Try.ntmps5
    go_wp2_with (first
      | (go_at_call 8; (rw [← HW0.out]); (with_reducible refine HA.out.mono ?_); rintro e u1 ⟨rfl, b1⟩; have B1 := Lib.hid (B0.out.next b1); clear b1)
      | (go_at_call 11; (with_reducible refine (HT.out _).mono ?_); rintro e v2 ⟨rfl, rfl⟩))
    go_ret
    exact ⟨rfl, B1.out⟩

end Go.Proofs.Ytpnjmbhplckgmaa
