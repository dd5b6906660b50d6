/- The contract of stripe's Update, where it tells ErrArg. -/
import Derived.Test.YtpoipbngefcdnaaGreatStrMath3
namespace Go.Proofs.YtpoipbngefcdnaaGreat
open Go.RowKit CrcMath GfMath PolyMath RsMath SolMath GeoMath
set_option linter.unusedVariables false
set_option maxRecDepth 100000

set_option maxHeartbeats 1000000 in
theorem str_update_bad (c cc b sb k p s : Nat) (a : Option Addr) (m cap : Nat) (at_ : Int) (M : List Value) (w : World) (h : Cdr w c cc b sb k p s) (hbad : m ≠ k + p ∨ (m = k + p ∧ (at_ < 0 ∨ (k : Int) ≤ at_))) :
    Calls Tryz.prog 23 #[.pointer (some ⟨c, 0, none⟩), .slice a m cap, .int .i64 at_, .agg M.toArray] w fun e w' => e = .returned (.tuple #[.slice none 0 0, .slice none 0 0, .int .i64 1]) ∧ Below w.heap.size w w' := by
  have HN : Hid (∀ u, Below w.heap.size w u → Calls Tryz.prog 31 #[.pointer (some ⟨c, 0, none⟩)] u fun e w' => e = .returned (.bool false) ∧ Below u.heap.size u w') := Lib.hid fun u hu => str_none_any c cc b sb k p s u (h.step hu)
  obtain ⟨n, hn⟩ : ∃ n, k + p = n := ⟨_, rfl⟩
  have HWI : Hid (∀ u, Below w.heap.size w u → Calls Tryz.prog 33 #[.pointer (some ⟨c, 0, none⟩)] u fun e w' => e = .returned (.int .i64 (n : Int)) ∧ Below u.heap.size u w') := Lib.hid fun u hu => by rw [← hn]; exact str_wide_any c cc b sb k p s u (h.step hu)
  have HDA : Hid (∀ u, Below w.heap.size w u → Calls Tryz.prog 32 #[.pointer (some ⟨c, 0, none⟩)] u fun e w' => e = .returned (.int .i64 (k : Int)) ∧ Below u.heap.size u w') := Lib.hid fun u hu => str_data_any c cc b sb k p s u (h.step hu)
  rw [hn] at hbad
  clear h hn
  rcases hbad with h1 | ⟨h1, h2 | h2⟩
  · have e1 : ((m : Int) == (n : Int)) = false := by simp; omega
    have hne : ¬ (m : Int) = (n : Int) := by omega
    clear h1
    go_enter Tryz.func23, Tryz.ntmps23
    go_wp2_with (first
      | ((with_reducible refine wpBoxK (w := w) M 40 ?_ ?_); rfl; intro u1 r1 b1 s1; have B1 := Lib.hid b1; clear r1 b1 s1)
      | (go_at_call 31; (with_reducible refine (HN.out u1 B1.out).mono ?_); rintro e u2 ⟨rfl, b2⟩; have B2 := Lib.hid (B1.out.next b2); clear b2)
      | (go_at_call 33; (with_reducible refine (HWI.out u2 B2.out).mono ?_); rintro e u3 ⟨rfl, b3⟩; have B3 := Lib.hid (B2.out.next b3); clear b3)
      | (go_at_call 32; (with_reducible refine (HDA.out u3 B3.out).mono ?_); rintro e u4 ⟨rfl, b4⟩; have B4 := Lib.hid (B3.out.next b4); clear b4))
    go_ret3
    exact ⟨rfl, B3.out⟩
  · subst h1
    have e1 : ((m : Int) == (m : Int)) = true := by simp
    go_enter Tryz.func23, Tryz.ntmps23
    go_wp2_with (first
      | ((with_reducible refine wpBoxK (w := w) M 40 ?_ ?_); rfl; intro u1 r1 b1 s1; have B1 := Lib.hid b1; clear r1 b1 s1)
      | (go_at_call 31; (with_reducible refine (HN.out u1 B1.out).mono ?_); rintro e u2 ⟨rfl, b2⟩; have B2 := Lib.hid (B1.out.next b2); clear b2)
      | (go_at_call 33; (with_reducible refine (HWI.out u2 B2.out).mono ?_); rintro e u3 ⟨rfl, b3⟩; have B3 := Lib.hid (B2.out.next b3); clear b3)
      | (go_at_call 32; (with_reducible refine (HDA.out u3 B3.out).mono ?_); rintro e u4 ⟨rfl, b4⟩; have B4 := Lib.hid (B3.out.next b4); clear b4))
    go_ret3
    exact ⟨rfl, B3.out⟩
  · subst h1
    have e1 : ((m : Int) == (m : Int)) = true := by simp
    by_cases h0 : at_ < 0
    · go_enter Tryz.func23, Tryz.ntmps23
      go_wp2_with (first
      | ((with_reducible refine wpBoxK (w := w) M 40 ?_ ?_); rfl; intro u1 r1 b1 s1; have B1 := Lib.hid b1; clear r1 b1 s1)
      | (go_at_call 31; (with_reducible refine (HN.out u1 B1.out).mono ?_); rintro e u2 ⟨rfl, b2⟩; have B2 := Lib.hid (B1.out.next b2); clear b2)
      | (go_at_call 33; (with_reducible refine (HWI.out u2 B2.out).mono ?_); rintro e u3 ⟨rfl, b3⟩; have B3 := Lib.hid (B2.out.next b3); clear b3)
      | (go_at_call 32; (with_reducible refine (HDA.out u3 B3.out).mono ?_); rintro e u4 ⟨rfl, b4⟩; have B4 := Lib.hid (B3.out.next b4); clear b4))
      go_ret3
      exact ⟨rfl, B3.out⟩
    · go_enter Tryz.func23, Tryz.ntmps23
      go_wp2_with (first
      | ((with_reducible refine wpBoxK (w := w) M 40 ?_ ?_); rfl; intro u1 r1 b1 s1; have B1 := Lib.hid b1; clear r1 b1 s1)
      | (go_at_call 31; (with_reducible refine (HN.out u1 B1.out).mono ?_); rintro e u2 ⟨rfl, b2⟩; have B2 := Lib.hid (B1.out.next b2); clear b2)
      | (go_at_call 33; (with_reducible refine (HWI.out u2 B2.out).mono ?_); rintro e u3 ⟨rfl, b3⟩; have B3 := Lib.hid (B2.out.next b3); clear b3)
      | (go_at_call 32; (with_reducible refine (HDA.out u3 B3.out).mono ?_); rintro e u4 ⟨rfl, b4⟩; have B4 := Lib.hid (B3.out.next b4); clear b4))
      go_ret3
      exact ⟨rfl, B4.out⟩
end Go.Proofs.YtpoipbngefcdnaaGreat
