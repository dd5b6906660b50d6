/- SolveBack's walk, whole. -/
import Derived.Test.YtljhbpbjppmoiaaSolL
namespace Go.Proofs.Ytljhbpbjppmoiaa
open Go.RowKit GfMath PolyMath RsMath SolMath Go.Maps
set_option linter.unusedVariables false
set_option maxRecDepth 100000

set_option maxHeartbeats 4000000 in
theorem solveBack_early (n k : Int) (a : Option Addr) (ca lX : Nat) (c' : Option Addr) (ce ne : Nat) (t' : Option Addr) (ct nt : Nat) (w : World) (hX : lX < 9223372036854775808) (he : ne < 9223372036854775808) (ht : nt < 9223372036854775808)
    (h : ¬ ((1 ≤ k ∧ k < n ∧ n ≤ 255 ∧ n - k ≤ 64) ∧ (lX : Int) = k ∧ nt ≤ 60 ∧ ne ≤ 60)) :
    Calls Try.prog 3 #[.int .i64 n, .int .i64 k, .agg #[.slice a lX ca, .slice c' ne ce, .slice t' nt ct]] w fun e w' => e = .returned (.bool true) ∧ Below w.heap.size w w' := by
  have HA := Lib.hid solAwake_any
  by_cases h1 : 1 ≤ k ∧ k < n ∧ n ≤ 255 ∧ n - k ≤ 64
  · have HT : Hid (∀ u, Calls Try.prog 5 #[.int .i64 n, .int .i64 k] u fun e w' => e = .returned (.bool true) ∧ u = w') := Lib.hid fun u => there_yes n k u h1
    by_cases h2 : (lX : Int) = k
    · by_cases h3 : nt ≤ 60
      · have h4 : 60 < (ne : Int) := by
          have : ¬ ne ≤ 60 := fun h4 => h ⟨h1, h2, h3, h4⟩
          omega
        have h3' : ¬ (60 : Int) < (nt : Int) := by omega
        subst h2
        clear h h1 h3 hX he ht
        go_enter Try.func3, Try.ntmps3
        go_wp2_with (first
          | ((with_reducible refine wpBoxK [Value.slice a lX ca, .slice c' ne ce, .slice t' nt ct] 26 ?_ ?_); rfl; intro w1 r1 b1 s1; have R1 := Lib.hid r1; have B1 := Lib.hid b1; clear r1 b1 s1)
          | (go_at_call 4; (with_reducible refine (HA.out w1).mono ?_); rintro e w2 ⟨rfl, b2⟩; have R2 := Lib.hid (R1.out.step b2); have B2 := Lib.hid (B1.out.next b2); have q0 := R2.out.cell 0; have q1 := R2.out.cell 1; have q2 := R2.out.cell 2; clear b2)
          | (go_at_call 5; (with_reducible refine (HT.out w2).mono ?_); rintro e u_ ⟨rfl, rfl⟩))
        go_ret
        exact ⟨rfl, B2.out⟩
      · have h3' : (60 : Int) < (nt : Int) := by omega
        subst h2
        clear h h1 h3 hX he ht
        go_enter Try.func3, Try.ntmps3
        go_wp2_with (first
          | ((with_reducible refine wpBoxK [Value.slice a lX ca, .slice c' ne ce, .slice t' nt ct] 26 ?_ ?_); rfl; intro w1 r1 b1 s1; have R1 := Lib.hid r1; have B1 := Lib.hid b1; clear r1 b1 s1)
          | (go_at_call 4; (with_reducible refine (HA.out w1).mono ?_); rintro e w2 ⟨rfl, b2⟩; have R2 := Lib.hid (R1.out.step b2); have B2 := Lib.hid (B1.out.next b2); have q0 := R2.out.cell 0; have q1 := R2.out.cell 1; have q2 := R2.out.cell 2; clear b2)
          | (go_at_call 5; (with_reducible refine (HT.out w2).mono ?_); rintro e u_ ⟨rfl, rfl⟩))
        go_ret
        exact ⟨rfl, B2.out⟩
    · have e1 : ((lX : Int) == k) = false := beq_false_of_ne h2
      have e2 : ((lX : Int) != k) = true := by rw [bne, e1]; rfl
      clear h h1 hX he ht
      go_enter Try.func3, Try.ntmps3
      go_wp2_with (first
        | ((with_reducible refine wpBoxK [Value.slice a lX ca, .slice c' ne ce, .slice t' nt ct] 26 ?_ ?_); rfl; intro w1 r1 b1 s1; have R1 := Lib.hid r1; have B1 := Lib.hid b1; clear r1 b1 s1)
        | (go_at_call 4; (with_reducible refine (HA.out w1).mono ?_); rintro e w2 ⟨rfl, b2⟩; have R2 := Lib.hid (R1.out.step b2); have B2 := Lib.hid (B1.out.next b2); have q0 := R2.out.cell 0; have q1 := R2.out.cell 1; have q2 := R2.out.cell 2; clear b2)
        | (go_at_call 5; (with_reducible refine (HT.out w2).mono ?_); rintro e u_ ⟨rfl, rfl⟩))
      go_ret
      exact ⟨rfl, B2.out⟩
  · have HT : Hid (∀ u, Calls Try.prog 5 #[.int .i64 n, .int .i64 k] u fun e w' => e = .returned (.bool false) ∧ u = w') := Lib.hid fun u => there_no n k u h1
    clear h h1 hX he ht
    go_enter Try.func3, Try.ntmps3
    go_wp2_with (first
      | ((with_reducible refine wpBoxK [Value.slice a lX ca, .slice c' ne ce, .slice t' nt ct] 26 ?_ ?_); rfl; intro w1 r1 b1 s1; have R1 := Lib.hid r1; have B1 := Lib.hid b1; clear r1 b1 s1)
      | (go_at_call 4; (with_reducible refine (HA.out w1).mono ?_); rintro e w2 ⟨rfl, b2⟩; have B2 := Lib.hid (B1.out.next b2); clear b2)
      | (go_at_call 5; (with_reducible refine (HT.out w2).mono ?_); rintro e u_ ⟨rfl, rfl⟩))
    go_ret
    exact ⟨rfl, B2.out⟩
theorem solveBack_walk (n k : Int) (a : Option Addr) (ca : Nat) (X : List Nat) (c' : Option Addr) (ce : Nat) (er : List Int) (t' : Option Addr) (ct : Nat) (T : List Tv) (w : World)
    (hX8 : By X) (hxr : Lies w w.heap.size a (u8s X)) (hca : X.length ≤ ca) (hca2 : ca ≤ 140737488351232) (her : Lies w w.heap.size c' (ints er)) (htr : TvAt w t' T) (hT : ∀ t ∈ T, t.by_ < 256 ∧ (-9223372036854775808 ≤ t.at_ ∧ t.at_ < 9223372036854775808))
    (hb1 : er.length < 9223372036854775808) (hb2 : T.length < 9223372036854775808) :
    Calls Try.prog 3 #[.int .i64 n, .int .i64 k, .agg #[.slice a X.length ca, .slice c' er.length ce, .slice t' T.length ct]] w fun e w' => e = .returned (.bool true) ∧ Below w.heap.size w w' := by
  by_cases h : ((1 ≤ k ∧ k < n ∧ n ≤ 255 ∧ n - k ≤ 64) ∧ (X.length : Int) = k ∧ T.length ≤ 60 ∧ er.length ≤ 60)
  · obtain ⟨⟨h1, h2, h3, h4⟩, h5, h6, h7⟩ := h
    obtain ⟨p, hp⟩ : ∃ p : Nat, n = ((X.length + p : Nat) : Int) := ⟨(n - X.length).toNat, by omega⟩
    subst h5
    subst hp
    exact solveBack_good X.length p a ca X c' ce er t' ct T w (by omega) (by omega) (by omega) (by omega) rfl hX8 hca hca2 hxr h7 her h6 htr fun t ht => (hT t ht).1
  · exact solveBack_early n k a ca X.length c' ce er.length t' ct T.length w (by omega) hb1 hb2 h
theorem sol_len {w : World} {k : Nat} {e : Open.Ty} {cs : List Value} {l : List e.den} (h : Open.Reads w (.sl k e) cs l) : l.length < 9223372036854775808 := by
  obtain ⟨a', cap', e, h1, h2, h3, h4⟩ := h
  omega
theorem solveBack_reads (n k : Int) {w : World} {cs : List Value} {x : List Int × List Int × List TU.den × Unit} (h : Open.Reads w (.pair (.sl 1 (.int .u8)) (.pair (.sl 8 (.int .i64)) (.pair (.sl 16 TU) .unit))) cs x) :
    Calls Try.prog 3 #[.int .i64 n, .int .i64 k, .agg ⟨cs⟩] w fun e w' => e = .returned (.bool true) ∧ Below w.heap.size w w' := by
  have hb : x.2.1.length < 9223372036854775808 := sol_len h.2.1
  have he := reads_spoilt' h
  obtain ⟨a, ca, X, c, ce, er, t, ct, T, rfl, h1, h2, h3, h4, h5, h6, h7, h8, h9⟩ := he
  exact solveBack_walk n k a ca X c ce er t ct T w h1 h2 h3 h4 h5 h7 h8 (by rw [h9]; exact hb) h6
end Go.Proofs.Ytljhbpbjppmoiaa
