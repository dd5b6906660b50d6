/- SolveOther's walk (gen_sol_other.py). -/
import Derived.Test.YtkcnmiaedcenoaaSolS
import Derived.Test.YtkcnmiaedcenoaaSolH
import Derived.Test.YtkcnmiaedcenoaaSolJ
namespace Go.Proofs.Ytkcnmiaedcenoaa
open Go.RowKit GfMath PolyMath RsMath SolMath
set_option linter.unusedVariables false
set_option linter.unusedSimpArgs false
set_option maxRecDepth 100000

theorem other_of (x y z : Value) (w : World) (Q : Value → Value → Value → World → Prop)
    (h : Calls Try.prog 16 #[x, y, z, .func (.func 18) #[] #[]] w fun e w' => ∃ p q r, e = .returned (.tuple #[p, q, r]) ∧ Q p q r w') :
    Calls Try.prog 9 #[x, y, z] w fun e w' => ∃ p q r, e = .returned (.tuple #[p, q, r]) ∧ Q p q r w' := by
  have HM := Lib.hid h
  clear h
  go_enter Try.func9, Try.ntmps9
  go_wp2_with (go_at_call 16; (with_reducible refine HM.out.mono ?_); rintro e w1 ⟨p, q, r, rfl, hq⟩; have HQ := Lib.hid hq; clear hq)
  go_ret3
  exact ⟨_, _, _, rfl, HQ.out⟩
theorem other_nil (a : Option Addr) (n cap : Nat) (v : Value) (w : World) : Calls Try.prog 9 #[.pointer none, .slice a n cap, v] w fun e w' => e = .returned (.tuple #[.slice none 0 0, .slice none 0 0, .int .i64 1]) ∧ Below w.heap.size w w' :=
  (other_of _ _ _ w (fun p q r w' => p = .slice none 0 0 ∧ q = .slice none 0 0 ∧ r = .int .i64 1 ∧ Below w.heap.size w w') ((mended_nil a n cap v _ w).mono fun e w' ⟨h1, h2⟩ => ⟨_, _, _, h1, rfl, rfl, rfl, h2⟩)).mono fun e w' ⟨p, q, r, h1, h2, h3, h4, h5⟩ => ⟨by rw [h1, h2, h3, h4], h5⟩
theorem other_bad (c b k p : Nat) (x : Value) (a : Option Addr) (n cap : Nat) (v : Value) (w : World) (h : Cor w c b k p x) (hn : n ≠ k + p) (hl : n ≤ 140737488355328) : Calls Try.prog 9 #[.pointer (some ⟨c, 0, none⟩), .slice a n cap, v] w fun e w' => e = .returned (.tuple #[.slice none 0 0, .slice none 0 0, .int .i64 1]) ∧ Below w.heap.size w w' :=
  (other_of _ _ _ w (fun p q r w' => p = .slice none 0 0 ∧ q = .slice none 0 0 ∧ r = .int .i64 1 ∧ Below w.heap.size w w') ((mended_bad c b k p x a n cap v _ w h hn hl).mono fun e w' ⟨h1, h2⟩ => ⟨_, _, _, h1, rfl, rfl, rfl, h2⟩)).mono fun e w' ⟨p, q, r, h1, h2, h3, h4, h5⟩ => ⟨by rw [h1, h2, h3, h4], h5⟩
theorem other_any (c b k p : Nat) (wb wo cw : Nat) (W : List Nat) (ea : Option Addr) (ecap : Nat) (er : List Int) (w : World) (h : Cod w c b k p) (hWl : W.length = k + p) (hWc : W.length ≤ cw) (hW8 : By W) (hW : Lies w w.heap.size (some ⟨wb, wo, none⟩) (u8s W)) (hel : er.length ≤ 1000) (her : Lies w w.heap.size ea (ints er)) :
    Calls Try.prog 9 #[.pointer (some ⟨c, 0, none⟩), .slice (some ⟨wb, wo, none⟩) (k + p) cw, .slice ea er.length ecap] w fun e w' =>
      Mdd w.heap.size (mendF masseyF (k + p) p W er) (k + p) e w' ∧ Below w.heap.size w w' := by
  have hsame := mend_other (p := p) (el := er) hW8 hWl h.n255 h.p1
  have hm := mended_euclid c b k p wb wo cw W ea ecap er w h hWl hWc hW8 hW hel her
  rw [hsame] at hm
  exact (other_of _ _ _ w (fun x y z w' => Mdd w.heap.size (mendF masseyF (k + p) p W er) (k + p) (.returned (.tuple #[x, y, z])) w' ∧ Below w.heap.size w w') (hm.mono fun e w' ⟨h1, h2⟩ => by
    obtain ⟨x, y, z, rfl⟩ := mdd_three h1
    exact ⟨x, y, z, rfl, h1, h2⟩)).mono fun e w' ⟨x, y, z, h1, h2, h3⟩ => ⟨by rw [h1]; exact h2, h3⟩

set_option maxHeartbeats 1000000 in
theorem other_out (n k : Int) (a : Option Addr) (m ca : Nat) (c' : Option Addr) (t ce : Nat) (w : World) (h : ¬ ((1 ≤ k ∧ k < n ∧ n ≤ 255 ∧ n - k ≤ 64) ∧ m ≤ 300 ∧ t ≤ 60)) :
    Calls Try.prog 3 #[.int .i64 n, .int .i64 k, .agg #[.slice a m ca, .slice c' t ce]] w fun e w' => e = .returned (.bool true) ∧ Below w.heap.size w w' := by
  obtain ⟨w0, hw0, q0, q1, b0, s0⟩ := pair_laid w (.slice a m ca) (.slice c' t ce) 25
  have HW0 := Lib.hid hw0
  have B0 := Lib.hid b0
  have HA := Lib.hid (solAwake_any w0)
  obtain ⟨r, hr⟩ : ∃ r, decide (1 ≤ k ∧ k < n ∧ n ≤ 255 ∧ n - k ≤ 64) = r := ⟨_, rfl⟩
  have HT : Hid (∀ u, Calls Try.prog 5 #[.int .i64 n, .int .i64 k] u fun e w' => e = .returned (.bool r) ∧ u = w') := Lib.hid fun u => by
    cases r
    · exact there_no n k u (of_decide_eq_false hr)
    · exact there_yes n k u (of_decide_eq_true hr)
  have hcase : r = false ∨ (r = true ∧ (m : Int) > 300) ∨ (r = true ∧ ¬ (m : Int) > 300 ∧ (t : Int) > 60) := by
    cases r
    · exact .inl rfl
    · by_cases h1 : m ≤ 300
      · refine .inr (.inr ⟨rfl, by omega, ?_⟩)
        have : ¬ t ≤ 60 := fun h2 => h ⟨of_decide_eq_true hr, h1, h2⟩
        omega
      · exact .inr (.inl ⟨rfl, by omega⟩)
  clear h hr hw0 b0
  rcases hcase with rfl | ⟨rfl, h1⟩ | ⟨rfl, h1, h2⟩
  · go_enter Try.func3, Try.ntmps3
    go_wp2_with (first
      | (go_at_call 4; (rw [← HW0.out]); (with_reducible refine HA.out.mono ?_); rintro e u1 ⟨rfl, b1⟩; have B1 := Lib.hid (B0.out.next b1); clear b1 q0 q1)
      | (go_at_call 5; (with_reducible refine (HT.out u1).mono ?_); rintro e ux ⟨rfl, rfl⟩))
    go_ret
    exact ⟨rfl, B1.out⟩
  · go_enter Try.func3, Try.ntmps3
    go_wp2_with (first
      | (go_at_call 4; (rw [← HW0.out]); (with_reducible refine HA.out.mono ?_); rintro e u1 ⟨rfl, b1⟩; have B1 := Lib.hid (B0.out.next b1); have r0 := (b1.cell (p := ⟨w.heap.size, 0, none⟩) s0).trans q0; have r1 := (b1.cell (p := ⟨w.heap.size, 1, none⟩) s0).trans q1; clear b1 q0 q1)
      | (go_at_call 5; (with_reducible refine (HT.out u1).mono ?_); rintro e ux ⟨rfl, rfl⟩))
    go_ret
    exact ⟨rfl, B1.out⟩
  · go_enter Try.func3, Try.ntmps3
    go_wp2_with (first
      | (go_at_call 4; (rw [← HW0.out]); (with_reducible refine HA.out.mono ?_); rintro e u1 ⟨rfl, b1⟩; have B1 := Lib.hid (B0.out.next b1); have r0 := (b1.cell (p := ⟨w.heap.size, 0, none⟩) s0).trans q0; have r1 := (b1.cell (p := ⟨w.heap.size, 1, none⟩) s0).trans q1; clear b1 q0 q1)
      | (go_at_call 5; (with_reducible refine (HT.out u1).mono ?_); rintro e ux ⟨rfl, rfl⟩))
    go_ret
    exact ⟨rfl, B1.out⟩

set_option maxHeartbeats 2000000 in
theorem other_fail (k p : Nat) (a : Option Addr) (m_ ca : Nat) (c' : Option Addr) (ce ne : Nat) (z : Int) (w : World) (hk : 1 ≤ k) (hp : 1 ≤ p) (hn255 : k + p ≤ 255) (hp64 : p ≤ 64) (hm : m_ ≤ 300) (hne : ne ≤ 60) (hz : z = 1 ∨ z = 8)
    (HMEND : ∀ (u : World) (b c : Nat), Below w.heap.size w u → Cod u c b k p → Calls Try.prog 8 #[.pointer (some ⟨c, 0, none⟩), .slice a m_ ca, .slice c' ne ce] u fun e w' => e = .returned (.tuple #[.slice none 0 0, .slice none 0 0, .int .i64 z]) ∧ Below u.heap.size u w')
    (HOTHER : ∀ (u : World) (b c : Nat), Below w.heap.size w u → Cod u c b k p → Calls Try.prog 9 #[.pointer (some ⟨c, 0, none⟩), .slice a m_ ca, .slice c' ne ce] u fun e w' => e = .returned (.tuple #[.slice none 0 0, .slice none 0 0, .int .i64 z]) ∧ Below u.heap.size u w') :
    Calls Try.prog 3 #[.int .i64 ((k + p : Nat) : Int), .int .i64 (k : Int), .agg #[.slice a m_ ca, .slice c' ne ce]] w fun e w' => e = .returned (.bool true) ∧ Below w.heap.size w w' := by
  obtain ⟨w0, hw0, q0, q1, b0, s0⟩ := pair_laid w (.slice a m_ ca) (.slice c' ne ce) 25
  have HW0 := Lib.hid hw0
  have B0 := Lib.hid b0
  have HA := Lib.hid (solAwake_any w0)
  have HT : Hid (∀ u, Calls Try.prog 5 #[.int .i64 ((k + p : Nat) : Int), .int .i64 (k : Int)] u fun e w' => e = .returned (.bool true) ∧ u = w') := Lib.hid fun u => there_yes _ _ u (by omega)
  have HN : Hid (∀ u : World, Calls Try.prog 7 #[] u fun e w' => (∃ b, e = .returned (.pointer (some ⟨b, 0, none⟩)) ∧ Fld w' b) ∧ Below u.heap.size u w') := Lib.hid fun u => (gfNew_any u).mono fun e w' ⟨h1, h2, h3⟩ => ⟨⟨_, h1, h2⟩, h3⟩
  have HC : Hid (∀ (u : World) (b : Nat), Fld u b → Calls Try.prog 6 #[.pointer (some ⟨b, 0, none⟩), .int .i64 ((k + p : Nat) : Int), .int .i64 (k : Int)] u fun e w' => (∃ c, e = .returned (.tuple #[.pointer (some ⟨c, 0, none⟩), .int .i64 0]) ∧ Cod w' c b k p) ∧ Below u.heap.size u w') := Lib.hid fun u b h => rsNew_any b k p u h hk hp (by omega) (by omega)
  have HM1 := Lib.hid HMEND
  have HM2 := Lib.hid HOTHER
  have HNI : Hid (∀ u : World, Calls Try.prog 9 #[.pointer none, .slice a m_ ca, .slice none 0 0] u fun e w' => e = .returned (.tuple #[.slice none 0 0, .slice none 0 0, .int .i64 1]) ∧ Below u.heap.size u w') := Lib.hid fun u => other_nil a m_ ca _ u
  have HSM : Hid (∀ (u : World) (y y2 : Value) (l : List Nat), l.length ≤ 300 → IReads u y l → IReads u y2 l → Calls Try.prog 10 #[y, y2] u fun e w' => e = .returned (.bool true) ∧ Below u.heap.size u w') := Lib.hid fun u y y2 l hl h1 h2 =>
    (same_nats y y2 l l u (by omega) (by omega) h1 h2).mono fun e w' ⟨h3, h4⟩ => ⟨by rw [h3, decide_eq_true rfl], h4⟩
  have HCV : Hid (∀ u : World, (convert 22 9 (.slice none 0 0)).run Try.prog u = .ok (.string ByteArray.empty) u) := Lib.hid fun u => run_convert_bytes_nil u _ _ Try.underlying22 Try.underlying5 _ _ _ Try.underlying9
  have hzz : (z == z) = true := by simp
  have hz9 : -9223372036854775808 ≤ z ∧ z < 9223372036854775808 := by omega
  have HINIL : Hid (∀ u : World, IReads u (.slice none 0 0) []) := Lib.hid fun u => ⟨none, 0, rfl, Nat.le_refl _, Lies.nil _ _ _⟩
  have hmi : (m_ : Int) ≤ 300 := by omega
  have hei : (ne : Int) ≤ 60 := by omega
  obtain ⟨n, hnn⟩ : ∃ n, k + p = n := ⟨_, rfl⟩
  rw [hnn] at HT HC ⊢
  have HQ0 := Lib.hid q0
  have HQ1 := Lib.hid q1
  have HS0 := Lib.hid s0
  clear hw0 b0 hm hne HMEND HOTHER hk hp hp64 hn255 hnn s0 hz
  go_enter Try.func3, Try.ntmps3
  go_wp2_with (first
    | (go_at_call 4; (rw [← HW0.out]); (with_reducible refine HA.out.mono ?_); rintro e u1 ⟨rfl, b1⟩; have B1 := Lib.hid (B0.out.next b1); have B01 := Lib.hid b1; have q01 := (b1.cell (p := ⟨w.heap.size, 0, none⟩) HS0.out).trans HQ0.out; have q11 := (b1.cell (p := ⟨w.heap.size, 1, none⟩) HS0.out).trans HQ1.out; clear b1 q0 q1)
    | (go_at_call 5; (with_reducible refine (HT.out u1).mono ?_); rintro e ux ⟨rfl, rfl⟩)
    | (go_at_call 7; (with_reducible refine (HN.out u1).mono ?_); rintro e u2 ⟨⟨b, rfl, f2⟩, b2⟩; have F2 := Lib.hid f2; have B2 := Lib.hid (B1.out.next b2); have B02 := Lib.hid (B01.out.next b2); clear f2 b2 q01 q11)
    | (go_at_call 6; (with_reducible refine (HC.out u2 b F2.out).mono ?_); rintro e u3 ⟨⟨c, rfl, d3⟩, b3⟩; have C3 := Lib.hid d3; have B3 := Lib.hid (B2.out.next b3); have B03 := Lib.hid (B02.out.next b3); have q03 := ((B02.out.next b3).cell (p := ⟨w.heap.size, 0, none⟩) HS0.out).trans HQ0.out; have q13 := ((B02.out.next b3).cell (p := ⟨w.heap.size, 1, none⟩) HS0.out).trans HQ1.out; clear d3 b3)
    | (go_at_call 8; (with_reducible refine (HM1.out u3 b c B3.out C3.out).mono ?_); rintro e u4 ⟨rfl, b4⟩; have C4 := Lib.hid (C3.out.step b4); have B4 := Lib.hid (B3.out.next b4); have B04 := Lib.hid (B03.out.next b4); have q04 := (B04.out.cell (p := ⟨w.heap.size, 0, none⟩) HS0.out).trans HQ0.out; have q14 := (B04.out.cell (p := ⟨w.heap.size, 1, none⟩) HS0.out).trans HQ1.out; clear b4 q03 q13)
    | (go_at_call 9; (with_reducible refine (HM2.out u4 b c B4.out C4.out).mono ?_); rintro e u5 ⟨rfl, b5⟩; have B5 := Lib.hid (B4.out.next b5); have B05 := Lib.hid (B04.out.next b5); have q05 := (B05.out.cell (p := ⟨w.heap.size, 0, none⟩) HS0.out).trans HQ0.out; clear b5 q04 q14)
    | (go_at_call 9; (with_reducible refine (HNI.out u5).mono ?_); rintro e u6 ⟨rfl, b6⟩; have B6 := Lib.hid (B5.out.next b6); have hc1 := HCV.out u6; clear b6 q05)
    | (go_at_call 10; (with_reducible refine (HSM.out u6 (.slice none 0 0) (.slice none 0 0) [] (by decide) (HINIL.out u6) (HINIL.out u6)).mono ?_); rintro e u7 ⟨rfl, b7⟩; have B7 := Lib.hid (B6.out.next b7); clear b7 hc1))
  go_ret
  exact ⟨rfl, B7.out⟩

set_option maxHeartbeats 2000000 in
theorem other_ok (k p : Nat) (a : Option Addr) (m_ ca : Nat) (c' : Option Addr) (ce ne : Nat) (M L : List Nat) (w : World) (hk : 1 ≤ k) (hp : 1 ≤ p) (hn255 : k + p ≤ 255) (hp64 : p ≤ 64) (hm : m_ ≤ 300) (hne : ne ≤ 60) (hM8 : By M) (hMl : M.length = k + p) (HLL : L.length ≤ 300)
    (HMEND : ∀ (u : World) (b c : Nat), Below w.heap.size w u → Cod u c b k p → Calls Try.prog 8 #[.pointer (some ⟨c, 0, none⟩), .slice a m_ ca, .slice c' ne ce] u fun e w' => (∃ gm cm y, e = .returned (.tuple #[.slice (some ⟨gm, 0, none⟩) (k + p) cm, y, .int .i64 0]) ∧ Lies w' w'.heap.size (some ⟨gm, 0, none⟩) (u8s M) ∧ IReads w' y L) ∧ Below u.heap.size u w')
    (HOTHER : ∀ (u : World) (b c : Nat), Below w.heap.size w u → Cod u c b k p → Calls Try.prog 9 #[.pointer (some ⟨c, 0, none⟩), .slice a m_ ca, .slice c' ne ce] u fun e w' => (∃ gm cm y, e = .returned (.tuple #[.slice (some ⟨gm, 0, none⟩) (k + p) cm, y, .int .i64 0]) ∧ Lies w' w'.heap.size (some ⟨gm, 0, none⟩) (u8s M) ∧ IReads w' y L) ∧ Below u.heap.size u w') :
    Calls Try.prog 3 #[.int .i64 ((k + p : Nat) : Int), .int .i64 (k : Int), .agg #[.slice a m_ ca, .slice c' ne ce]] w fun e w' => e = .returned (.bool true) ∧ Below w.heap.size w w' := by
  obtain ⟨w0, hw0, q0, q1, b0, s0⟩ := pair_laid w (.slice a m_ ca) (.slice c' ne ce) 25
  have HW0 := Lib.hid hw0
  have B0 := Lib.hid b0
  have HA := Lib.hid (solAwake_any w0)
  have HT : Hid (∀ u, Calls Try.prog 5 #[.int .i64 ((k + p : Nat) : Int), .int .i64 (k : Int)] u fun e w' => e = .returned (.bool true) ∧ u = w') := Lib.hid fun u => there_yes _ _ u (by omega)
  have HN : Hid (∀ u : World, Calls Try.prog 7 #[] u fun e w' => (∃ b, e = .returned (.pointer (some ⟨b, 0, none⟩)) ∧ Fld w' b) ∧ Below u.heap.size u w') := Lib.hid fun u => (gfNew_any u).mono fun e w' ⟨h1, h2, h3⟩ => ⟨⟨_, h1, h2⟩, h3⟩
  have HC : Hid (∀ (u : World) (b : Nat), Fld u b → Calls Try.prog 6 #[.pointer (some ⟨b, 0, none⟩), .int .i64 ((k + p : Nat) : Int), .int .i64 (k : Int)] u fun e w' => (∃ c, e = .returned (.tuple #[.pointer (some ⟨c, 0, none⟩), .int .i64 0]) ∧ Cod w' c b k p) ∧ Below u.heap.size u w') := Lib.hid fun u b h => rsNew_any b k p u h hk hp (by omega) (by omega)
  have HM1 := Lib.hid HMEND
  have HM2 := Lib.hid HOTHER
  have HNI : Hid (∀ u : World, Calls Try.prog 9 #[.pointer none, .slice a m_ ca, .slice none 0 0] u fun e w' => e = .returned (.tuple #[.slice none 0 0, .slice none 0 0, .int .i64 1]) ∧ Below u.heap.size u w') := Lib.hid fun u => other_nil a m_ ca _ u
  have HSM : Hid (∀ (u : World) (y y2 : Value) (l : List Nat), l.length ≤ 300 → IReads u y l → IReads u y2 l → Calls Try.prog 10 #[y, y2] u fun e w' => e = .returned (.bool true) ∧ Below u.heap.size u w') := Lib.hid fun u y y2 l hl h1 h2 =>
    (same_nats y y2 l l u (by omega) (by omega) h1 h2).mono fun e w' ⟨h3, h4⟩ => ⟨by rw [h3, decide_eq_true rfl], h4⟩
  have HCV : Hid (∀ (u : World) (g : Option Addr) (cap : Nat), Lies u u.heap.size g (u8s M) → (convert 22 9 (.slice g (k + p) cap)).run Try.prog u = .ok (.string (str (M.map UInt8.ofNat))) u) := Lib.hid fun u g cap h => by
    have := rs_conv_u8s g cap M u.heap.size u hM8 (by omega) h
    rwa [hMl] at this
  obtain ⟨S, hS⟩ : ∃ S, str (M.map UInt8.ofNat) = S := ⟨_, rfl⟩
  rw [hS] at HCV
  have HLL := Lib.hid HLL
  have hmi : (m_ : Int) ≤ 300 := by omega
  have hei : (ne : Int) ≤ 60 := by omega
  obtain ⟨n, hnn⟩ : ∃ n, k + p = n := ⟨_, rfl⟩
  rw [hnn] at HT HC HM1 HM2 HCV ⊢
  have HQ0 := Lib.hid q0
  have HQ1 := Lib.hid q1
  have HS0 := Lib.hid s0
  clear hw0 b0 hm hne HMEND HOTHER hk hp hp64 hn255 hnn s0 hM8 hMl hS
  go_enter Try.func3, Try.ntmps3
  go_wp2_with (first
    | (go_at_call 4; (rw [← HW0.out]); (with_reducible refine HA.out.mono ?_); rintro e u1 ⟨rfl, b1⟩; have B1 := Lib.hid (B0.out.next b1); have B01 := Lib.hid b1; have q01 := (b1.cell (p := ⟨w.heap.size, 0, none⟩) HS0.out).trans HQ0.out; have q11 := (b1.cell (p := ⟨w.heap.size, 1, none⟩) HS0.out).trans HQ1.out; clear b1 q0 q1)
    | (go_at_call 5; (with_reducible refine (HT.out u1).mono ?_); rintro e ux ⟨rfl, rfl⟩)
    | (go_at_call 7; (with_reducible refine (HN.out u1).mono ?_); rintro e u2 ⟨⟨b, rfl, f2⟩, b2⟩; have F2 := Lib.hid f2; have B2 := Lib.hid (B1.out.next b2); have B02 := Lib.hid (B01.out.next b2); clear f2 b2 q01 q11)
    | (go_at_call 6; (with_reducible refine (HC.out u2 b F2.out).mono ?_); rintro e u3 ⟨⟨c, rfl, d3⟩, b3⟩; have C3 := Lib.hid d3; have B3 := Lib.hid (B2.out.next b3); have B03 := Lib.hid (B02.out.next b3); have q03 := ((B02.out.next b3).cell (p := ⟨w.heap.size, 0, none⟩) HS0.out).trans HQ0.out; have q13 := ((B02.out.next b3).cell (p := ⟨w.heap.size, 1, none⟩) HS0.out).trans HQ1.out; clear d3 b3)
    | (go_at_call 8; (with_reducible refine (HM1.out u3 b c B3.out C3.out).mono ?_); rintro e u4 ⟨⟨g4, c4, y4, rfl, l4, i4⟩, b4⟩; have L4 := Lib.hid l4; have I4 := Lib.hid i4; have C4 := Lib.hid (C3.out.step b4); have B4 := Lib.hid (B3.out.next b4); have B04 := Lib.hid (B03.out.next b4); have q04 := (B04.out.cell (p := ⟨w.heap.size, 0, none⟩) HS0.out).trans HQ0.out; have q14 := (B04.out.cell (p := ⟨w.heap.size, 1, none⟩) HS0.out).trans HQ1.out; clear b4 q03 q13 l4 i4)
    | (go_at_call 9; (with_reducible refine (HM2.out u4 b c B4.out C4.out).mono ?_); rintro e u5 ⟨⟨g5, c5, y5, rfl, l5, i5⟩, b5⟩; have L5 := Lib.hid l5; have I5 := Lib.hid i5; have L45 := Lib.hid (L4.out.step b5); have I45 := Lib.hid (I4.out.step b5); have B5 := Lib.hid (B4.out.next b5); have B05 := Lib.hid (B04.out.next b5); have q05 := (B05.out.cell (p := ⟨w.heap.size, 0, none⟩) HS0.out).trans HQ0.out; clear b5 q04 q14 l5 i5)
    | (go_at_call 9; (with_reducible refine (HNI.out u5).mono ?_); rintro e u6 ⟨rfl, b6⟩; have B6 := Lib.hid (B5.out.next b6); have I6 := Lib.hid (I5.out.step b6); have I46 := Lib.hid (I45.out.step b6); have hc1 := HCV.out u6 _ c4 (L45.out.step b6); have hc2 := HCV.out u6 _ c5 (L5.out.step b6); clear b6 q05)
    | (go_at_call 10; (with_reducible refine (HSM.out u6 y4 y5 L HLL.out I46.out I6.out).mono ?_); rintro e u7 ⟨rfl, b7⟩; have B7 := Lib.hid (B6.out.next b7); clear b7 hc1 hc2))
  go_ret
  exact ⟨rfl, B7.out⟩

theorem solveOther_walk (n k : Int) (a : Option Addr) (ca : Nat) (W : List Nat) (c' : Option Addr) (ce : Nat) (er : List Int) (w : World) (hW8 : By W) (hr : Lies w w.heap.size a (u8s W)) (hca : W.length ≤ ca) (her : Lies w w.heap.size c' (ints er)) :
    Calls Try.prog 3 #[.int .i64 n, .int .i64 k, .agg #[.slice a W.length ca, .slice c' er.length ce]] w fun e w' => e = .returned (.bool true) ∧ Below w.heap.size w w' := by
  by_cases hgood : (1 ≤ k ∧ k < n ∧ n ≤ 255 ∧ n - k ≤ 64) ∧ W.length ≤ 300 ∧ er.length ≤ 60
  · obtain ⟨ht, hl, he⟩ := hgood
    obtain ⟨k', rfl⟩ : ∃ k' : Nat, k = (k' : Int) := ⟨k.toNat, by omega⟩
    obtain ⟨p, rfl⟩ : ∃ p : Nat, n = ((k' + p : Nat) : Int) := ⟨(n - k').toNat, by omega⟩
    by_cases hn : W.length = k' + p
    · have hM : ∀ (u : World) (b c : Nat), Below w.heap.size w u → Cod u c b k' p → Calls Try.prog 8 #[.pointer (some ⟨c, 0, none⟩), .slice a W.length ca, .slice c' er.length ce] u fun e w' =>
          Mdd u.heap.size (mendF masseyF (k' + p) p W er) (k' + p) e w' ∧ Below u.heap.size u w' := by
        intro u b c hb hc
        obtain ⟨wb, wo, rfl, h1, h2⟩ := hr (by rw [u8s_length]; omega)
        have := mend_any c b k' p wb wo ca W c' ce er u hc hn hca hW8 ((show Lies w w.heap.size (some ⟨wb, wo, none⟩) (u8s W) from fun _ => ⟨wb, wo, rfl, h1, h2⟩).step hb) (by omega) (her.step hb)
        rwa [hn]
      have hR : ∀ (u : World) (b c : Nat), Below w.heap.size w u → Cod u c b k' p → Calls Try.prog 9 #[.pointer (some ⟨c, 0, none⟩), .slice a W.length ca, .slice c' er.length ce] u fun e w' =>
          Mdd u.heap.size (mendF masseyF (k' + p) p W er) (k' + p) e w' ∧ Below u.heap.size u w' := by
        intro u b c hb hc
        obtain ⟨wb, wo, rfl, h1, h2⟩ := hr (by rw [u8s_length]; omega)
        have := other_any c b k' p wb wo ca W c' ce er u hc hn hca hW8 ((show Lies w w.heap.size (some ⟨wb, wo, none⟩) (u8s W) from fun _ => ⟨wb, wo, rfl, h1, h2⟩).step hb) (by omega) (her.step hb)
        rwa [hn]
      cases hmd : mendF masseyF (k' + p) p W er with
      | arg =>
        rw [hmd] at hM hR
        exact other_fail k' p a W.length ca c' ce er.length 1 w (by omega) (by omega) (by omega) (by omega) hl he (Or.inl rfl) hM hR
      | bad =>
        rw [hmd] at hM hR
        exact other_fail k' p a W.length ca c' ce er.length 8 w (by omega) (by omega) (by omega) (by omega) hl he (Or.inr rfl) hM hR
      | ok m l =>
        obtain ⟨o1, o2, o3, o4⟩ := mendF_ok hmd
        have o5 := mendF_by hW8 hmd
        have o7 := mendF_at_le hmd
        rw [hmd] at hM hR
        refine other_ok k' p a W.length ca c' ce er.length m l w (by omega) (by omega) (by omega) (by omega) hl he o5 (by omega) (by omega) (fun u b c hb hc => (hM u b c hb hc).mono fun e w' ⟨h1, h2⟩ => ?_) (fun u b c hb hc => (hR u b c hb hc).mono fun e w' ⟨h1, h2⟩ => ?_)
        · obtain ⟨gm, cm, y, e1, e2, _, e3, e4⟩ := h1
          exact ⟨⟨gm, cm, y, e1, e3, e4⟩, h2⟩
        · obtain ⟨gm, cm, y, e1, e2, _, e3, e4⟩ := h1
          exact ⟨⟨gm, cm, y, e1, e3, e4⟩, h2⟩
    · refine other_fail k' p a W.length ca c' ce er.length 1 w (by omega) (by omega) (by omega) (by omega) hl he (Or.inl rfl) (fun u b c hb hc => ?_) (fun u b c hb hc => ?_)
      · obtain ⟨a', cap', hcor, _⟩ := hc.cor
        exact mend_bad c b k' p _ a W.length ca _ u hcor hn (by omega)
      · obtain ⟨a', cap', hcor, _⟩ := hc.cor
        exact other_bad c b k' p _ a W.length ca _ u hcor hn (by omega)
  · exact other_out n k a W.length ca c' er.length ce w hgood
end Go.Proofs.Ytkcnmiaedcenoaa
