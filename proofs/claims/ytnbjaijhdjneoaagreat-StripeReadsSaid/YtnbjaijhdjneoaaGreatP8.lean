/- The texts StrNb, one behind the other: what the claim wants of them. -/
import Derived.Test.YtnbjaijhdjneoaaGreatP7
namespace Go.Proofs.YtnbjaijhdjneoaaGreat
open Go.RowKit CrcMath GfMath PolyMath RsMath SolMath GeoMath Go.Maps
set_option linter.unusedVariables false
set_option linter.unusedSimpArgs false
set_option maxRecDepth 100000

theorem str_small_any (k p s : Nat) (w : World) (hk : 1 ≤ k) (hk8 : k ≤ 8) (hp : 2 ≤ p) (hp6 : p ≤ 6) (hs : 1 ≤ s) (hs8 : s ≤ 8) :
    Calls Tryz.prog 5 #[.agg #[.int .i64 (k : Int), .int .i64 (p : Int), .int .i64 (s : Int)]] w fun e w' => e = .returned (.bool (decide (k ≤ 4) && decide (p ≤ 4))) ∧ Below w.heap.size w w' := by
  have HGR : Hid (∀ u, Calls Tryz.prog 14 #[.agg #[.int .i64 (k : Int), .int .i64 (p : Int), .int .i64 (s : Int)]] u fun e w' => e = .returned (.bool true) ∧ Below u.heap.size u w') := Lib.hid fun u => by
    have := georr_any (gmN k p s) u
    rw [right_gmN hk hk8 hp hp6 hs hs8] at this
    exact this
  clear hk hp hs hs8
  by_cases h1 : k ≤ 4
  · have hk4 : (k : Int) ≤ 4 := by omega
    by_cases h2 : p ≤ 4
    · have hp4 : (p : Int) ≤ 4 := by omega
      rw [decide_eq_true h1, decide_eq_true h2]
      clear h1 h2
      go_enter Tryz.func5, Tryz.ntmps5
      go_wp2_with (first
        | ((with_reducible refine wpBoxK (w := w) [Value.int .i64 (k : Int), .int .i64 (p : Int), .int .i64 (s : Int)] 23 ?_ ?_); rfl; intro u1 r1 b1 s1; have R1 := Lib.hid r1; have B1 := Lib.hid b1; clear r1 b1 s1)
        | ((with_reducible refine R1.out.wpLoadK 23 fits_geo rfl ?_ ?_); rfl)
        | (go_at_call 14; (with_reducible refine (HGR.out u1).mono ?_); rintro e u2 ⟨rfl, b2⟩; have B2 := Lib.hid (B1.out.next b2); have c0 := (R1.out.step b2).cell 0; have c1 := (R1.out.step b2).cell 1; clear b2))
      go_ret
      exact ⟨rfl, B2.out⟩
    · have hp4 : ¬ (p : Int) ≤ 4 := by omega
      rw [decide_eq_true h1, decide_eq_false h2]
      clear h1 h2
      go_enter Tryz.func5, Tryz.ntmps5
      go_wp2_with (first
        | ((with_reducible refine wpBoxK (w := w) [Value.int .i64 (k : Int), .int .i64 (p : Int), .int .i64 (s : Int)] 23 ?_ ?_); rfl; intro u1 r1 b1 s1; have R1 := Lib.hid r1; have B1 := Lib.hid b1; clear r1 b1 s1)
        | ((with_reducible refine R1.out.wpLoadK 23 fits_geo rfl ?_ ?_); rfl)
        | (go_at_call 14; (with_reducible refine (HGR.out u1).mono ?_); rintro e u2 ⟨rfl, b2⟩; have B2 := Lib.hid (B1.out.next b2); have c0 := (R1.out.step b2).cell 0; have c1 := (R1.out.step b2).cell 1; clear b2))
      go_ret
      exact ⟨congrArg (fun b => Ending.returned (Value.bool b)) (decide_eq_false (by omega)), B2.out⟩
  · have hk4 : ¬ (k : Int) ≤ 4 := by omega
    rw [decide_eq_false h1]
    clear h1
    go_enter Tryz.func5, Tryz.ntmps5
    go_wp2_with (first
        | ((with_reducible refine wpBoxK (w := w) [Value.int .i64 (k : Int), .int .i64 (p : Int), .int .i64 (s : Int)] 23 ?_ ?_); rfl; intro u1 r1 b1 s1; have R1 := Lib.hid r1; have B1 := Lib.hid b1; clear r1 b1 s1)
        | ((with_reducible refine R1.out.wpLoadK 23 fits_geo rfl ?_ ?_); rfl)
        | (go_at_call 14; (with_reducible refine (HGR.out u1).mono ?_); rintro e u2 ⟨rfl, b2⟩; have B2 := Lib.hid (B1.out.next b2); have c0 := (R1.out.step b2).cell 0; have c1 := (R1.out.step b2).cell 1; clear b2))
    go_ret
    exact ⟨rfl, B2.out⟩
theorem str_small_no (d p s : Int) (w : World) (h : right ⟨d, p, s⟩ = false) : Calls Tryz.prog 5 #[.agg #[.int .i64 d, .int .i64 p, .int .i64 s]] w fun e w' => e = .returned (.bool false) ∧ Below w.heap.size w w' := by
  have HGR : Hid (∀ u, Calls Tryz.prog 14 #[.agg #[.int .i64 d, .int .i64 p, .int .i64 s]] u fun e w' => e = .returned (.bool false) ∧ Below u.heap.size u w') := Lib.hid fun u => by
    rw [← h]; exact georr_any ⟨d, p, s⟩ u
  clear h
  go_enter Tryz.func5, Tryz.ntmps5
  go_wp2_with (first
    | ((with_reducible refine wpBoxK (w := w) [Value.int .i64 d, .int .i64 p, .int .i64 s] 23 ?_ ?_); rfl; intro u1 r1 b1 s1; have R1 := Lib.hid r1; have B1 := Lib.hid b1; clear r1 b1 s1)
    | ((with_reducible refine R1.out.wpLoadK 23 fits_geo rfl ?_ ?_); rfl)
    | (go_at_call 14; (with_reducible refine (HGR.out u1).mono ?_); rintro e u2 ⟨rfl, b2⟩; have B2 := Lib.hid (B1.out.next b2); clear b2))
  go_ret
  exact ⟨rfl, B2.out⟩
theorem str_small_all (d p s : Int) : ∃ b, (b = true → right ⟨d, p, s⟩ = true ∧ d ≤ 4 ∧ p ≤ 4) ∧ (right ⟨d, p, s⟩ = true ∧ d ≤ 4 ∧ p ≤ 4 → b = true) ∧ ∀ w, Calls Tryz.prog 5 #[.agg #[.int .i64 d, .int .i64 p, .int .i64 s]] w fun e w' => e = .returned (.bool b) ∧ Below w.heap.size w w' := by
  cases hr : right ⟨d, p, s⟩ with
  | false => exact ⟨false, fun h => (by cases h), fun h => (by cases h.1), fun w => str_small_no d p s w hr⟩
  | true =>
    obtain ⟨k, p', s', hg, hk, hk8, hp, hp6, hs, hs8⟩ := right_is hr
    have e1 : d = (k : Int) := congrArg Gm.d hg
    have e2 : p = (p' : Int) := congrArg Gm.p hg
    have e3 : s = (s' : Int) := congrArg Gm.s hg
    rw [e1, e2, e3]
    refine ⟨decide (k ≤ 4) && decide (p' ≤ 4), fun h => ?_, fun h => ?_, fun w => str_small_any k p' s' w hk hk8 hp hp6 hs hs8⟩
    · rw [Bool.and_eq_true, decide_eq_true_eq, decide_eq_true_eq] at h
      exact ⟨rfl, by omega, by omega⟩
    · rw [Bool.and_eq_true, decide_eq_true_eq, decide_eq_true_eq]
      omega

set_option maxHeartbeats 4000000 in
theorem stripeReads_bad (d p s : Int) (a1 a2 : Option Addr) (n1 n2 cap1 cap2 : Nat) (w : World) (h : ¬ ((right ⟨d, p, s⟩ = true ∧ d ≤ 4 ∧ p ≤ 4) ∧ (n1 : Int) = d ∧ n2 ≤ 60)) (hn1 : n1 ≤ 9223372036854775807) (hn2 : n2 ≤ 9223372036854775807) :
    Calls Tryz.prog 3 #[.agg #[.int .i64 d, .int .i64 p, .int .i64 s], .slice a1 n1 cap1, .slice a2 n2 cap2] w fun e w' => e = .returned (.bool true) ∧ Below w.heap.size w w' := by
  have HAW : Hid (∀ u, Calls Tryz.prog 4 #[] u fun e w' => e = .returned (.bool true) ∧ Below u.heap.size u w') := Lib.hid str_awake
  obtain ⟨r, hr, hr2, hsm⟩ := str_small_all d p s
  have HSM := Lib.hid hsm
  have hcase : r = false ∨ (r = true ∧ ¬ (n1 : Int) = d) ∨ (r = true ∧ (n1 : Int) = d ∧ (60 : Int) < (n2 : Int)) := by
    cases r
    · exact Or.inl rfl
    · by_cases h1 : (n1 : Int) = d
      · exact Or.inr (Or.inr ⟨rfl, h1, by
          have : ¬ n2 ≤ 60 := fun h2 => h ⟨hr rfl, h1, h2⟩
          omega⟩)
      · exact Or.inr (Or.inl ⟨rfl, h1⟩)
  clear h hr hr2 hsm
  rcases hcase with rfl | ⟨rfl, h1⟩ | ⟨rfl, h1, h2⟩
  · go_enter Tryz.func3, Tryz.ntmps3
    go_wp2_with (first
      | ((with_reducible refine wpBoxK (w := w) [Value.int .i64 d, .int .i64 p, .int .i64 s] 23 ?_ ?_); rfl; intro u1 r1 b1 s1; have R1 := Lib.hid r1; have B1 := Lib.hid b1; clear r1 b1 s1)
      | (go_at_call 4; (with_reducible refine (HAW.out u1).mono ?_); rintro e u2 ⟨rfl, b2⟩; have R2 := Lib.hid (R1.out.step b2); have B2 := Lib.hid (B1.out.next b2); clear b2)
      | ((with_reducible refine R2.out.wpLoadK 23 fits_geo rfl ?_ ?_); rfl)
      | (go_at_call 5; (with_reducible refine (HSM.out u2).mono ?_); rintro e u3 ⟨rfl, b3⟩; have B3 := Lib.hid (B2.out.next b3); have c0 := (R2.out.step b3).cell 0; clear b3))
    go_ret
    exact ⟨rfl, B3.out⟩
  · have e1 : ((n1 : Int) != d) = true := by simpa using h1
    go_enter Tryz.func3, Tryz.ntmps3
    go_wp2_with (first
      | ((with_reducible refine wpBoxK (w := w) [Value.int .i64 d, .int .i64 p, .int .i64 s] 23 ?_ ?_); rfl; intro u1 r1 b1 s1; have R1 := Lib.hid r1; have B1 := Lib.hid b1; clear r1 b1 s1)
      | (go_at_call 4; (with_reducible refine (HAW.out u1).mono ?_); rintro e u2 ⟨rfl, b2⟩; have R2 := Lib.hid (R1.out.step b2); have B2 := Lib.hid (B1.out.next b2); clear b2)
      | ((with_reducible refine R2.out.wpLoadK 23 fits_geo rfl ?_ ?_); rfl)
      | (go_at_call 5; (with_reducible refine (HSM.out u2).mono ?_); rintro e u3 ⟨rfl, b3⟩; have B3 := Lib.hid (B2.out.next b3); have c0 := (R2.out.step b3).cell 0; clear b3))
    go_ret
    exact ⟨rfl, B3.out⟩
  · have e2 : decide ((60 : Int) < (n2 : Int)) = true := decide_eq_true h2
    have e1 : ((n1 : Int) != d) = false := by simp [h1]
    clear h1
    go_enter Tryz.func3, Tryz.ntmps3
    go_wp2_with (first
      | ((with_reducible refine wpBoxK (w := w) [Value.int .i64 d, .int .i64 p, .int .i64 s] 23 ?_ ?_); rfl; intro u1 r1 b1 s1; have R1 := Lib.hid r1; have B1 := Lib.hid b1; clear r1 b1 s1)
      | (go_at_call 4; (with_reducible refine (HAW.out u1).mono ?_); rintro e u2 ⟨rfl, b2⟩; have R2 := Lib.hid (R1.out.step b2); have B2 := Lib.hid (B1.out.next b2); clear b2)
      | ((with_reducible refine R2.out.wpLoadK 23 fits_geo rfl ?_ ?_); rfl)
      | (go_at_call 5; (with_reducible refine (HSM.out u2).mono ?_); rintro e u3 ⟨rfl, b3⟩; have B3 := Lib.hid (B2.out.next b3); have c0 := (R2.out.step b3).cell 0; clear b3))
    go_ret
    exact ⟨rfl, B3.out⟩

set_option maxHeartbeats 8000000 in
theorem stripeReads_good (k p s : Nat) (a1 a2 : Option Addr) (cap1 nt ct : Nat) (f : Fb) (ts : List Tu) (w : World) (hk : 1 ≤ k) (hk4 : k ≤ 4) (hp : 2 ≤ p) (hp4 : p ≤ 4) (hs : 1 ≤ s) (hs8 : s ≤ 8) (hr1 : Lies w w.heap.size a1 (bytes (grid k f))) (hts : ts.length = nt) (hnt : nt ≤ 60) (hr2 : Lies w w.heap.size a2 (tucs ts)) :
    Calls Tryz.prog 3 #[.agg #[.int .i64 (k : Int), .int .i64 (p : Int), .int .i64 (s : Int)], .slice a1 k cap1, .slice a2 nt ct] w fun e w' => e = .returned (.bool true) ∧ Below w.heap.size w w' := by
  have HAW : Hid (∀ u, Calls Tryz.prog 4 #[] u fun e w' => e = .returned (.bool true) ∧ Below u.heap.size u w') := Lib.hid str_awake
  have HSM : Hid (∀ u, Calls Tryz.prog 5 #[.agg #[.int .i64 (k : Int), .int .i64 (p : Int), .int .i64 (s : Int)]] u fun e w' => e = .returned (.bool true) ∧ Below u.heap.size u w') := Lib.hid fun u => by
    have := str_small_any k p s u hk (by omega) hp (by omega) hs hs8
    rwa [decide_eq_true hk4, decide_eq_true hp4] at this
  have HNW : Hid (∀ u, Calls Tryz.prog 6 #[.agg #[.int .i64 (k : Int), .int .i64 (p : Int), .int .i64 (s : Int)]] u fun e w' => (∃ c cc b sb, e = .returned (.tuple #[.pointer (some ⟨c, 0, none⟩), .int .i64 0]) ∧ Cdr w' c cc b sb k p s) ∧ Below u.heap.size u w') := Lib.hid fun u => str_new_any k p s u hk (by omega) hp (by omega) hs hs8
  have HE1 : Hid (∀ (u : World) (c cc b sb cap : Nat) (a : Option Addr), Cdr u c cc b sb k p s → Lies u u.heap.size a (bytes (grid k f)) → Calls Tryz.prog 7 #[.pointer (some ⟨c, 0, none⟩), .slice a k cap] u fun e w' =>
      (∃ g, e = .returned (.tuple #[.slice (some ⟨g, 0, none⟩) (k + p) (k + p), .int .i64 0]) ∧ u.heap.size ≤ g ∧ Row w' g 9 (strs (encF f k p))) ∧ Below u.heap.size u w') := Lib.hid fun u c cc b sb cap a h1 h2 => str_encode_any c cc b sb k p s a cap f u h1 h2
  obtain ⟨n, hn⟩ : ∃ n, k + p = n := ⟨_, rfl⟩
  have hSX := me_sx f k p n hn
  have HTU : Hid (∀ (u : World) (gs : Nat), Row u gs 9 (strs (encF f k p)) → Lies u u.heap.size a2 (tucs ts) → Calls Tryz.prog 8 #[.slice (some ⟨gs, 0, none⟩) n n, .slice a2 nt ct] u fun e w' =>
      (∃ g c2 B z, e = .returned (.tuple #[.slice (some ⟨g, 0, none⟩) n c2, .map (some B)]) ∧ n ≤ c2 ∧ Row w' g 9 (strs (tuF n (encF f k p) ts) ++ z)) ∧ Below u.heap.size u w') := Lib.hid fun u gs h1 h2 => (turned_any gs n n (encF f k p) a2 nt ct ts u (by omega) (by omega) hSX h1 hts hnt h2).mono fun e w' ⟨⟨g, c2, B, z, h3, h4, h5, _⟩, h6⟩ => ⟨⟨g, c2, B, z, h3, h4, h5⟩, h6⟩
  obtain ⟨M, hM⟩ : ∃ M, tuF n (encF f k p) ts = M := ⟨_, rfl⟩
  have hSM : Sx n M := by rw [← hM]; exact hSX.all
  rw [hM] at HTU
  have HRD0 : Hid (∀ (u : World) (c cc b sb cap : Nat) (a : Option Addr), Cdr u c cc b sb k p s → Lies u u.heap.size a (strs M) → Calls Tryz.prog 9 #[.pointer (some ⟨c, 0, none⟩), .slice a n cap] u fun e w' => ReadP n p (tl M) e w' ∧ Below u.heap.size u w') := Lib.hid fun u c cc b sb cap a h1 h2 =>
    (str_read_new c cc b sb k p s a cap n M u h1 hn.symm hSM.1 (fun x hx => by rw [hSM.2 x hx]; decide) h2).mono fun e w' ⟨h3, h4⟩ => ⟨h3.old, h4⟩
  have HRR0 : Hid (∀ (u : World) (cap : Nat) (a : Option Addr), Lies u u.heap.size a (strs M) → Calls Tryz.prog 10 #[.agg #[.int .i64 (k : Int), .int .i64 (p : Int), .int .i64 (s : Int)], .slice a n cap] u fun e w' => RRead n p (tl M) e w' ∧ Below u.heap.size u w') := Lib.hid fun u cap a h1 => refSRead_any k p s a cap n M u hk (by omega) hp (by omega) hn hSM h1
  have HRB : Hid (∀ (u : World) (c cc b sb cap m : Nat) (a : Option Addr), Cdr u c cc b sb k p s → m ≠ n → Calls Tryz.prog 9 #[.pointer (some ⟨c, 0, none⟩), .slice a m cap] u fun e w' => e = .returned (.tuple #[.agg nilFound.toArray, .int .i64 1]) ∧ Below u.heap.size u w') := Lib.hid fun u c cc b sb cap m a h1 h2 => str_read_bad c cc b sb k p s a m cap u h1 (by omega)
  have hul := unlF_le n (seenF (tl M)) (mdF n p (seenF (tl M)) ((erasedF (tl M) n).map fun x : Nat => (x : Int))) (erasedF (tl M) n)
  obtain ⟨ok, hok⟩ : ∃ ok, okTo n p (seenF (tl M)) ((erasedF (tl M) n).map fun x : Nat => (x : Int)) 60 = ok := ⟨_, rfl⟩
  unfold ReadP at HRD0
  unfold RRead at HRR0
  rw [hok] at HRD0 HRR0
  generalize unlF n (seenF (tl M)) (mdF n p (seenF (tl M)) ((erasedF (tl M) n).map fun x : Nat => (x : Int))) (erasedF (tl M) n) = UL at hul HRD0 HRR0
  generalize mdF n p (seenF (tl M)) ((erasedF (tl M) n).map fun x : Nat => (x : Int)) = F1 at HRD0 HRR0
  have HUL : Hid (UL.length ≤ 300) := Lib.hid (by omega)
  have HSA : Hid (∀ (u : World) (y y2 : Value) (l : List Nat), l.length ≤ 300 → IReads u y l → IReads u y2 l → Calls Tryz.prog 11 #[y, y2] u fun e w' => e = .returned (.bool true) ∧ Below u.heap.size u w') := Lib.hid fun u y y2 l hl h1 h2 =>
    (same_nats y y2 l l u (by omega) (by omega) h1 h2).mono fun e w' ⟨h3, h4⟩ => ⟨by rw [h3, decide_eq_true rfl], h4⟩
  have HINIL : Hid (∀ u : World, IReads u (.slice none 0 0) []) := Lib.hid fun u => ⟨none, 0, rfl, Nat.le_refl _, Lies.nil _ _ _⟩
  have HLM : Hid (∀ (u : World) (g : Nat) (z : List Value), Row u g 9 (strs M ++ z) → Lies u u.heap.size (some ⟨g, 0, none⟩) (strs M)) := Lib.hid fun u g z h => rs_lies h
  have HFZ := Lib.hid found_zero
  have HR1 := Lib.hid hr1
  have HR2 := Lib.hid hr2
  rw [hn] at HE1
  have hni : (n : Int) ≤ 8 := by omega
  have hn0 : 3 ≤ (n : Int) := by omega
  have hki : (k : Int) ≤ 4 := by omega
  have hk0 : 1 ≤ (k : Int) := by omega
  have hnti : (nt : Int) ≤ 60 := by omega
  have e1 : ((k : Int) != (k : Int)) = false := by simp
  have e1b : ((k : Int) == (k : Int)) = true := by simp
  have e3 : ((n : Int) != (n : Int)) = false := by simp
  have e3b : ((n : Int) == (n : Int)) = true := by simp
  have e60 : decide ((60 : Int) < (nt : Int)) = false := decide_eq_false (by omega)
  have HN8 : Hid (n ≤ 8 ∧ 3 ≤ n) := Lib.hid (by omega)
  clear hk hk4 hp hp4 hs hs8 hr1 hr2 hts hnt hSX hM hSM hul hok hn
  go_enter Tryz.func3, Tryz.ntmps3
  go_wp2_with (first
    | ((with_reducible refine wpBoxK (w := w) [Value.int .i64 (k : Int), .int .i64 (p : Int), .int .i64 (s : Int)] 23 ?_ ?_); rfl; intro u1 r1 b1 s1; have R1 := Lib.hid r1; have B1 := Lib.hid b1; clear r1 b1 s1)
    | (go_at_call 4; (with_reducible refine (HAW.out u1).mono ?_); rintro e u2 ⟨rfl, b2⟩; have R2 := Lib.hid (R1.out.step b2); have B2 := Lib.hid (B1.out.next b2); clear b2)
    | ((with_reducible refine R2.out.wpLoadK 23 fits_geo rfl ?_ ?_); rfl)
    | (go_at_call 5; (with_reducible refine (HSM.out u2).mono ?_); rintro e u3 ⟨rfl, b3⟩; have R3 := Lib.hid (R2.out.step b3); have B3 := Lib.hid (B2.out.next b3); have c0 := R3.out.cell 0; clear b3)
    | ((with_reducible refine R3.out.wpLoadK 23 fits_geo rfl ?_ ?_); rfl)
    | (go_at_call 6; (with_reducible refine (HNW.out u3).mono ?_); rintro e u4 ⟨⟨c, cc, b, sb, rfl, q4⟩, b4⟩; have C4 := Lib.hid q4; have R4 := Lib.hid (R3.out.step b4); have B4 := Lib.hid (B3.out.next b4); clear q4 b4 c0)
    | (go_at_call 7; (with_reducible refine (HE1.out u4 c cc b sb cap1 a1 C4.out ((HR1.out.below B4.out).mono B4.out.size)).mono ?_); rintro e u5 ⟨⟨gs, rfl, q5, r5⟩, b5⟩; have S5 := Lib.hid r5; have C5 := Lib.hid (C4.out.step b5); have R5 := Lib.hid (R4.out.step b5); have B5 := Lib.hid (B4.out.next b5); clear q5 r5 b5)
    | (go_at_call 8; (with_reducible refine (HTU.out u5 gs S5.out ((HR2.out.below B5.out).mono B5.out.size)).mono ?_); rintro e u6 ⟨⟨g, gc, B, z, rfl, q6, r6⟩, b6⟩; have GC := Lib.hid q6; have M6 := Lib.hid r6; have C6 := Lib.hid (C5.out.step b6); have R6 := Lib.hid (R5.out.step b6); have B6 := Lib.hid (B5.out.next b6); clear r6 q6 b6))
  have HRD1 := Lib.hid (HRD0.out u6 c cc b sb gc _ C6.out (HLM.out u6 g z M6.out))
  have hgc := GC.out
  have hgci : (n : Int) ≤ (gc : Int) := by omega
  have hgc1 : 1 ≤ gc := by omega
  have hn1 : 1 ≤ n := by omega
  clear HAW HSM HNW HE1 HTU HRD0 HR1 HR2 R1 R2 R3 R4 R5 B1 B2 B3 B4 B5 S5 C4 C5
  cases ok
  · simp only [Bool.false_eq_true, ↓reduceIte] at HRD1
    have HRR : Hid (∀ (u : World), Row u g 9 (strs M ++ z) → Calls Tryz.prog 10 #[.agg #[.int .i64 (k : Int), .int .i64 (p : Int), .int .i64 (s : Int)], .slice (some ⟨g, 0, none⟩) n gc] u fun e w' => e = .returned (.tuple #[.slice none 0 0, .slice none 0 0, .int .i64 8]) ∧ Below u.heap.size u w') := Lib.hid fun u h => by
      have := HRR0.out u gc _ (HLM.out u g z h)
      simpa only [Bool.false_eq_true, ↓reduceIte] using this
    clear HRR0
    go_wp2_with (first
      | (go_at_call 9; (with_reducible refine HRD1.out.mono ?_); rintro e u7 ⟨rfl, b7⟩; have M7 := Lib.hid (M6.out.step b7); have C7 := Lib.hid (C6.out.step b7); have R7 := Lib.hid (R6.out.step b7); have B7 := Lib.hid (B6.out.next b7); clear b7)
      | ((with_reducible refine wpAllocK (w := u7) nilFound 40 HFZ.out ?_ ?_); rfl; intro u8 r8 b8 s8; have F8 := Lib.hid r8; have Q8 := Lib.hid b8; clear r8 b8 s8)
      | ((with_reducible refine F8.out.wpStoreK 40 nilFound found_fits rfl rfl rfl ?_ ?_); rfl; intro u9 r9 o9 s9; have F9 := Lib.hid r9; have hw9 : Below u7.heap.size u7 u9 := Q8.out.trans (o9.below (Nat.le_refl _) Q8.out.size); have M9 := Lib.hid (M7.out.step hw9); have C9 := Lib.hid (C7.out.step hw9); have R9 := Lib.hid (R7.out.step hw9); have B9 := Lib.hid (B7.out.next hw9); clear r9 o9 s9 hw9)
      | ((with_reducible refine R9.out.wpLoadK 23 fits_geo rfl ?_ ?_); rfl)
      | (go_at_call 10; (with_reducible refine (HRR.out u9 M9.out).mono ?_); rintro e u10 ⟨rfl, b10⟩; have F10 := Lib.hid (F9.out.step b10); have k0 : u10.cell? ⟨u7.heap.size, 0, none⟩ = some (.slice none 0 0) := F10.out.cell 0; have k1 : u10.cell? ⟨u7.heap.size, 1, none⟩ = some (.slice none 0 0) := F10.out.cell 1; have C10 := Lib.hid (C9.out.step b10); have B10 := Lib.hid (B9.out.next b10); clear b10)
      | (go_at_call 11; (with_reducible refine (HSA.out u10 (.slice none 0 0) (.slice none 0 0) [] (by decide) (HINIL.out u10) (HINIL.out u10)).mono ?_); rintro e u11 ⟨rfl, b11⟩; have C11 := Lib.hid (C10.out.step b11); have B11 := Lib.hid (B10.out.next b11); clear b11 k0 k1))
    go_loopw [90] (fun x w2 => x = .int .i64 0 ∧ w2 = u11) (fun x _ => 0)
    case atStart => exact ⟨rfl, rfl⟩
    case round =>
      obtain ⟨rfl, rfl⟩ := hrel
      go_wp2_with (first
        | (go_at_call 9; (with_reducible refine (HRB.out wr c cc b sb _ _ _ C11.out (by have := HN8.out; omega)).mono ?_); rintro e u12 ⟨rfl, b12⟩; have B12 := Lib.hid (B11.out.next b12); clear b12)
        | ((with_reducible refine wpAllocK (w := u12) nilFound 40 HFZ.out ?_ ?_); rfl; intro u13 r13 b13 s13; have F13 := Lib.hid r13; have B13 := Lib.hid (B12.out.next b13); have Z13 := Lib.hid b13; clear r13 b13 s13)
        | ((with_reducible refine F13.out.wpStoreK 40 nilFound found_fits rfl rfl rfl ?_ ?_); rfl; intro u14 r14 o14 s14; have B14 : Hid (Below w.heap.size w u14) := Lib.hid (B12.out.next (Z13.out.trans (o14.below (Nat.le_refl _) Z13.out.size))); clear r14 o14 s14))
      go_ret
      exact ⟨rfl, B14.out⟩
  · simp only [↓reduceIte] at HRD1
    have HRR : Hid (∀ (u : World), Row u g 9 (strs M ++ z) → Calls Tryz.prog 10 #[.agg #[.int .i64 (k : Int), .int .i64 (p : Int), .int .i64 (s : Int)], .slice (some ⟨g, 0, none⟩) n gc] u fun e w' => (∃ gA cA vs, e = .returned (.tuple #[.slice (some ⟨gA, 0, none⟩) n cA, vs, .int .i64 0]) ∧ Lies w' w'.heap.size (some ⟨gA, 0, none⟩) (bytes (grid n F1)) ∧ IReads w' vs UL) ∧ Below u.heap.size u w') := Lib.hid fun u h => by
      have := HRR0.out u gc _ (HLM.out u g z h)
      simpa only [↓reduceIte] using this
    clear HRR0
    go_wp2_with (first
      | (go_at_call 9; (with_reducible refine HRD1.out.mono ?_); rintro e u7 ⟨⟨gx, vs, rfl, r7, l7⟩, b7⟩; obtain ⟨a7, c7, rfl, hc7, l7⟩ := l7; have X7 := Lib.hid r7; have L7 : Hid (IReads u7 (.slice a7 UL.length c7) UL) := Lib.hid ⟨a7, c7, rfl, hc7, l7⟩; have M7 := Lib.hid (M6.out.step b7); have C7 := Lib.hid (C6.out.step b7); have R7 := Lib.hid (R6.out.step b7); have B7 := Lib.hid (B6.out.next b7); clear r7 l7 b7 hc7)
      | ((with_reducible refine wpAllocK (w := u7) nilFound 40 HFZ.out ?_ ?_); rfl; intro u8 r8 b8 s8; have F8 := Lib.hid r8; have Q8 := Lib.hid b8; clear r8 b8 s8)
      | ((with_reducible refine F8.out.wpStoreK 40 [.slice (some ⟨gx, 0, none⟩) n n, .slice a7 UL.length c7] found_fits rfl rfl rfl ?_ ?_); rfl; intro u9 r9 o9 s9; have F9 := Lib.hid r9; have hw9 : Below u7.heap.size u7 u9 := Q8.out.trans (o9.below (Nat.le_refl _) Q8.out.size); have X9 := Lib.hid (X7.out.step hw9); have L9 := Lib.hid (L7.out.step hw9); have M9 := Lib.hid (M7.out.step hw9); have C9 := Lib.hid (C7.out.step hw9); have R9 := Lib.hid (R7.out.step hw9); have B9 := Lib.hid (B7.out.next hw9); clear r9 o9 s9 hw9)
      | ((with_reducible refine R9.out.wpLoadK 23 fits_geo rfl ?_ ?_); rfl)
      | (go_at_call 10; (with_reducible refine (HRR.out u9 M9.out).mono ?_); rintro e u10 ⟨⟨gA, cA, vs2, rfl, la, l10⟩, b10⟩; have A10 := Lib.hid la; have I10 := Lib.hid l10; have X10 := Lib.hid (X9.out.step b10); have L10 := Lib.hid (L9.out.step b10); have F10 := Lib.hid (F9.out.step b10); have k0 : u10.cell? ⟨u7.heap.size, 0, none⟩ = some (.slice (some ⟨gx, 0, none⟩) n n) := F10.out.cell 0; have k1 : u10.cell? ⟨u7.heap.size, 1, none⟩ = some (.slice a7 UL.length c7) := F10.out.cell 1; have C10 := Lib.hid (C9.out.step b10); have B10 := Lib.hid (B9.out.next b10); clear b10 la l10)
      | (go_at_call 11; (with_reducible refine (HSA.out u10 (.slice a7 UL.length c7) vs2 UL HUL.out L10.out I10.out).mono ?_); rintro e u11 ⟨rfl, b11⟩; have A11 := Lib.hid (A10.out.step b11); have X11 := Lib.hid (X10.out.step b11); have F11 := Lib.hid (F10.out.step b11); have C11 := Lib.hid (C10.out.step b11); have B11 := Lib.hid (B10.out.next b11); clear b11 k0 k1))
    obtain ⟨fb, hfb⟩ : ∃ q, u7.heap.size = q := ⟨_, rfl⟩
    rw [hfb] at F11 ⊢
    clear hfb HRD1 HRR HSA HINIL HLM M6 M7 M9 C6 C7 C9 C10 R6 R7 R9 B6 B7 B9 B10 F8 F9 F10 Q8 X7 X9 X10 L7 L9 L10 A10 I10 HUL
    go_loopw [16, 90] (fun y x w2 => ∃ j : Nat, j ≤ n ∧ x = .int .i64 j ∧ Below u11.heap.size u11 w2) (fun _ x _ => n - (intOf x).toNat)
    case atStart => exact ⟨0, Nat.zero_le _, rfl, Below.refl _ _⟩
    case round =>
      obtain ⟨j, hj, rfl, hbw⟩ := hrel
      have HBW := Lib.hid hbw
      clear hbw
      by_cases hlt : j < n
      · have hji : (j : Int) < (n : Int) := by omega
        have HCF : Hid (wr.cell? ⟨fb, 0, none⟩ = some (.slice (some ⟨gx, 0, none⟩) n n)) := Lib.hid ((F11.out.step HBW.out).cell 0)
        have HLF : Hid (fb < wr.heap.size) := Lib.hid (F11.out.step HBW.out).lt
        obtain ⟨j60, hj60⟩ : ∃ q, j * 60 = q := ⟨_, rfl⟩
        have HRX : Hid (∀ u, Below wr.heap.size wr u → u.rangeAt gx j60 (bytes (bkF F1 j))) := Lib.hid fun u hu => by
          have hx := X11.out.step (HBW.out.next hu)
          have := grid_range (w := u) (bl := gx) (off := 0) (n := n) (f := F1) (fun l q hl => by rw [Nat.zero_add, hx.cell]; exact hl) j hlt
          rwa [Nat.zero_add, hj60] at this
        have HRA : Hid (∀ u, Below wr.heap.size wr u → u.rangeAt gA j60 (bytes (bkF F1 j))) := Lib.hid fun u hu => by
          obtain ⟨b9, o9, e9, hb9, hc9⟩ := (A11.out.step HBW.out).step hu (by rw [bytes_length, grid_length]; omega)
          cases e9
          have := grid_range (w := u) (bl := gA) (off := 0) (n := n) (f := F1) (fun l q hl => hc9 l q hl) j hlt
          rwa [Nat.zero_add, hj60] at this
        have LBB : Hid ((bytes (bkF F1 j)).length = 60) := Lib.hid (by rw [bytes_length, bkF_length])
        have HEQ : Hid (∀ u : World, (Op.equalIn 10000 48 (.agg (bytes (bkF F1 j)).toArray) (.agg (bytes (bkF F1 j)).toArray)).run Tryz.prog u = .ok true u) := Lib.hid (same_block _ (bkF_length _ _))
        have HJ60 := Lib.hid hj60
        generalize bytes (bkF F1 j) = BB at *
        clear hj60
        go_wp2
        refine region_invX [(0, 93), (1, 94), (2, 95), (3, 96), (4, 97), (5, 98), (6, 99), (7, 100), (8, 101), (9, 102)]
          (fun ii => [Is (.pointer (some ⟨fb, 0, none⟩)), Is (.slice (some ⟨gx, 0, none⟩) n n), Is (.int .i64 (j : Int)), Is (.pointer (some ⟨gx, j60, none⟩)), Is (.agg (BB).toArray), Is (.slice (some ⟨gA, 0, none⟩) n cA), Is (.int .i64 (j : Int)), Is (.pointer (some ⟨gA, j60, none⟩)), Is (.agg (BB).toArray), Is (.bool false)].getD ii (Is undef))
          (fun w' => Below wr.heap.size wr w') (by kernel_rfl) (by kernel_rfl) (by decide) (by decide) (by kernel_rfl) rfl ?monoq ((Below.refl _ _).drew) ?stepq ?finq
        case monoq =>
          intro i
          match i with
          | 0 | 1 | 2 | 3 | 4 | 5 | 6 | 7 | 8 | 9 => exact Is.monot _
          | _ + 10 => exact Is.monot _
        case stepq =>
          refine List.forall_mem_cons.2 ⟨?qs0, List.forall_mem_cons.2 ⟨?qs1, List.forall_mem_cons.2 ⟨?qs2, List.forall_mem_cons.2 ⟨?qs3, List.forall_mem_cons.2 ⟨?qs4, List.forall_mem_cons.2 ⟨?qs5, List.forall_mem_cons.2 ⟨?qs6, List.forall_mem_cons.2 ⟨?qs7, List.forall_mem_cons.2 ⟨?qs8, List.forall_mem_cons.2 ⟨?qs9, List.forall_mem_nil _⟩⟩⟩⟩⟩⟩⟩⟩⟩⟩
          case qs0 =>
            intro u wx hg hC
            clear hC
            refine wpOp_step rfl (fun K hK => ?_)
            simp only [puts, List.foldl]
            go_simp
            exact hK _ _ ⟨rfl, rfl, hg, Below.refl _ _⟩
          case qs1 =>
            intro u wx hg hC
            have hJ0 : u 0 = (.pointer (some ⟨fb, 0, none⟩)) := hC.at 0 (by kernel_rfl)
            clear hC
            have hcl : wx.cell? ⟨fb, 0, none⟩ = some (.slice (some ⟨gx, 0, none⟩) n n) := (hg.cell (p := ⟨fb, 0, none⟩) HLF.out).trans HCF.out
            refine wpOp_step rfl (fun K hK => ?_)
            simp only [puts, List.foldl]
            go_simp
            exact hK _ _ ⟨rfl, rfl, hg, Below.refl _ _⟩
          case qs2 =>
            intro u wx hg hC
            clear hC
            refine wpOp_step rfl (fun K hK => ?_)
            simp only [puts, List.foldl]
            go_simp
            exact hK _ _ ⟨rfl, rfl, hg, Below.refl _ _⟩
          case qs3 =>
            intro u wx hg hC
            have hJ1 : u 1 = (.slice (some ⟨gx, 0, none⟩) n n) := hC.at 1 (by kernel_rfl)
            have hJ2 : u 2 = (.int .i64 (j : Int)) := hC.at 2 (by kernel_rfl)
            clear hC
            have hjm := HJ60.out
            refine wpOp_step rfl (fun K hK => ?_)
            simp only [puts, List.foldl]
            go_simp
            exact hK _ _ ⟨rfl, rfl, hg, Below.refl _ _⟩
          case qs4 =>
            intro u wx hg hC
            have hJ3 : u 3 = (.pointer (some ⟨gx, j60, none⟩)) := hC.at 3 (by kernel_rfl)
            clear hC
            generalize hA : puts [(0, 93), (1, 94), (2, 95), (3, 96), (4, 97), (5, 98), (6, 99), (7, 100), (8, 101), (9, 102)] _ u = A
            have hp : A.tmps.getD 96 undef = (.pointer (some ⟨gx, j60, none⟩)) := by rw [← hA]; exact (puts_get u 3 96 _ _ (by decide) (by decide) (by kernel_rfl)).trans hJ3
            have hsz : 97 < A.tmps.size := by rw [← hA]; exact puts_room u (by kernel_rfl)
            refine wpOp_step rfl (fun K hK => ?_)
            clear hA
            exact opLoadRK (φ := Is (.agg (BB).toArray)) ((HRX.out wx hg)) _ (fits_block) (LBB.out) 97 rfl hsz hK (.tmp 96) rfl hp rfl hg
          case qs5 =>
            intro u wx hg hC
            clear hC
            refine wpOp_step rfl (fun K hK => ?_)
            simp only [puts, List.foldl]
            go_simp
            exact hK _ _ ⟨rfl, rfl, hg, Below.refl _ _⟩
          case qs6 =>
            intro u wx hg hC
            clear hC
            refine wpOp_step rfl (fun K hK => ?_)
            simp only [puts, List.foldl]
            go_simp
            exact hK _ _ ⟨rfl, rfl, hg, Below.refl _ _⟩
          case qs7 =>
            intro u wx hg hC
            have hJ5 : u 5 = (.slice (some ⟨gA, 0, none⟩) n cA) := hC.at 5 (by kernel_rfl)
            have hJ6 : u 6 = (.int .i64 (j : Int)) := hC.at 6 (by kernel_rfl)
            clear hC
            have hjm := HJ60.out
            refine wpOp_step rfl (fun K hK => ?_)
            simp only [puts, List.foldl]
            go_simp
            exact hK _ _ ⟨rfl, rfl, hg, Below.refl _ _⟩
          case qs8 =>
            intro u wx hg hC
            have hJ7 : u 7 = (.pointer (some ⟨gA, j60, none⟩)) := hC.at 7 (by kernel_rfl)
            clear hC
            generalize hA : puts [(0, 93), (1, 94), (2, 95), (3, 96), (4, 97), (5, 98), (6, 99), (7, 100), (8, 101), (9, 102)] _ u = A
            have hp : A.tmps.getD 100 undef = (.pointer (some ⟨gA, j60, none⟩)) := by rw [← hA]; exact (puts_get u 7 100 _ _ (by decide) (by decide) (by kernel_rfl)).trans hJ7
            have hsz : 101 < A.tmps.size := by rw [← hA]; exact puts_room u (by kernel_rfl)
            refine wpOp_step rfl (fun K hK => ?_)
            clear hA
            exact opLoadRK (φ := Is (.agg (BB).toArray)) ((HRA.out wx hg)) _ (fits_block) (LBB.out) 101 rfl hsz hK (.tmp 100) rfl hp rfl hg
          case qs9 =>
            intro u wx hg hC
            have hJ4 : u 4 = (.agg (BB).toArray) := hC.at 4 (by kernel_rfl)
            have hJ8 : u 8 = (.agg (BB).toArray) := hC.at 8 (by kernel_rfl)
            clear hC
            have heq := HEQ.out
            refine wpOp_step rfl (fun K hK => ?_)
            simp only [puts, List.foldl]
            go_simp
            exact hK _ _ ⟨rfl, rfl, hg, Below.refl _ _⟩
        case finq =>
          intro u w4 hb4 hφ
          have e102 : u 9 = .bool false := hφ (9, 102) (by decide)
          clear hφ
          simp only [puts, List.foldl]
          rw [e102]
          go_simp
          have HU := Lib.hid (HBW.out.next hb4)
          clear hb4 e102
          go_wp2
          go_roundw
          case rel => exact ⟨j + 1, by omega, by go_num, HU.out⟩
          case measure => simp [intOf]; omega
      · obtain rfl : j = n := by omega
        have hji : ¬ (j : Int) < (j : Int) := by omega
        have C12 := Lib.hid (C11.out.step HBW.out)
        have B12 := Lib.hid (B11.out.next HBW.out)
        clear hlt hj HBW
        go_wp2_with (first
          | (go_at_call 9; (with_reducible refine (HRB.out wr c cc b sb _ _ _ C12.out (by have := HN8.out; omega)).mono ?_); rintro e u12 ⟨rfl, b13⟩; have B13 := Lib.hid (B12.out.next b13); clear b13)
          | ((with_reducible refine wpAllocK (w := u12) nilFound 40 HFZ.out ?_ ?_); rfl; intro u13 r13 b13 s13; have F13 := Lib.hid r13; have Z13 := Lib.hid b13; clear r13 b13 s13)
          | ((with_reducible refine F13.out.wpStoreK 40 nilFound found_fits rfl rfl rfl ?_ ?_); rfl; intro u14 r14 o14 s14; have B14 : Hid (Below w.heap.size w u14) := Lib.hid (B13.out.next (Z13.out.trans (o14.below (Nat.le_refl _) Z13.out.size))); clear r14 o14 s14))
        go_ret
        exact ⟨rfl, B14.out⟩

theorem stripeReads_walk (d p s : Int) (a1 a2 : Option Addr) (n1 n2 cap1 cap2 : Nat) (f : Fb) (ts : List Tu) (w : World) (hr1 : Lies w w.heap.size a1 (bytes (grid n1 f))) (hn1 : n1 ≤ 9223372036854775807) (hts : ts.length = n2) (hn2 : n2 ≤ 9223372036854775807) (hr2 : Lies w w.heap.size a2 (tucs ts)) :
    Calls Tryz.prog 3 #[.agg #[.int .i64 d, .int .i64 p, .int .i64 s], .slice a1 n1 cap1, .slice a2 n2 cap2] w fun e w' => e = .returned (.bool true) ∧ Below w.heap.size w w' := by
  by_cases h : (right ⟨d, p, s⟩ = true ∧ d ≤ 4 ∧ p ≤ 4) ∧ (n1 : Int) = d ∧ n2 ≤ 60
  · obtain ⟨⟨hr, hd4, hp4⟩, hd, h60⟩ := h
    obtain ⟨k, p', s', hg, hk, hk8, hp, hp6, hs, hs8⟩ := right_is hr
    have e1 : d = (k : Int) := congrArg Gm.d hg
    have e2 : p = (p' : Int) := congrArg Gm.p hg
    have e3 : s = (s' : Int) := congrArg Gm.s hg
    obtain rfl : n1 = k := by omega
    rw [e1, e2, e3]
    exact stripeReads_good n1 p' s' a1 a2 cap1 n2 cap2 f ts w hk (by omega) hp (by omega) hs hs8 hr1 hts h60 hr2
  · exact stripeReads_bad d p s a1 a2 n1 n2 cap1 cap2 w h hn1 hn2
end Go.Proofs.YtnbjaijhdjneoaaGreat
