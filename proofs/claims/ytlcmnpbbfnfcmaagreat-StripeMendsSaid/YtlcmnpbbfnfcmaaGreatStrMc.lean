/- StripeMends (gen_str_mc.py). -/
import Derived.Test.YtlcmnpbbfnfcmaaGreatStrMb
import Derived.Test.YtlcmnpbbfnfcmaaGreatStrS
import Derived.Test.YtlcmnpbbfnfcmaaGreatB5
import Derived.Maps.RangeWalk
namespace Go.Proofs.YtlcmnpbbfnfcmaaGreat
open Go.RowKit CrcMath GfMath PolyMath RsMath SolMath GeoMath Go.Maps
set_option linter.unusedVariables false
set_option linter.unusedSimpArgs false
set_option maxRecDepth 100000

theorem me_ba {a b : ByteArray} (h : a.data.toList = b.data.toList) : a = b := by rw [← str_of a, ← str_of b, h]
theorem tl_getD {M : List ByteArray} {i : Nat} (h : i < M.length) : (tl M).getD i [] = (M.getD i ByteArray.empty).data.toList := by
  unfold tl
  rw [List.getD_eq_getElem?_getD, List.getD_eq_getElem?_getD, List.getElem?_map, List.getElem?_eq_getElem h]
  rfl
theorem me_sx (f : Fb) (k p n : Nat) (hn : k + p = n) : Sx n (encF f k p) := ⟨by rw [encF_length]; exact hn, fun x hx => by
  unfold encF at hx
  obtain ⟨i, _, rfl⟩ := List.mem_map.1 hx
  exact secF_size f k p i⟩
theorem me_enc (f : Fb) (k p i : Nat) (h : i < k + p) : (encF f k p).getD i ByteArray.empty = secF f k p i := by rw [List.getD_eq_getElem?_getD, encF_get f k p i h]; rfl
theorem me_ne {f : Fb} {k p n i : Nat} {M : List ByteArray} (hn : k + p = n) (hM : Sx n M) (hi : i < n) : neS (encF f k p) M i = decide ((tl M).getD i [] ≠ sealB (bkF (wholeF f k p) i)) := by
  unfold neS
  rw [tl_getD (by rw [hM.1]; exact hi), me_enc f k p i (by omega)]
  by_cases e : M.getD i ByteArray.empty = secF f k p i
  · rw [decide_eq_false (by rw [e]; exact fun h => h rfl), decide_eq_false (by rw [e]; unfold secF; rw [str_list]; exact fun h => h rfl)]
  · rw [decide_eq_true e, decide_eq_true]
    intro h
    exact e (me_ba (by rw [h]; unfold secF; rw [str_list]))
theorem me_bad {f : Fb} {k p n : Nat} {M : List ByteArray} (hn : k + p = n) (hM : Sx n M) : badL (tl M) (wholeF f k p) n = (List.range n).filter (neS (encF f k p) M) := by
  unfold badL
  refine List.filter_congr fun i hi => ?_
  rw [me_ne hn hM (List.mem_range.1 hi)]
/-- A truth value (boxed). -/
structure Ebb where
  b : Bool
theorem me_plain {v : Value} {y : DataW Unit × List MemPlace} (h : plainElem Tryz.prog 4 v = some y) : ∃ c : Ebb, v = .bool c.b := let ⟨c, h1, _⟩ := seen_plain Tryz.underlying4 h; ⟨⟨c⟩, h1⟩
theorem below_grown {w w' : World} (h : Below w.heap.size w w') : w.grownBy w' none := ⟨h.os, h.tape, h.output, h.size, fun i hi _ => h.block i hi⟩

set_option maxHeartbeats 4000000 in
theorem stripeMends_bad (d p s : Int) (a1 a2 : Option Addr) (n1 n2 cap1 cap2 : Nat) (w : World) (h : ¬ (right ⟨d, p, s⟩ = true ∧ (n1 : Int) = d ∧ n2 ≤ 60)) (hn1 : n1 ≤ 9223372036854775807) (hn2 : n2 ≤ 9223372036854775807) :
    Calls Tryz.prog 3 #[.agg #[.int .i64 d, .int .i64 p, .int .i64 s], .slice a1 n1 cap1, .slice a2 n2 cap2] w fun e w' => e = .returned (.bool true) ∧ Below w.heap.size w w' := by
  have HAW : Hid (∀ u, Calls Tryz.prog 4 #[] u fun e w' => e = .returned (.bool true) ∧ Below u.heap.size u w') := Lib.hid str_awake
  obtain ⟨r, hr⟩ : ∃ r, right ⟨d, p, s⟩ = r := ⟨_, rfl⟩
  have HGR : Hid (∀ u, Calls Tryz.prog 5 #[.agg #[.int .i64 d, .int .i64 p, .int .i64 s]] u fun e w' => e = .returned (.bool r) ∧ Below u.heap.size u w') := Lib.hid fun u => by
    rw [← hr]; exact georr_any ⟨d, p, s⟩ u
  rw [hr] at h
  clear hr
  have hcase : r = false ∨ (r = true ∧ ¬ (n1 : Int) = d) ∨ (r = true ∧ (n1 : Int) = d ∧ (60 : Int) < (n2 : Int)) := by
    cases r
    · exact Or.inl rfl
    · by_cases h1 : (n1 : Int) = d
      · exact Or.inr (Or.inr ⟨rfl, h1, by
          have : ¬ n2 ≤ 60 := fun h2 => h ⟨rfl, h1, h2⟩
          omega⟩)
      · exact Or.inr (Or.inl ⟨rfl, h1⟩)
  clear h
  rcases hcase with rfl | ⟨rfl, h1⟩ | ⟨rfl, h1, h2⟩
  · go_enter Tryz.func3, Tryz.ntmps3
    go_wp2_with (first
      | ((with_reducible refine wpBoxK (w := w) [Value.int .i64 d, .int .i64 p, .int .i64 s] 23 ?_ ?_); rfl; intro u1 r1 b1 s1; have R1 := Lib.hid r1; have B1 := Lib.hid b1; clear r1 b1 s1)
      | (go_at_call 4; (with_reducible refine (HAW.out u1).mono ?_); rintro e u2 ⟨rfl, b2⟩; have R2 := Lib.hid (R1.out.step b2); have B2 := Lib.hid (B1.out.next b2); clear b2)
      | ((with_reducible refine R2.out.wpLoadK 23 fits_geo rfl ?_ ?_); rfl)
      | (go_at_call 5; (with_reducible refine (HGR.out u2).mono ?_); rintro e u3 ⟨rfl, b3⟩; have B3 := Lib.hid (B2.out.next b3); have c0 := (R2.out.step b3).cell 0; clear b3))
    go_ret
    exact ⟨rfl, B3.out⟩
  · have e1 : ((n1 : Int) == d) = false := by simpa using h1
    go_enter Tryz.func3, Tryz.ntmps3
    go_wp2_with (first
      | ((with_reducible refine wpBoxK (w := w) [Value.int .i64 d, .int .i64 p, .int .i64 s] 23 ?_ ?_); rfl; intro u1 r1 b1 s1; have R1 := Lib.hid r1; have B1 := Lib.hid b1; clear r1 b1 s1)
      | (go_at_call 4; (with_reducible refine (HAW.out u1).mono ?_); rintro e u2 ⟨rfl, b2⟩; have R2 := Lib.hid (R1.out.step b2); have B2 := Lib.hid (B1.out.next b2); clear b2)
      | ((with_reducible refine R2.out.wpLoadK 23 fits_geo rfl ?_ ?_); rfl)
      | (go_at_call 5; (with_reducible refine (HGR.out u2).mono ?_); rintro e u3 ⟨rfl, b3⟩; have B3 := Lib.hid (B2.out.next b3); have c0 := (R2.out.step b3).cell 0; clear b3))
    go_ret
    exact ⟨rfl, B3.out⟩
  · have e2 : decide ((60 : Int) < (n2 : Int)) = true := decide_eq_true h2
    have e1 : ((n1 : Int) != d) = false := by simp [h1]
    clear h1
    go_enter Tryz.func3, Tryz.ntmps3
    go_wp2_with (first
      | ((with_reducible refine wpBoxK (w := w) [Value.int .i64 d, .int .i64 p, .int .i64 s] 23 ?_ ?_); rfl; intro u1 r1 b1 s1; have R1 := Lib.hid r1; have B1 := Lib.hid b1; clear r1 b1 s1)
      | (go_at_call 4; (with_reducible refine (HAW.out u1).mono ?_); rintro e u2 ⟨rfl, b2⟩; have R2 := Lib.hid (R1.out.step b2); have B2 := Lib.hid (B1.out.next b2); clear b2)
      | ((with_reducible refine R2.out.wpLoadK 23 fits_geo rfl ?_ ?_); rfl)
      | (go_at_call 5; (with_reducible refine (HGR.out u2).mono ?_); rintro e u3 ⟨rfl, b3⟩; have B3 := Lib.hid (B2.out.next b3); have c0 := (R2.out.step b3).cell 0; clear b3))
    go_ret
    exact ⟨rfl, B3.out⟩

set_option maxHeartbeats 8000000 in
theorem stripeMends_good (k p s : Nat) (a1 a2 : Option Addr) (cap1 nt ct : Nat) (f : Fb) (ts : List Tu) (w : World) (hk : 1 ≤ k) (hk8 : k ≤ 8) (hp : 2 ≤ p) (hp6 : p ≤ 6) (hs : 1 ≤ s) (hs8 : s ≤ 8) (hr1 : Lies w w.heap.size a1 (bytes (grid k f))) (hts : ts.length = nt) (hnt : nt ≤ 60) (hr2 : Lies w w.heap.size a2 (tucs ts)) :
    Calls Tryz.prog 3 #[.agg #[.int .i64 (k : Int), .int .i64 (p : Int), .int .i64 (s : Int)], .slice a1 k cap1, .slice a2 nt ct] w fun e w' => e = .returned (.bool true) ∧ Below w.heap.size w w' := by
  have HAW : Hid (∀ u, Calls Tryz.prog 4 #[] u fun e w' => e = .returned (.bool true) ∧ Below u.heap.size u w') := Lib.hid str_awake
  have HGR : Hid (∀ u, Calls Tryz.prog 5 #[.agg #[.int .i64 (k : Int), .int .i64 (p : Int), .int .i64 (s : Int)]] u fun e w' => e = .returned (.bool true) ∧ Below u.heap.size u w') := Lib.hid fun u => by
    have := georr_any (gmN k p s) u
    rw [right_gmN hk hk8 hp hp6 hs hs8] at this
    exact this
  have HNW : Hid (∀ u, Calls Tryz.prog 6 #[.agg #[.int .i64 (k : Int), .int .i64 (p : Int), .int .i64 (s : Int)]] u fun e w' => (∃ c cc b sb, e = .returned (.tuple #[.pointer (some ⟨c, 0, none⟩), .int .i64 0]) ∧ Cdr w' c cc b sb k p s) ∧ Below u.heap.size u w') := Lib.hid fun u => str_new_any k p s u hk hk8 hp hp6 hs hs8
  have HE1 : Hid (∀ (u : World) (c cc b sb cap : Nat) (a : Option Addr), Cdr u c cc b sb k p s → Lies u u.heap.size a (bytes (grid k f)) → Calls Tryz.prog 7 #[.pointer (some ⟨c, 0, none⟩), .slice a k cap] u fun e w' =>
      (∃ g, e = .returned (.tuple #[.slice (some ⟨g, 0, none⟩) (k + p) (k + p), .int .i64 0]) ∧ u.heap.size ≤ g ∧ Row w' g 9 (strs (encF f k p))) ∧ Below u.heap.size u w') := Lib.hid fun u c cc b sb cap a h1 h2 => str_encode_any c cc b sb k p s a cap f u h1 h2
  obtain ⟨n, hn⟩ : ∃ n, k + p = n := ⟨_, rfl⟩
  have hSX := me_sx f k p n hn
  have HTU : Hid (∀ (u : World) (gs : Nat), Row u gs 9 (strs (encF f k p)) → Lies u u.heap.size a2 (tucs ts) → Calls Tryz.prog 8 #[.slice (some ⟨gs, 0, none⟩) n n, .slice a2 nt ct] u fun e w' =>
      (∃ g c2 B z, e = .returned (.tuple #[.slice (some ⟨g, 0, none⟩) n c2, .map (some B)]) ∧ Row w' g 9 (strs (tuF n (encF f k p) ts) ++ z) ∧ SeenG KM w' B (neN (encF f k p) (tuF n (encF f k p) ts) n) (neK (encF f k p) (tuF n (encF f k p) ts) n)) ∧ Below u.heap.size u w') := Lib.hid fun u gs h1 h2 => turned_any gs n n (encF f k p) a2 nt ct ts u (by omega) (by omega) hSX h1 hts hnt h2
  obtain ⟨M, hM⟩ : ∃ M, tuF n (encF f k p) ts = M := ⟨_, rfl⟩
  have hSM : Sx n M := by rw [← hM]; exact hSX.all
  rw [hM] at HTU
  have hbadl := me_bad (f := f) hn hSM
  obtain ⟨BL, hBL⟩ : ∃ l, badL (tl M) (wholeF f k p) n = l := ⟨_, rfl⟩
  have hNL : neN (encF f k p) M n = BL.length := by unfold neN; rw [← hBL, hbadl]
  obtain ⟨N, hNN⟩ : ∃ N, BL.length = N := ⟨_, rfl⟩
  rw [hNL, hNN] at HTU
  have HBLM : Hid (∀ j (h : j < BL.length), BL[j] < n ∧ neS (encF f k p) M BL[j] = true) := Lib.hid fun j h => by
    have : BL[j] ∈ (List.range n).filter (neS (encF f k p) M) := by rw [← hbadl, hBL]; exact List.getElem_mem h
    rw [List.mem_filter, List.mem_range] at this
    exact this
  have HRD : Hid (∀ (u : World) (c cc b sb cap : Nat) (a : Option Addr), Cdr u c cc b sb k p s → Lies u u.heap.size a (strs M) → ((∀ i, i < n → neS (encF f k p) M i = true → rightT (M.getD i ByteArray.empty).data.toList = false) ∧ N ≤ p ∨ N ≤ p / 2) → Calls Tryz.prog 10 #[.pointer (some ⟨c, 0, none⟩), .slice a n cap] u fun e w' =>
      (∃ g a2 c2, e = .returned (.tuple #[.agg #[.slice (some ⟨g, 0, none⟩) n n, .slice a2 N c2], .int .i64 0]) ∧ Row w' g 47 (bytes (grid n (wholeF f k p))) ∧ Lies w' w'.heap.size a2 (nats BL)) ∧ Below u.heap.size u w') := Lib.hid fun u c cc b sb cap a h1 h2 h3 => by
    have := str_read_good c cc b sb k p s a cap n M f u h1 hn.symm hSM.1 (fun x hx => by rw [hSM.2 x hx]; decide) h2 (by
      rw [hBL, hNN]
      rcases h3 with ⟨h4, h5⟩ | h4
      · refine .inl ⟨fun i hi he => ?_, h5⟩
        rw [tl_getD (by rw [hSM.1]; exact hi)]
        exact h4 i hi (by rw [me_ne hn hSM hi]; exact decide_eq_true he)
      · exact .inr h4)
    rw [hBL, hNN] at this
    exact this.mono fun e w' ⟨⟨g, a2, c2, h4, h5, _, h6⟩, h7⟩ => ⟨⟨g, a2, c2, h4, h5, h6⟩, h7⟩
  have HRT : Hid (∀ (u : World) (i : Nat), i < n → Calls Tryz.prog 9 #[.string (M.getD i ByteArray.empty)] u fun e w' => e = .returned (.bool (rightT (M.getD i ByteArray.empty).data.toList)) ∧ Below u.heap.size u w') := Lib.hid fun u i hi => refRight_any _ u (by rw [hSM.get hi]; decide)
  have HSE : Hid (∀ (u : World) (i : Nat), i < n → Calls Tryz.prog 11 #[.agg (bytes (bkF (wholeF f k p) i)).toArray] u fun e w' => e = .returned (.string (secF f k p i)) ∧ Below u.heap.size u w') := Lib.hid fun u i hi => refTSeal_any _ u (bkF_length _ _)
  have HGS : Hid (∀ (u : World) (gs i : Nat), i < n → Row u gs 9 (strs (encF f k p)) → u.cell? ⟨gs, i, none⟩ = some (.string (secF f k p i))) := Lib.hid fun u gs i hi h => by
    rw [h.cell]
    have := me_get (z := []) hSX hi
    rwa [List.append_nil, me_enc f k p i (by omega)] at this
  have HGM : Hid (∀ (u : World) (g i : Nat) (z : List Value), i < n → Row u g 9 (strs M ++ z) → u.cell? ⟨g, i, none⟩ = some (.string (M.getD i ByteArray.empty))) := Lib.hid fun u g i z hi h => by rw [h.cell, me_get hSM hi]
  have HLM : Hid (∀ (u : World) (g : Nat) (z : List Value), Row u g 9 (strs M ++ z) → Lies u u.heap.size (some ⟨g, 0, none⟩) (strs M)) := Lib.hid fun u g z h _ => ⟨g, 0, rfl, h.lt, fun j q hj => by
    rw [Nat.zero_add, h.cell, List.getElem?_append_left (List.getElem?_eq_some_iff.1 hj).1]; exact hj⟩
  have HFZ := Lib.hid found_zero
  have HR1 := Lib.hid hr1
  have HR2 := Lib.hid hr2
  rw [hn] at HE1
  have hni : (n : Int) ≤ 14 := by omega
  have hn0 : 3 ≤ (n : Int) := by omega
  have hki : (k : Int) ≤ 8 := by omega
  have hk0 : 1 ≤ (k : Int) := by omega
  have hpi : (p : Int) ≤ 6 := by omega
  have hp2 : 2 ≤ (p : Int) := by omega
  have hnti : (nt : Int) ≤ 60 := by omega
  have hNI : (N : Int) ≤ 14 := by
    have := neN_le (encF f k p) M n
    rw [hNL, hNN] at this
    omega
  obtain ⟨p2, hp2e⟩ : ∃ x, p / 2 = x := ⟨_, rfl⟩
  rw [hp2e] at HRD
  have e2 : (p : Int) / 2 = (p2 : Int) := by omega
  have e2t : (p : Int).tdiv 2 = (p2 : Int) := by rw [Int.tdiv_eq_ediv_of_nonneg (by omega)]; exact e2
  have hp2i : (p2 : Int) ≤ 3 := by omega
  have w2 : IntKind.i64.wrap (p2 : Int) = (p2 : Int) := by rw [IntKind.wrap_i64]; omega
  have e1 : ((k : Int) == (k : Int)) = true := by simp
  have HN14 : Hid (n ≤ 14) := Lib.hid (by omega)
  have HBN := Lib.hid hNN
  clear hk hk8 hp hp6 hs hs8 hr1 hr2 hts hnt hSX hM hSM hbadl hBL hNL hNN hp2e hn
  have hmm := @run_makeMap Tryz.prog
  go_enter Tryz.func3, Tryz.ntmps3
  go_wp2_with (first
    | ((with_reducible refine wpBoxK (w := w) [Value.int .i64 (k : Int), .int .i64 (p : Int), .int .i64 (s : Int)] 23 ?_ ?_); rfl; intro u1 r1 b1 s1; have R1 := Lib.hid r1; have B1 := Lib.hid b1; clear r1 b1 s1)
    | (go_at_call 4; (with_reducible refine (HAW.out u1).mono ?_); rintro e u2 ⟨rfl, b2⟩; have R2 := Lib.hid (R1.out.step b2); have B2 := Lib.hid (B1.out.next b2); clear b2)
    | ((with_reducible refine R2.out.wpLoadK 23 fits_geo rfl ?_ ?_); rfl)
    | (go_at_call 5; (with_reducible refine (HGR.out u2).mono ?_); rintro e u3 ⟨rfl, b3⟩; have R3 := Lib.hid (R2.out.step b3); have B3 := Lib.hid (B2.out.next b3); have c0 := R3.out.cell 0; clear b3)
    | ((with_reducible refine R3.out.wpLoadK 23 fits_geo rfl ?_ ?_); rfl)
    | (go_at_call 6; (with_reducible refine (HNW.out u3).mono ?_); rintro e u4 ⟨⟨c, cc, b, sb, rfl, q4⟩, b4⟩; have C4 := Lib.hid q4; have R4 := Lib.hid (R3.out.step b4); have B4 := Lib.hid (B3.out.next b4); clear q4 b4 c0)
    | (go_at_call 7; (with_reducible refine (HE1.out u4 c cc b sb cap1 a1 C4.out ((HR1.out.below B4.out).mono B4.out.size)).mono ?_); rintro e u5 ⟨⟨gs, rfl, q5, r5⟩, b5⟩; have S5 := Lib.hid r5; have C5 := Lib.hid (C4.out.step b5); have R5 := Lib.hid (R4.out.step b5); have B5 := Lib.hid (B4.out.next b5); clear q5 r5 b5)
    | (go_at_call 8; (with_reducible refine (HTU.out u5 gs S5.out ((HR2.out.below B5.out).mono B5.out.size)).mono ?_); rintro e u6 ⟨⟨g, gc, B, z, rfl, r6, q6⟩, b6⟩; have M6 := Lib.hid r6; have W6 := Lib.hid q6; have S6 := Lib.hid (S5.out.step b6); have C6 := Lib.hid (C5.out.step b6); have R6 := Lib.hid (R5.out.step b6); have B6 := Lib.hid (B5.out.next b6); obtain ⟨D, hD1, hD2, hD3⟩ := q6.own; have HD1 := Lib.hid hD1; have HD2 := Lib.hid hD2; have HD3 := Lib.hid hD3; have HBLT : Hid (B < u6.heap.size) := Lib.hid q6.lt; clear r6 q6 b6 hD1 hD2 hD3)
    | (at_range; refine wpList_range_own _ rfl _ 36 rfl 3 4 KM.keyed KM.typ (plainElem Tryz.prog 4) B N D rfl HD1.out ?_; intro w0 hrg0 hg0 hs0))
  go_frame
  obtain ⟨r, hr⟩ : ∃ r, u6.heap.size = r := ⟨_, rfl⟩
  rw [hr] at hrg0 ⊢
  have HRG0 := Lib.hid hrg0
  have BW0 : Hid (Below u6.heap.size u6 w0) := Lib.hid ((Below.refl _ _).grown hg0 (Nat.le_refl _) (fun j hj => by cases hj))
  have HRB : Hid (some B ≠ some r) := Lib.hid (fun e => by have := Option.some.inj e; have := HBLT.out; omega)
  have HU6R := Lib.hid hr
  clear hrg0 hg0 hs0 hr
  go_loopw [13] (fun v wr => ∃ (told : Bool) (left : Lit → Bool) (cnt : Nat), v = .bool told ∧ wr.ranges Tryz.prog 3 (plainElem Tryz.prog 4) B r N D left cnt ∧ (∀ zz, left zz = true → Maps.has D zz = true) ∧ (told = true → ∀ i : Nat, i < n → neS (encF f k p) M i = true → left (.int .i64 (i : Int)) = false → rightT (M.getD i ByteArray.empty).data.toList = false) ∧ Below u6.heap.size u6 wr) (fun _ wr => wr.rangeLeft B r)
  case atStart => exact ⟨true, _, _, rfl, HRG0.out, fun zz h => h, fun _ i hi hne hl => (by
    have h1 := (HD3.out (i : Int) (KM_ok i (by have := HN14.out; omega))).2
    have h2 : neK (encF f k p) M n (i : Int) = true := by unfold neK; rw [decide_eq_true (by omega), Int.toNat_natCast, hne]; rfl
    have h3 : Maps.has D (.int .i64 (i : Int)) = neK (encF f k p) M n (i : Int) := h1
    rw [h2] at h3
    rw [h3] at hl
    cases hl), BW0.out⟩
  case round =>
    clear HRG0 BW0
    obtain ⟨told, left, cnt, rfl, hrg, hlh, htl, hbw⟩ := hrel
    have HRG := Lib.hid hrg
    have HLH := Lib.hid hlh
    have HTL := Lib.hid htl
    have HBW := Lib.hid hbw
    clear hrg hlh htl hbw
    go_wp2_with (at_next; refine wpList_next_ranges _ rfl _ rfl 3 KM.keyed (plainElem Tryz.prog 4) (fun x : Int => Value.int .i64 x) (fun c : Ebb => Value.bool c.b) (fun key kl hkey => by obtain ⟨x, h1, _⟩ := Maps.keyOf_int_inv Tryz.underlying3 hkey; exact ⟨x, h1⟩) (fun v y hv => me_plain hv) B r N D left cnt rfl HRG.out ?_ ?_)
    rotate_left
    · intro x cb kl ya yb w1 cnt1 hkey hlk hv hat hrg1 hlt hg1 hs1 hen
      obtain ⟨x', hx', hkl, hwf⟩ := Maps.keyOf_int_inv Tryz.underlying3 hkey
      cases hx'
      subst hkl
      have hwf2 : -9223372036854775808 ≤ x ∧ x < 9223372036854775808 := by
        have h2 := hwf
        simp [Lit.wf, IntKind.min, IntKind.max, IntKind.bits, IntKind.signed] at h2
        omega
      have hs := (HD3.out x hwf2).2
      have hs2 : Maps.has D (.int .i64 x) = neK (encF f k p) M n x := hs
      rw [HLH.out _ hlk] at hs2
      have hs3 : (decide (0 ≤ x ∧ x < (n : Int)) && neS (encF f k p) M x.toNat) = true := hs2.symm
      rw [Bool.and_eq_true, decide_eq_true_eq] at hs3
      obtain ⟨i, rfl⟩ : ∃ i : Nat, x = (i : Int) := ⟨x.toNat, by omega⟩
      have hi : i < n := by omega
      have hiI : (i : Int) < (n : Int) := by omega
      have HRG1 := Lib.hid hrg1
      have BW1 : Hid (Below u6.heap.size u6 w1) := Lib.hid (HBW.out.grown hg1 HBW.out.size (fun j hj => by cases hj; exact Nat.le_of_eq HU6R.out))
      have HLT := Lib.hid hlt
      have HLH1 : Hid (∀ zz, (left zz && !zz.sameKey (.int .i64 (i : Int))) = true → Maps.has D zz = true) := Lib.hid fun zz h => HLH.out zz (by rw [Bool.and_eq_true] at h; exact h.1)
      have HKI : Hid (∀ j : Nat, (left (.int .i64 (j : Int)) && !(Lit.int .i64 (j : Int)).sameKey (.int .i64 (i : Int))) = false → left (.int .i64 (j : Int)) = false ∨ j = i) := Lib.hid fun j h => by
        cases hl : left (.int .i64 (j : Int)) with
        | false => exact .inl rfl
        | true =>
          rw [hl] at h
          right
          simp [Lit.sameKey] at h
          omega
      have hcm : w1.cell? ⟨g, i, none⟩ = some (.string (M.getD i ByteArray.empty)) := HGM.out w1 g i z hi (M6.out.step BW1.out)
      have HRTI := Lib.hid fun u => HRT.out u i hi
      obtain ⟨q, hq⟩ : ∃ q, rightT (M.getD i ByteArray.empty).data.toList = q := ⟨_, rfl⟩
      rw [hq] at HRTI
      have HQ := Lib.hid hq
      obtain ⟨Mi, hMi⟩ : ∃ T, M.getD i ByteArray.empty = T := ⟨_, rfl⟩
      rw [hMi] at HRTI hcm
      clear hkey hlk hv hat hrg1 hlt hg1 hs1 hwf hwf2 hs hs2 hs3 hq hMi hi
      cases told with
      | true =>
        go_wp2_with (go_at_call 9; (with_reducible refine (HRTI.out w1).mono ?_); rintro e w2 ⟨rfl, b2⟩; have HRG2 := Lib.hid (HRG1.out.kept (below_grown b2) (by simp) (by simp)); have BW2 : Hid (Below u6.heap.size u6 w2) := Lib.hid (BW1.out.next b2); clear b2)
        go_roundw
        case rel => exact ⟨!q, _, cnt1, rfl, HRG2.out, HLH1.out, fun ht j hj hne hl => (by
          rcases HKI.out j hl with h | h
          · exact HTL.out (by trivial) j hj hne h
          · rw [h, HQ.out]; cases q <;> first | rfl | cases ht), BW2.out⟩
        case measure => rw [HRG2.out.left_eq, HRG.out.left_eq]; exact HLT.out
      | false =>
        go_wp2
        go_roundw
        case rel => exact ⟨false, _, cnt1, rfl, HRG1.out, HLH1.out, fun ht => (by cases ht), BW1.out⟩
        case measure => rw [HRG1.out.left_eq, HRG.out.left_eq]; exact HLT.out
    · intro hc0 hl0
      have W7 : Hid (SeenG KM wr B N (neK (encF f k p) M n)) := Lib.hid ⟨D, HRG.out.owns, HD2.out, HD3.out⟩
      have M7 := Lib.hid (M6.out.step HBW.out)
      have S7 := Lib.hid (S6.out.step HBW.out)
      have C7 := Lib.hid (C6.out.step HBW.out)
      have R7 := Lib.hid (R6.out.step HBW.out)
      have B7 := Lib.hid (B6.out.next HBW.out)
      have HTD : Hid (told = true → ∀ i : Nat, i < n → neS (encF f k p) M i = true → rightT (M.getD i ByteArray.empty).data.toList = false) := Lib.hid fun ht i hi hne => HTL.out ht i hi hne (hl0 _)
      have hlen := fun ty => W7.out.len ty
      have c1 := R7.out.cell 1
      clear HRG HLH HTL HBW hc0 hl0 HD1 HD2 HD3 HAW HGR HNW HE1 HTU HRT HGM R1 R2 R3 R4 R5 R6 S5 S6 C4 C5 C6 M6 W6 HR1 HR2 B1 B2 B3 B4 B5 B6
      by_cases hNp : (p : Int) < (N : Int)
      · have t1 : decide ((p : Int) < (N : Int)) = true := decide_eq_true hNp
        go_wp2
        go_ret
        exact ⟨rfl, B7.out⟩
      have t1 : decide ((p : Int) < (N : Int)) = false := decide_eq_false hNp
      have hgo : ∀ (v : Bool), told = v → ((v = false ∧ (p2 : Int) < (N : Int)) ∨ (v = true ∨ ¬ (p2 : Int) < (N : Int))) := fun v _ => by
        cases v
        · by_cases h : (p2 : Int) < (N : Int)
          · exact .inl ⟨rfl, h⟩
          · exact .inr (.inr h)
        · exact .inr (.inl rfl)
      rcases hgo told rfl with ⟨ht, h2⟩ | ht
      · subst ht
        have t2 : decide ((p2 : Int) < (N : Int)) = true := decide_eq_true h2
        have t3 : p2 < N := by omega
        go_wp2
        go_ret
        exact ⟨rfl, B7.out⟩
      have HQ7 : Hid ((∀ i, i < n → neS (encF f k p) M i = true → rightT (M.getD i ByteArray.empty).data.toList = false) ∧ N ≤ p ∨ N ≤ p2) := Lib.hid (by
        rcases ht with ht | ht
        · exact .inl ⟨HTD.out ht, by omega⟩
        · exact .inr (by omega))
      have HRD7 := Lib.hid (HRD.out wr c cc b sb gc _ C7.out (HLM.out wr g z M7.out) HQ7.out)
      have htt : (told = true) ∨ (told = false ∧ decide ((p2 : Int) < (N : Int)) = false ∧ ¬ p2 < N) := by
        cases told
        · rcases ht with ht | ht
          · cases ht
          · exact .inr ⟨rfl, decide_eq_false ht, by omega⟩
        · exact .inl rfl
      have e3 : ((n : Int) == (n : Int)) = true := by simp
      have e4 : ((N : Int) == (N : Int)) = true := by simp
      clear hgo ht HQ7 HRD HLM HTD
      have HEND : Hid (∀ (wr : World) (gx c7 : Nat) (a7 : Option Addr), True) := Lib.hid fun _ _ _ _ => trivial
      rcases htt with ht | ⟨ht, t2, t3⟩
      · subst ht
        go_wp2_with (first
          | (go_at_call 10; (with_reducible refine HRD7.out.mono ?_); rintro e u7 ⟨⟨gx, a7, c7, rfl, r7, l7⟩, b7⟩; have X7 := Lib.hid r7; have L7 := Lib.hid l7; have S8 := Lib.hid (S7.out.step b7); have W8 := Lib.hid (W7.out.below b7); have B8 := Lib.hid (B7.out.next b7); clear r7 l7 b7)
          | ((with_reducible refine wpAllocK (w := u7) nilFound 42 HFZ.out ?_ ?_); rfl; intro u8 r8 b8 s8; have F8 := Lib.hid r8; have Q8 := Lib.hid b8; clear r8 b8 s8)
          | ((with_reducible refine F8.out.wpStoreK 42 [.slice (some ⟨gx, 0, none⟩) n n, .slice a7 N c7] found_fits rfl rfl rfl ?_ ?_); rfl; intro u9 r9 o9 s9; have F9 := Lib.hid r9; have hw9 : Below u7.heap.size u7 u9 := Q8.out.trans (o9.below (Nat.le_refl _) Q8.out.size); have k0 : u9.cell? ⟨u7.heap.size, 0, none⟩ = some (.slice (some ⟨gx, 0, none⟩) n n) := r9.cell 0; have k1 : u9.cell? ⟨u7.heap.size, 1, none⟩ = some (.slice a7 N c7) := r9.cell 1; have X9 := Lib.hid (X7.out.step hw9); have L9 := Lib.hid (L7.out.step hw9); have S9 := Lib.hid (S8.out.step hw9); have W9 := Lib.hid (W8.out.below hw9); have hlen9 := fun ty => W9.out.len ty; have B9 := Lib.hid (B8.out.next hw9); clear r9 o9 s9 hw9))
        clear S7 S8 C7 R7 B7 B8 M7 W7 W8 X7 L7 F8 Q8 HRD7
        obtain ⟨fb, hfb⟩ : ∃ q, u7.heap.size = q := ⟨_, rfl⟩
        rw [hfb] at F9 k0 k1 ⊢
        go_loopw [116] (fun x w2 => ∃ i : Nat, i ≤ n ∧ x = .int .i64 i ∧ Below u9.heap.size u9 w2) (fun x _ => n - (intOf x).toNat)
        case atStart => exact ⟨0, Nat.zero_le _, rfl, Below.refl _ _⟩
        case round =>
          obtain ⟨i, hi, rfl, hbw⟩ := hrel
          have HBW := Lib.hid hbw
          clear hbw
          by_cases hlt : i < n
          · have hii : (i : Int) < (n : Int) := by omega
            have HSI := Lib.hid fun u => HSE.out u i hlt
            have HCS : Hid (∀ u, Below wr.heap.size wr u → u.cell? ⟨gs, i, none⟩ = some (.string (secF f k p i))) := Lib.hid fun u hu => HGS.out u gs i hlt (S9.out.step (HBW.out.next hu))
            have HCF : Hid (wr.cell? ⟨fb, 0, none⟩ = some (.slice (some ⟨gx, 0, none⟩) n n)) := Lib.hid ((F9.out.step HBW.out).cell 0)
            have HLF : Hid (fb < wr.heap.size) := Lib.hid (F9.out.step HBW.out).lt
            have HLS : Hid (gs < wr.heap.size) := Lib.hid (S9.out.step HBW.out).lt
            have HC0 : Hid (wr.cell? ⟨gs, i, none⟩ = some (.string (secF f k p i))) := Lib.hid (HCS.out wr (Below.refl _ _))
            obtain ⟨j60, hj60⟩ : ∃ q, i * 60 = q := ⟨_, rfl⟩
            have HRB : Hid (∀ u, Below wr.heap.size wr u → u.rangeAt gx j60 (bytes (bkF (wholeF f k p) i))) := Lib.hid fun u hu => by
              have hx := X9.out.step (HBW.out.next hu)
              have := grid_range (w := u) (bl := gx) (off := 0) (fun l q hl => by rw [Nat.zero_add, hx.cell]; exact hl) i hlt
              rwa [Nat.zero_add, hj60] at this
            have LB : Hid ((bytes (bkF (wholeF f k p) i)).length = 60) := Lib.hid (by rw [bytes_length, bkF_length])
            have hself : ((secF f k p i).toList == (secF f k p i).toList) = true := beq_yes rfl
            generalize secF f k p i = T at *
            generalize bytes (bkF (wholeF f k p) i) = BB at *
            clear HCS
            go_wp2
            refine region_invX [(0, 119), (1, 120), (2, 121), (3, 122), (4, 123), (5, 124), (6, 125), (7, 126), (8, 127), (9, 128), (10, 129)]
              (fun ii => [Is (.pointer (some ⟨fb, 0, none⟩)), Is (.slice (some ⟨gx, 0, none⟩) n n), Is (.int .i64 (i : Int)), Is (.pointer (some ⟨gx, j60, none⟩)), Is (.agg (BB).toArray), Is (.string T), Is (.slice (some ⟨gs, 0, none⟩) n n), Is (.int .i64 (i : Int)), Is (.pointer (some ⟨gs, i, none⟩)), Is (.string T), Is (.bool false)].getD ii (Is undef))
              (fun w' => Below wr.heap.size wr w') (by kernel_rfl) (by kernel_rfl) (by decide) (by decide) (by kernel_rfl) rfl ?monoq ((Below.refl _ _).drew) ?stepq ?finq
            case monoq =>
              intro i
              match i with
              | 0 | 1 | 2 | 3 | 4 | 5 | 6 | 7 | 8 | 9 | 10 => exact Is.monot _
              | _ + 11 => exact Is.monot _
            case stepq =>
              refine List.forall_mem_cons.2 ⟨?qs0, List.forall_mem_cons.2 ⟨?qs1, List.forall_mem_cons.2 ⟨?qs2, List.forall_mem_cons.2 ⟨?qs3, List.forall_mem_cons.2 ⟨?qs4, List.forall_mem_cons.2 ⟨?qs5, List.forall_mem_cons.2 ⟨?qs6, List.forall_mem_cons.2 ⟨?qs7, List.forall_mem_cons.2 ⟨?qs8, List.forall_mem_cons.2 ⟨?qs9, List.forall_mem_cons.2 ⟨?qs10, List.forall_mem_nil _⟩⟩⟩⟩⟩⟩⟩⟩⟩⟩⟩
              case qs0 =>
                intro u wx hg hC
                clear hC
                refine wpOp_step rfl (fun K hK => ?_)
                simp only [puts, List.foldl]
                go_simp
                exact hK _ _ ⟨rfl, rfl, hg, Below.refl _ _⟩
              case qs1 =>
                intro u wx hg hC
                have hJ0 : u 0 = (.pointer (some ⟨fb, 0, none⟩)) := hC.at 0 (by kernel_rfl)
                clear hC
                have hcl : wx.cell? ⟨fb, 0, none⟩ = some (.slice (some ⟨gx, 0, none⟩) n n) := (hg.cell (p := ⟨fb, 0, none⟩) HLF.out).trans HCF.out
                refine wpOp_step rfl (fun K hK => ?_)
                simp only [puts, List.foldl]
                go_simp
                exact hK _ _ ⟨rfl, rfl, hg, Below.refl _ _⟩
              case qs2 =>
                intro u wx hg hC
                clear hC
                refine wpOp_step rfl (fun K hK => ?_)
                simp only [puts, List.foldl]
                go_simp
                exact hK _ _ ⟨rfl, rfl, hg, Below.refl _ _⟩
              case qs3 =>
                intro u wx hg hC
                have hJ1 : u 1 = (.slice (some ⟨gx, 0, none⟩) n n) := hC.at 1 (by kernel_rfl)
                have hJ2 : u 2 = (.int .i64 (i : Int)) := hC.at 2 (by kernel_rfl)
                clear hC
                refine wpOp_step rfl (fun K hK => ?_)
                simp only [puts, List.foldl]
                go_simp
                exact hK _ _ ⟨rfl, rfl, hg, Below.refl _ _⟩
              case qs4 =>
                intro u wx hg hC
                have hJ3 : u 3 = (.pointer (some ⟨gx, j60, none⟩)) := hC.at 3 (by kernel_rfl)
                clear hC
                generalize hA : puts [(0, 119), (1, 120), (2, 121), (3, 122), (4, 123), (5, 124), (6, 125), (7, 126), (8, 127), (9, 128), (10, 129)] _ u = A
                have hp : A.tmps.getD 122 undef = (.pointer (some ⟨gx, j60, none⟩)) := by rw [← hA]; exact (puts_get u 3 122 _ _ (by decide) (by decide) (by kernel_rfl)).trans hJ3
                have hsz : 123 < A.tmps.size := by rw [← hA]; exact puts_room u (by kernel_rfl)
                refine wpOp_step rfl (fun K hK => ?_)
                clear hA
                exact opLoadRK (φ := Is (.agg (BB).toArray)) ((HRB.out wx hg)) _ (fits_block) (LB.out) 123 rfl hsz hK (.tmp 122) rfl hp rfl hg
              case qs5 =>
                intro u wx hg hC
                have hJ4 : u 4 = (.agg (BB).toArray) := hC.at 4 (by kernel_rfl)
                clear hC
                refine wpOp_step rfl (fun K hK => ?_)
                simp only [puts, List.foldl]
                go_simp
                refine (HSI.out wx).mono ?_
                rintro e w' ⟨rfl, hb'⟩
                exact hK _ _ ⟨rfl, rfl, hg.next hb', hb'⟩
              case qs6 =>
                intro u wx hg hC
                clear hC
                refine wpOp_step rfl (fun K hK => ?_)
                simp only [puts, List.foldl]
                go_simp
                exact hK _ _ ⟨rfl, rfl, hg, Below.refl _ _⟩
              case qs7 =>
                intro u wx hg hC
                clear hC
                refine wpOp_step rfl (fun K hK => ?_)
                simp only [puts, List.foldl]
                go_simp
                exact hK _ _ ⟨rfl, rfl, hg, Below.refl _ _⟩
              case qs8 =>
                intro u wx hg hC
                have hJ6 : u 6 = (.slice (some ⟨gs, 0, none⟩) n n) := hC.at 6 (by kernel_rfl)
                have hJ7 : u 7 = (.int .i64 (i : Int)) := hC.at 7 (by kernel_rfl)
                clear hC
                refine wpOp_step rfl (fun K hK => ?_)
                simp only [puts, List.foldl]
                go_simp
                exact hK _ _ ⟨rfl, rfl, hg, Below.refl _ _⟩
              case qs9 =>
                intro u wx hg hC
                have hJ8 : u 8 = (.pointer (some ⟨gs, i, none⟩)) := hC.at 8 (by kernel_rfl)
                clear hC
                have hcl : wx.cell? ⟨gs, i, none⟩ = some (.string T) := (hg.cell (p := ⟨gs, i, none⟩) HLS.out).trans HC0.out
                refine wpOp_step rfl (fun K hK => ?_)
                simp only [puts, List.foldl]
                go_simp
                exact hK _ _ ⟨rfl, rfl, hg, Below.refl _ _⟩
              case qs10 =>
                intro u wx hg hC
                have hJ5 : u 5 = (.string T) := hC.at 5 (by kernel_rfl)
                have hJ9 : u 9 = (.string T) := hC.at 9 (by kernel_rfl)
                clear hC
                refine wpOp_step rfl (fun K hK => ?_)
                simp only [puts, List.foldl]
                go_simp
                exact hK _ _ ⟨rfl, rfl, hg, Below.refl _ _⟩
            case finq =>
              intro u ux hux hφ
              have e10 : u 10 = .bool false := hφ (10, 129) (by decide)
              clear hφ
              simp only [puts, List.foldl]
              rw [e10]
              go_simp
              have HU := Lib.hid (HBW.out.next hux)
              clear hux e10
              go_wp2
              go_roundw
              case rel => exact ⟨i + 1, by omega, by go_num, HU.out⟩
              case measure => simp [intOf]; omega
          · have hie : i = n := by omega
            have hin : ¬ (i : Int) < (n : Int) := by omega
            have L10 := Lib.hid (L9.out.step HBW.out)
            have W10 := Lib.hid (W9.out.below HBW.out)
            have B10 := Lib.hid (B9.out.next HBW.out)
            have q1 : wr.cell? ⟨fb, 1, none⟩ = some (.slice a7 N c7) := (F9.out.step HBW.out).cell 1
            clear hie hlt hi HBW
            go_wp2
            go_loopw [134] (fun x w2 => ∃ j : Nat, j ≤ N ∧ x = .int .i64 j ∧ w2 = wr) (fun x _ => N - (intOf x).toNat)
            case atStart => exact ⟨0, Nat.zero_le _, rfl, rfl⟩
            case round =>
              obtain ⟨j, hj, rfl, rfl⟩ := hrel
              by_cases hlt : j < N
              · have hji : (j : Int) < (N : Int) := by omega
                have hjb : Hid (j < BL.length) := Lib.hid (by rw [HBN.out]; exact hlt)
                obtain ⟨x1, z1, rfl, hb1, hc1⟩ := L10.out (by unfold nats; rw [List.length_map, HBN.out]; omega)
                obtain ⟨hm1, hm2⟩ := HBLM.out j hjb.out
                have cw : wr.cell? ⟨x1, z1 + j, none⟩ = some (.int .i64 ((BL[j]'hjb.out : Nat) : Int)) := hc1 j _ (by unfold nats; rw [List.getElem?_map, List.getElem?_eq_getElem hjb.out]; rfl)
                have hlk := W10.out.look (KM_ok (BL[j]'hjb.out) (by have := HN14.out; omega))
                have hne : neK (encF f k p) M n ((BL[j]'hjb.out : Nat) : Int) = true := by unfold neK; rw [decide_eq_true (by omega), Int.toNat_natCast, hm2]; rfl
                rw [hne] at hlk
                have hlk2 : (Instr.lookup 36 (.map (some B)) (.int .i64 ((BL[j]'hjb.out : Nat) : Int)) false).run Tryz.prog wr = .ok (.bool true) wr := hlk
                generalize (BL[j]'hjb.out) = y at *
                clear hlk hne hc1 hb1 hm1 hm2
                go_wp2
                go_roundw
                case rel => exact ⟨j + 1, by omega, by go_num, trivial⟩
                case measure => simp [intOf]; omega
              · have hji : ¬ (j : Int) < (N : Int) := by omega
                go_wp2
                go_ret
                exact ⟨rfl, B10.out⟩
      · subst ht
        go_wp2_with (first
          | (go_at_call 10; (with_reducible refine HRD7.out.mono ?_); rintro e u7 ⟨⟨gx, a7, c7, rfl, r7, l7⟩, b7⟩; have X7 := Lib.hid r7; have L7 := Lib.hid l7; have S8 := Lib.hid (S7.out.step b7); have W8 := Lib.hid (W7.out.below b7); have B8 := Lib.hid (B7.out.next b7); clear r7 l7 b7)
          | ((with_reducible refine wpAllocK (w := u7) nilFound 42 HFZ.out ?_ ?_); rfl; intro u8 r8 b8 s8; have F8 := Lib.hid r8; have Q8 := Lib.hid b8; clear r8 b8 s8)
          | ((with_reducible refine F8.out.wpStoreK 42 [.slice (some ⟨gx, 0, none⟩) n n, .slice a7 N c7] found_fits rfl rfl rfl ?_ ?_); rfl; intro u9 r9 o9 s9; have F9 := Lib.hid r9; have hw9 : Below u7.heap.size u7 u9 := Q8.out.trans (o9.below (Nat.le_refl _) Q8.out.size); have k0 : u9.cell? ⟨u7.heap.size, 0, none⟩ = some (.slice (some ⟨gx, 0, none⟩) n n) := r9.cell 0; have k1 : u9.cell? ⟨u7.heap.size, 1, none⟩ = some (.slice a7 N c7) := r9.cell 1; have X9 := Lib.hid (X7.out.step hw9); have L9 := Lib.hid (L7.out.step hw9); have S9 := Lib.hid (S8.out.step hw9); have W9 := Lib.hid (W8.out.below hw9); have hlen9 := fun ty => W9.out.len ty; have B9 := Lib.hid (B8.out.next hw9); clear r9 o9 s9 hw9))
        clear S7 S8 C7 R7 B7 B8 M7 W7 W8 X7 L7 F8 Q8 HRD7
        obtain ⟨fb, hfb⟩ : ∃ q, u7.heap.size = q := ⟨_, rfl⟩
        rw [hfb] at F9 k0 k1 ⊢
        go_loopw [116] (fun x w2 => ∃ i : Nat, i ≤ n ∧ x = .int .i64 i ∧ Below u9.heap.size u9 w2) (fun x _ => n - (intOf x).toNat)
        case atStart => exact ⟨0, Nat.zero_le _, rfl, Below.refl _ _⟩
        case round =>
          obtain ⟨i, hi, rfl, hbw⟩ := hrel
          have HBW := Lib.hid hbw
          clear hbw
          by_cases hlt : i < n
          · have hii : (i : Int) < (n : Int) := by omega
            have HSI := Lib.hid fun u => HSE.out u i hlt
            have HCS : Hid (∀ u, Below wr.heap.size wr u → u.cell? ⟨gs, i, none⟩ = some (.string (secF f k p i))) := Lib.hid fun u hu => HGS.out u gs i hlt (S9.out.step (HBW.out.next hu))
            have HCF : Hid (wr.cell? ⟨fb, 0, none⟩ = some (.slice (some ⟨gx, 0, none⟩) n n)) := Lib.hid ((F9.out.step HBW.out).cell 0)
            have HLF : Hid (fb < wr.heap.size) := Lib.hid (F9.out.step HBW.out).lt
            have HLS : Hid (gs < wr.heap.size) := Lib.hid (S9.out.step HBW.out).lt
            have HC0 : Hid (wr.cell? ⟨gs, i, none⟩ = some (.string (secF f k p i))) := Lib.hid (HCS.out wr (Below.refl _ _))
            obtain ⟨j60, hj60⟩ : ∃ q, i * 60 = q := ⟨_, rfl⟩
            have HRB : Hid (∀ u, Below wr.heap.size wr u → u.rangeAt gx j60 (bytes (bkF (wholeF f k p) i))) := Lib.hid fun u hu => by
              have hx := X9.out.step (HBW.out.next hu)
              have := grid_range (w := u) (bl := gx) (off := 0) (fun l q hl => by rw [Nat.zero_add, hx.cell]; exact hl) i hlt
              rwa [Nat.zero_add, hj60] at this
            have LB : Hid ((bytes (bkF (wholeF f k p) i)).length = 60) := Lib.hid (by rw [bytes_length, bkF_length])
            have hself : ((secF f k p i).toList == (secF f k p i).toList) = true := beq_yes rfl
            generalize secF f k p i = T at *
            generalize bytes (bkF (wholeF f k p) i) = BB at *
            clear HCS
            go_wp2
            refine region_invX [(0, 119), (1, 120), (2, 121), (3, 122), (4, 123), (5, 124), (6, 125), (7, 126), (8, 127), (9, 128), (10, 129)]
              (fun ii => [Is (.pointer (some ⟨fb, 0, none⟩)), Is (.slice (some ⟨gx, 0, none⟩) n n), Is (.int .i64 (i : Int)), Is (.pointer (some ⟨gx, j60, none⟩)), Is (.agg (BB).toArray), Is (.string T), Is (.slice (some ⟨gs, 0, none⟩) n n), Is (.int .i64 (i : Int)), Is (.pointer (some ⟨gs, i, none⟩)), Is (.string T), Is (.bool false)].getD ii (Is undef))
              (fun w' => Below wr.heap.size wr w') (by kernel_rfl) (by kernel_rfl) (by decide) (by decide) (by kernel_rfl) rfl ?monoq ((Below.refl _ _).drew) ?stepq ?finq
            case monoq =>
              intro i
              match i with
              | 0 | 1 | 2 | 3 | 4 | 5 | 6 | 7 | 8 | 9 | 10 => exact Is.monot _
              | _ + 11 => exact Is.monot _
            case stepq =>
              refine List.forall_mem_cons.2 ⟨?qs0, List.forall_mem_cons.2 ⟨?qs1, List.forall_mem_cons.2 ⟨?qs2, List.forall_mem_cons.2 ⟨?qs3, List.forall_mem_cons.2 ⟨?qs4, List.forall_mem_cons.2 ⟨?qs5, List.forall_mem_cons.2 ⟨?qs6, List.forall_mem_cons.2 ⟨?qs7, List.forall_mem_cons.2 ⟨?qs8, List.forall_mem_cons.2 ⟨?qs9, List.forall_mem_cons.2 ⟨?qs10, List.forall_mem_nil _⟩⟩⟩⟩⟩⟩⟩⟩⟩⟩⟩
              case qs0 =>
                intro u wx hg hC
                clear hC
                refine wpOp_step rfl (fun K hK => ?_)
                simp only [puts, List.foldl]
                go_simp
                exact hK _ _ ⟨rfl, rfl, hg, Below.refl _ _⟩
              case qs1 =>
                intro u wx hg hC
                have hJ0 : u 0 = (.pointer (some ⟨fb, 0, none⟩)) := hC.at 0 (by kernel_rfl)
                clear hC
                have hcl : wx.cell? ⟨fb, 0, none⟩ = some (.slice (some ⟨gx, 0, none⟩) n n) := (hg.cell (p := ⟨fb, 0, none⟩) HLF.out).trans HCF.out
                refine wpOp_step rfl (fun K hK => ?_)
                simp only [puts, List.foldl]
                go_simp
                exact hK _ _ ⟨rfl, rfl, hg, Below.refl _ _⟩
              case qs2 =>
                intro u wx hg hC
                clear hC
                refine wpOp_step rfl (fun K hK => ?_)
                simp only [puts, List.foldl]
                go_simp
                exact hK _ _ ⟨rfl, rfl, hg, Below.refl _ _⟩
              case qs3 =>
                intro u wx hg hC
                have hJ1 : u 1 = (.slice (some ⟨gx, 0, none⟩) n n) := hC.at 1 (by kernel_rfl)
                have hJ2 : u 2 = (.int .i64 (i : Int)) := hC.at 2 (by kernel_rfl)
                clear hC
                refine wpOp_step rfl (fun K hK => ?_)
                simp only [puts, List.foldl]
                go_simp
                exact hK _ _ ⟨rfl, rfl, hg, Below.refl _ _⟩
              case qs4 =>
                intro u wx hg hC
                have hJ3 : u 3 = (.pointer (some ⟨gx, j60, none⟩)) := hC.at 3 (by kernel_rfl)
                clear hC
                generalize hA : puts [(0, 119), (1, 120), (2, 121), (3, 122), (4, 123), (5, 124), (6, 125), (7, 126), (8, 127), (9, 128), (10, 129)] _ u = A
                have hp : A.tmps.getD 122 undef = (.pointer (some ⟨gx, j60, none⟩)) := by rw [← hA]; exact (puts_get u 3 122 _ _ (by decide) (by decide) (by kernel_rfl)).trans hJ3
                have hsz : 123 < A.tmps.size := by rw [← hA]; exact puts_room u (by kernel_rfl)
                refine wpOp_step rfl (fun K hK => ?_)
                clear hA
                exact opLoadRK (φ := Is (.agg (BB).toArray)) ((HRB.out wx hg)) _ (fits_block) (LB.out) 123 rfl hsz hK (.tmp 122) rfl hp rfl hg
              case qs5 =>
                intro u wx hg hC
                have hJ4 : u 4 = (.agg (BB).toArray) := hC.at 4 (by kernel_rfl)
                clear hC
                refine wpOp_step rfl (fun K hK => ?_)
                simp only [puts, List.foldl]
                go_simp
                refine (HSI.out wx).mono ?_
                rintro e w' ⟨rfl, hb'⟩
                exact hK _ _ ⟨rfl, rfl, hg.next hb', hb'⟩
              case qs6 =>
                intro u wx hg hC
                clear hC
                refine wpOp_step rfl (fun K hK => ?_)
                simp only [puts, List.foldl]
                go_simp
                exact hK _ _ ⟨rfl, rfl, hg, Below.refl _ _⟩
              case qs7 =>
                intro u wx hg hC
                clear hC
                refine wpOp_step rfl (fun K hK => ?_)
                simp only [puts, List.foldl]
                go_simp
                exact hK _ _ ⟨rfl, rfl, hg, Below.refl _ _⟩
              case qs8 =>
                intro u wx hg hC
                have hJ6 : u 6 = (.slice (some ⟨gs, 0, none⟩) n n) := hC.at 6 (by kernel_rfl)
                have hJ7 : u 7 = (.int .i64 (i : Int)) := hC.at 7 (by kernel_rfl)
                clear hC
                refine wpOp_step rfl (fun K hK => ?_)
                simp only [puts, List.foldl]
                go_simp
                exact hK _ _ ⟨rfl, rfl, hg, Below.refl _ _⟩
              case qs9 =>
                intro u wx hg hC
                have hJ8 : u 8 = (.pointer (some ⟨gs, i, none⟩)) := hC.at 8 (by kernel_rfl)
                clear hC
                have hcl : wx.cell? ⟨gs, i, none⟩ = some (.string T) := (hg.cell (p := ⟨gs, i, none⟩) HLS.out).trans HC0.out
                refine wpOp_step rfl (fun K hK => ?_)
                simp only [puts, List.foldl]
                go_simp
                exact hK _ _ ⟨rfl, rfl, hg, Below.refl _ _⟩
              case qs10 =>
                intro u wx hg hC
                have hJ5 : u 5 = (.string T) := hC.at 5 (by kernel_rfl)
                have hJ9 : u 9 = (.string T) := hC.at 9 (by kernel_rfl)
                clear hC
                refine wpOp_step rfl (fun K hK => ?_)
                simp only [puts, List.foldl]
                go_simp
                exact hK _ _ ⟨rfl, rfl, hg, Below.refl _ _⟩
            case finq =>
              intro u ux hux hφ
              have e10 : u 10 = .bool false := hφ (10, 129) (by decide)
              clear hφ
              simp only [puts, List.foldl]
              rw [e10]
              go_simp
              have HU := Lib.hid (HBW.out.next hux)
              clear hux e10
              go_wp2
              go_roundw
              case rel => exact ⟨i + 1, by omega, by go_num, HU.out⟩
              case measure => simp [intOf]; omega
          · have hie : i = n := by omega
            have hin : ¬ (i : Int) < (n : Int) := by omega
            have L10 := Lib.hid (L9.out.step HBW.out)
            have W10 := Lib.hid (W9.out.below HBW.out)
            have B10 := Lib.hid (B9.out.next HBW.out)
            have q1 : wr.cell? ⟨fb, 1, none⟩ = some (.slice a7 N c7) := (F9.out.step HBW.out).cell 1
            clear hie hlt hi HBW
            go_wp2
            go_loopw [134] (fun x w2 => ∃ j : Nat, j ≤ N ∧ x = .int .i64 j ∧ w2 = wr) (fun x _ => N - (intOf x).toNat)
            case atStart => exact ⟨0, Nat.zero_le _, rfl, rfl⟩
            case round =>
              obtain ⟨j, hj, rfl, rfl⟩ := hrel
              by_cases hlt : j < N
              · have hji : (j : Int) < (N : Int) := by omega
                have hjb : Hid (j < BL.length) := Lib.hid (by rw [HBN.out]; exact hlt)
                obtain ⟨x1, z1, rfl, hb1, hc1⟩ := L10.out (by unfold nats; rw [List.length_map, HBN.out]; omega)
                obtain ⟨hm1, hm2⟩ := HBLM.out j hjb.out
                have cw : wr.cell? ⟨x1, z1 + j, none⟩ = some (.int .i64 ((BL[j]'hjb.out : Nat) : Int)) := hc1 j _ (by unfold nats; rw [List.getElem?_map, List.getElem?_eq_getElem hjb.out]; rfl)
                have hlk := W10.out.look (KM_ok (BL[j]'hjb.out) (by have := HN14.out; omega))
                have hne : neK (encF f k p) M n ((BL[j]'hjb.out : Nat) : Int) = true := by unfold neK; rw [decide_eq_true (by omega), Int.toNat_natCast, hm2]; rfl
                rw [hne] at hlk
                have hlk2 : (Instr.lookup 36 (.map (some B)) (.int .i64 ((BL[j]'hjb.out : Nat) : Int)) false).run Tryz.prog wr = .ok (.bool true) wr := hlk
                generalize (BL[j]'hjb.out) = y at *
                clear hlk hne hc1 hb1 hm1 hm2
                go_wp2
                go_roundw
                case rel => exact ⟨j + 1, by omega, by go_num, trivial⟩
                case measure => simp [intOf]; omega
              · have hji : ¬ (j : Int) < (N : Int) := by omega
                go_wp2
                go_ret
                exact ⟨rfl, B10.out⟩
end Go.Proofs.YtlcmnpbbfnfcmaaGreat
