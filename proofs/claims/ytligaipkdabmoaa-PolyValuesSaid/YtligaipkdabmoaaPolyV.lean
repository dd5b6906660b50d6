/- The walk of PolyValues. -/
import Derived.Test.YtligaipkdabmoaaPolyU
namespace Go.Proofs.Ytligaipkdabmoaa
open Go.RowKit GfMath PolyMath
set_option linter.unusedVariables false

theorem shl_sq (l : List Nat) (k j : Nat) (hj : (beh l).length ≤ j) : sq (shl l k) j = 0 := by
  unfold shl
  split
  · rfl
  · by_cases h : j < (beh l ++ List.replicate k 0).length
    · rw [sq_get _ _ h, List.getElem_append_right hj, List.getElem_replicate]
    · exact sq_out _ _ (by omega)
theorem shl_can (l : List Nat) (k : Nat) : PolyMath.Can (shl l k) := by
  unfold shl
  split
  · intro h; simp at h
  · rename_i h0
    intro h
    have h1 := beh_can l (by omega)
    rw [sq_get _ _ (by omega)] at h1
    rw [sq_get _ _ (by simp; omega), List.getElem_append_left (by omega)]
    exact h1
theorem shl_length (l : List Nat) (k : Nat) (h : 0 < (beh l).length) : (shl l k).length = (beh l).length + k := by
  unfold shl; rw [if_neg (by omega), List.length_append, List.length_replicate]

set_option maxRecDepth 100000 in
set_option maxHeartbeats 8000000 in
theorem polyValues_walk (a : Option Addr) (ca : Nat) (A : List Nat) (x : Nat) (n : Int) (w : World) (hA : By A) (hx : x < 256) (h1 : A.length ≤ ca) (h3 : ca ≤ 140737488351232) (hr : Lies w w.heap.size a (u8s A)) :
    Calls Try.prog 5 #[.slice a A.length ca, .int .u8 (x : Int), .int .i64 n] w fun e w' => e = .returned (.bool true) ∧ Below w.heap.size w w' := by
  have HG := Lib.hid (great_one a A.length ca (by omega))
  have HR := Lib.hid hr
  clear hr
  by_cases h60 : 60 < A.length
  · have HG2 : Hid (∀ u : World, Calls Try.prog 12 #[.slice (some ⟨u.heap.size, 0, none⟩) 1 1] (u.alloc (.cells #[.slice a A.length ca] 28)) fun e w' => e = .returned (.bool true) ∧ Below u.heap.size u w') := Lib.hid fun u => by have := HG.out u; rwa [decide_eq_true h60] at this
    clear HG
    go_enter Try.func5, Try.ntmps5
    go_wp2_with (first
      | (go_at_call 11; (with_reducible refine (awake_any w).mono ?_); rintro e u1 ⟨rfl, b1⟩; have B1 := Lib.hid b1; clear b1)
      | (go_at_call 12; (with_reducible refine (HG2.out u1).mono ?_); rintro e u2 ⟨rfl, b2⟩; have B2 := Lib.hid (B1.out.next b2); clear b2))
    go_ret
    exact ⟨rfl, B2.out⟩
  · have HG2 : Hid (∀ u : World, Calls Try.prog 12 #[.slice (some ⟨u.heap.size, 0, none⟩) 1 1] (u.alloc (.cells #[.slice a A.length ca] 28)) fun e w' => e = .returned (.bool false) ∧ Below u.heap.size u w') := Lib.hid fun u => by have := HG.out u; rwa [decide_eq_false h60] at this
    have hla : A.length ≤ 60 := by omega
    have hble := beh_le A
    have hloA := lo_length A
    have hlo8 := lo_by hA
    have hW60 : (lo A).length ≤ 60 := by omega
    obtain ⟨K, hK⟩ : ∃ K, shn n = K := ⟨_, rfl⟩
    have hKc : (n < 0 ∧ K = 0) ∨ (1000 < n ∧ K = 1000) ∨ (0 ≤ n ∧ n ≤ 1000 ∧ n = (K : Int)) := by
      have : min (max n 0) 1000 = (K : Int) := by rw [← hK, shn]; omega
      omega
    have HOF : Hid (∀ u : World, Lies u u.heap.size a (u8s A) → Calls Try.prog 15 #[.slice a A.length ca] u fun e w' => (∃ v, e = .returned v ∧ IReads w' v (lo A)) ∧ Below u.heap.size u w') := Lib.hid fun u hl => of_any a ca A u hA (by omega) hl
    have HSHI : Hid (∀ u : World, Lies u u.heap.size a (u8s A) → Calls Try.prog 23 #[.slice a A.length ca, .int .i64 n] u fun e w' => (∃ v, e = .returned v ∧ Reads w' v (shl A K)) ∧ Below u.heap.size u w') := Lib.hid fun u hl => by rw [← hK]; exact shift_any a ca A n u (by omega) h1 hl
    have hHl := shl_le A K
    have hHc := shl_can A K
    have hHz := shl_sq A K
    have hHlen := shl_length A K
    have HDGH0 : ∀ (u : World) (a4 : Option Addr) (c4 : Nat), (shl A K).length ≤ c4 → Lies u u.heap.size a4 (u8s (shl A K)) → Calls Try.prog 21 #[.slice a4 (shl A K).length c4] u fun e w' => e = .returned (.int .i64 (((shl A K).length : Int) - 1)) ∧ u = w' := fun u a4 c4 h5 h6 => by
      have h := degree_any a4 c4 (shl A K) u (by omega) h5 h6
      rwa [hHc.beh] at h
    have he8 := ev_lt hA hx
    have HEV : Hid (∀ (u : World) (b : Nat), Fld u b → Lies u u.heap.size a (u8s A) → Calls Try.prog 24 #[.pointer (some ⟨b, 0, none⟩), .slice a A.length ca, .int .u8 (x : Int)] u fun e w' => e = .returned (.int .u8 (ev A x : Int)) ∧ Below u.heap.size u w') := Lib.hid fun u b hf hl => eval_any b a ca A x u hf hA hx (by omega) hl
    have hev : E (sq (lo A)) (lo A).length x = ev A x := by
      rw [hloA, ← ev_beh hx hA, ev_E hx hA.beh]
      exact E_congr fun k _ => by rw [sq_lo, cf_beh]
    have HREV : Hid (∀ (u : World) (a4 : Option Addr) (c4 : Nat), Lies u u.heap.size a4 (nats (lo A)) → Calls Try.prog 25 #[.slice a4 (lo A).length c4, .int .i64 (x : Int)] u fun e w' => e = .returned (.int .i64 (ev A x : Int)) ∧ u = w') := Lib.hid fun u a4 c4 hl => by rw [← hev]; exact reval_any a4 c4 (lo A) x u hlo8 hx (by omega) hl
    have HDE : Hid (∀ (u : World) (b : Nat), Lies u u.heap.size a (u8s A) → Calls Try.prog 26 #[.pointer (some ⟨b, 0, none⟩), .slice a A.length ca] u fun e w' => (∃ v, e = .returned v ∧ Reads w' v (beh (dl A))) ∧ Below u.heap.size u w') := Lib.hid fun u b hl => derive_any b a ca A u hA (by omega) hl
    have HRDE : Hid (∀ (u : World) (a4 : Option Addr) (c4 : Nat), Lies u u.heap.size a4 (nats (lo A)) → Calls Try.prog 27 #[.slice a4 (lo A).length c4] u fun e w' => (∃ v, e = .returned v ∧ IReads w' v (rder (lo A))) ∧ Below u.heap.size u w') := Lib.hid fun u a4 c4 hl => rderive_any a4 c4 (lo A) u hlo8 (by omega) hl
    have hrl := rder_le (lo A)
    have HSA1 : Hid (∀ (u : World) (a4 : Option Addr) (c4 : Nat) (a5 : Option Addr) (c5 : Nat), (rder (lo A)).length ≤ c5 → Lies u u.heap.size a4 (u8s (beh (dl A))) → Lies u u.heap.size a5 (nats (rder (lo A))) → Calls Try.prog 17 #[.slice a4 (beh (dl A)).length c4, .slice a5 (rder (lo A)).length c5] u fun e w' => e = .returned (.bool true) ∧ Below u.heap.size u w') := Lib.hid fun u a4 c4 a5 c5 h5 h6 h7 =>
      same_true a4 a5 c4 c5 _ _ u (dl_by hA).beh (rder_by hlo8) (by omega) h5 (same_of (beh_can _) fun k => by rw [cf_beh, dl_cf, sq_rder, sq_lo]) h6 h7
    have HSA2 : Hid (∀ (u : World) (a4 : Option Addr) (c4 : Nat) (a5 : Option Addr) (c5 : Nat), (lo A).length ≤ c5 → Lies u u.heap.size a4 (u8s (beh A)) → Lies u u.heap.size a5 (nats (lo A)) → Calls Try.prog 17 #[.slice a4 (beh A).length c4, .slice a5 (lo A).length c5] u fun e w' => e = .returned (.bool true) ∧ Below u.heap.size u w') := Lib.hid fun u a4 c4 a5 c5 h5 h6 h7 =>
      same_true a4 a5 c4 c5 _ _ u hA.beh hlo8 (by omega) h5 (same_of (beh_can _) fun k => by rw [cf_beh, sq_lo]) h6 h7
    have HDGA : Hid (∀ u : World, Lies u u.heap.size a (u8s A) → Calls Try.prog 21 #[.slice a A.length ca] u fun e w' => e = .returned (.int .i64 (((lo A).length : Int) - 1)) ∧ u = w') := Lib.hid fun u hl => by rw [hloA]; exact degree_any a ca A u (by omega) h1 hl
    have HTR : Hid (∀ u : World, Lies u u.heap.size a (u8s A) → Calls Try.prog 22 #[.slice a A.length ca] u fun e w' => (∃ v, e = .returned v ∧ Reads w' v (beh A)) ∧ Below u.heap.size u w') := Lib.hid fun u hl => trim_any a ca A u (by omega) h1 hl
    rw [← hloA] at hHz hHlen
    have hH0 : (lo A).length = 0 → shl A K = [] := fun h => by unfold shl; rw [if_pos (by omega)]
    obtain ⟨W, hW⟩ : ∃ W, lo A = W := ⟨_, rfl⟩
    obtain ⟨H, hH⟩ : ∃ H, shl A K = H := ⟨_, rfl⟩
    obtain ⟨v0, hv0⟩ : ∃ v0, ev A x = v0 := ⟨_, rfl⟩
    obtain ⟨D, hD⟩ : ∃ D, beh (dl A) = D := ⟨_, rfl⟩
    obtain ⟨RD, hRD⟩ : ∃ RD, rder (lo A) = RD := ⟨_, rfl⟩
    obtain ⟨B, hB⟩ : ∃ B, beh A = B := ⟨_, rfl⟩
    rw [hRD] at HRDE HSA1
    rw [hW] at HOF HREV HRDE HSA2 HDGA hW60 hHz hHlen hH0
    rw [hH] at HSHI hHl hHz hHlen HDGH0 hH0
    rw [hv0] at HEV HREV he8
    rw [hD] at HDE HSA1
    rw [hB] at HSA2 HTR
    have hWi : (W.length : Int) ≤ 60 := by omega
    have hHi : (H.length : Int) ≤ 2000 := by omega
    have hxb : (x : Int) < 256 := by omega
    have hx0 : 0 ≤ (x : Int) := by omega
    have hvb : (v0 : Int) < 256 := by omega
    have hv0' : 0 ≤ (v0 : Int) := by omega
    clear hW hH hv0 hD hRD hB HG hlo8 hev hrl hHc hA hloA hble hK hx hHl h60 hla h1 h3
    by_cases hW0 : W.length = 0
    · have hHe := hH0 hW0
      have hHd : (H.length : Int) = 0 := by rw [hHe]; rfl
      have hWd : (W.length : Int) = 0 := by omega
      have HDGH := Lib.hid HDGH0
      clear HDGH0 hHz hHlen hH0 hHe hWi hHi hW60 hW0
      rcases hKc with ⟨hn1, hk0⟩ | ⟨hn1, hk0⟩ | ⟨hn1, hn2, hn3⟩
      · clear hk0
        have hn4 : n ≤ 1000 := by omega
        go_enter Try.func5, Try.ntmps5
        go_wp2_with (first
          | (go_at_call 11; (with_reducible refine (awake_any w).mono ?_); rintro e u1 ⟨rfl, b1⟩; have B1 := Lib.hid b1; clear b1)
          | (go_at_call 12; (with_reducible refine (HG2.out u1).mono ?_); rintro e u2 ⟨rfl, b2⟩; have B2 := Lib.hid (B1.out.next b2); clear b2)
          | (go_at_call 13; (with_reducible refine (gfNew_any u2).mono ?_); rintro e u3 ⟨rfl, f3, b3⟩; have F3 := Lib.hid f3; have B3 := Lib.hid (B2.out.next b3); clear f3 b3; generalize u2.heap.size = b at *)
          | (go_at_call 15; (with_reducible refine (HOF.out u3 (HR.out.step B3.out)).mono ?_); rintro e u4 ⟨⟨v4, rfl, aw, cw, rfl, hcw, l4⟩, b4⟩; have W4 := Lib.hid l4; have HCW := Lib.hid hcw; have S4 := Lib.hid b4; have B4 := Lib.hid (B3.out.next b4); clear l4 b4 hcw)
          | (go_at_call 23; (with_reducible refine (HSHI.out u4 (HR.out.step B4.out)).mono ?_); rintro e u5 ⟨⟨v5, rfl, ah, ch, rfl, hch, l5⟩, b5⟩; have L5 := Lib.hid l5; have HCH := Lib.hid hch; have W5 := Lib.hid (W4.out.step b5); have S5 := Lib.hid (S4.out.next b5); have B5 := Lib.hid (B4.out.next b5); clear l5 b5 hch))
        go_loop [60] (fun i => i = .int .i64 0) (fun i => H.length - (intOf i).toNat)
        case atStart => exact rfl
        case round =>
          obtain rfl := hrel
          clear HSHI HOF HDGH
          go_wp2_with (first
            | (go_at_call 24; (with_reducible refine (HEV.out u5 b (F3.out.step S5.out) (HR.out.step B5.out)).mono ?_); rintro e u6 ⟨rfl, b6⟩; have S6 := Lib.hid (S5.out.next b6); have B6 := Lib.hid (B5.out.next b6); have W6 := Lib.hid (W5.out.step b6); clear b6)
            | (go_at_call 25; (with_reducible refine (HREV.out u6 aw cw W6.out).mono ?_); rintro e u6' ⟨rfl, rfl⟩)
            | (go_at_call 26; (with_reducible refine (HDE.out u6 b (HR.out.step B6.out)).mono ?_); rintro e u7 ⟨⟨v7, rfl, a7, c7, rfl, _, l7⟩, b7⟩; have L7 := Lib.hid l7; have B7 := Lib.hid (B6.out.next b7); have W7 := Lib.hid (W6.out.step b7); clear b7 l7)
            | (go_at_call 27; (with_reducible refine (HRDE.out u7 aw cw W7.out).mono ?_); rintro e u8 ⟨⟨v8, rfl, a8, c8, rfl, hc8, l8⟩, b8⟩; have L8 := Lib.hid l8; have HC8 := Lib.hid hc8; have B8 := Lib.hid (B7.out.next b8); have W8 := Lib.hid (W7.out.step b8); have L78 := Lib.hid (L7.out.step b8); clear b8 l8 hc8)
            | (go_at_call 17; (with_reducible refine (HSA1.out u8 a7 c7 a8 c8 HC8.out L78.out L8.out).mono ?_); rintro e u9 ⟨rfl, b9⟩; have B9 := Lib.hid (B8.out.next b9); have W9 := Lib.hid (W8.out.step b9); clear b9)
            | (go_at_call 21; (with_reducible refine (HDGA.out u9 (HR.out.step B9.out)).mono ?_); rintro e u9' ⟨rfl, rfl⟩)
            | (go_at_call 22; (with_reducible refine (HTR.out u9 (HR.out.step B9.out)).mono ?_); rintro e u10 ⟨⟨v10, rfl, a10, c10, rfl, _, l10⟩, b10⟩; have L10 := Lib.hid l10; have B10 := Lib.hid (B9.out.next b10); have W10 := Lib.hid (W9.out.step b10); clear b10 l10)
            | (go_at_call 17; (with_reducible refine (HSA2.out u10 a10 c10 aw cw HCW.out L10.out W10.out).mono ?_); rintro e u11 ⟨rfl, b11⟩; have B11 := Lib.hid (B10.out.next b11); clear b11))
          go_ret
          exact ⟨rfl, B11.out⟩
      · clear hk0
        have hn4 : 0 ≤ n := by omega
        go_enter Try.func5, Try.ntmps5
        go_wp2_with (first
          | (go_at_call 11; (with_reducible refine (awake_any w).mono ?_); rintro e u1 ⟨rfl, b1⟩; have B1 := Lib.hid b1; clear b1)
          | (go_at_call 12; (with_reducible refine (HG2.out u1).mono ?_); rintro e u2 ⟨rfl, b2⟩; have B2 := Lib.hid (B1.out.next b2); clear b2)
          | (go_at_call 13; (with_reducible refine (gfNew_any u2).mono ?_); rintro e u3 ⟨rfl, f3, b3⟩; have F3 := Lib.hid f3; have B3 := Lib.hid (B2.out.next b3); clear f3 b3; generalize u2.heap.size = b at *)
          | (go_at_call 15; (with_reducible refine (HOF.out u3 (HR.out.step B3.out)).mono ?_); rintro e u4 ⟨⟨v4, rfl, aw, cw, rfl, hcw, l4⟩, b4⟩; have W4 := Lib.hid l4; have HCW := Lib.hid hcw; have S4 := Lib.hid b4; have B4 := Lib.hid (B3.out.next b4); clear l4 b4 hcw)
          | (go_at_call 23; (with_reducible refine (HSHI.out u4 (HR.out.step B4.out)).mono ?_); rintro e u5 ⟨⟨v5, rfl, ah, ch, rfl, hch, l5⟩, b5⟩; have L5 := Lib.hid l5; have HCH := Lib.hid hch; have W5 := Lib.hid (W4.out.step b5); have S5 := Lib.hid (S4.out.next b5); have B5 := Lib.hid (B4.out.next b5); clear l5 b5 hch))
        go_loop [60] (fun i => i = .int .i64 0) (fun i => H.length - (intOf i).toNat)
        case atStart => exact rfl
        case round =>
          obtain rfl := hrel
          clear HSHI HOF HDGH
          go_wp2_with (first
            | (go_at_call 24; (with_reducible refine (HEV.out u5 b (F3.out.step S5.out) (HR.out.step B5.out)).mono ?_); rintro e u6 ⟨rfl, b6⟩; have S6 := Lib.hid (S5.out.next b6); have B6 := Lib.hid (B5.out.next b6); have W6 := Lib.hid (W5.out.step b6); clear b6)
            | (go_at_call 25; (with_reducible refine (HREV.out u6 aw cw W6.out).mono ?_); rintro e u6' ⟨rfl, rfl⟩)
            | (go_at_call 26; (with_reducible refine (HDE.out u6 b (HR.out.step B6.out)).mono ?_); rintro e u7 ⟨⟨v7, rfl, a7, c7, rfl, _, l7⟩, b7⟩; have L7 := Lib.hid l7; have B7 := Lib.hid (B6.out.next b7); have W7 := Lib.hid (W6.out.step b7); clear b7 l7)
            | (go_at_call 27; (with_reducible refine (HRDE.out u7 aw cw W7.out).mono ?_); rintro e u8 ⟨⟨v8, rfl, a8, c8, rfl, hc8, l8⟩, b8⟩; have L8 := Lib.hid l8; have HC8 := Lib.hid hc8; have B8 := Lib.hid (B7.out.next b8); have W8 := Lib.hid (W7.out.step b8); have L78 := Lib.hid (L7.out.step b8); clear b8 l8 hc8)
            | (go_at_call 17; (with_reducible refine (HSA1.out u8 a7 c7 a8 c8 HC8.out L78.out L8.out).mono ?_); rintro e u9 ⟨rfl, b9⟩; have B9 := Lib.hid (B8.out.next b9); have W9 := Lib.hid (W8.out.step b9); clear b9)
            | (go_at_call 21; (with_reducible refine (HDGA.out u9 (HR.out.step B9.out)).mono ?_); rintro e u9' ⟨rfl, rfl⟩)
            | (go_at_call 22; (with_reducible refine (HTR.out u9 (HR.out.step B9.out)).mono ?_); rintro e u10 ⟨⟨v10, rfl, a10, c10, rfl, _, l10⟩, b10⟩; have L10 := Lib.hid l10; have B10 := Lib.hid (B9.out.next b10); have W10 := Lib.hid (W9.out.step b10); clear b10 l10)
            | (go_at_call 17; (with_reducible refine (HSA2.out u10 a10 c10 aw cw HCW.out L10.out W10.out).mono ?_); rintro e u11 ⟨rfl, b11⟩; have B11 := Lib.hid (B10.out.next b11); clear b11))
          go_ret
          exact ⟨rfl, B11.out⟩
      · clear hn3
        go_enter Try.func5, Try.ntmps5
        go_wp2_with (first
          | (go_at_call 11; (with_reducible refine (awake_any w).mono ?_); rintro e u1 ⟨rfl, b1⟩; have B1 := Lib.hid b1; clear b1)
          | (go_at_call 12; (with_reducible refine (HG2.out u1).mono ?_); rintro e u2 ⟨rfl, b2⟩; have B2 := Lib.hid (B1.out.next b2); clear b2)
          | (go_at_call 13; (with_reducible refine (gfNew_any u2).mono ?_); rintro e u3 ⟨rfl, f3, b3⟩; have F3 := Lib.hid f3; have B3 := Lib.hid (B2.out.next b3); clear f3 b3; generalize u2.heap.size = b at *)
          | (go_at_call 15; (with_reducible refine (HOF.out u3 (HR.out.step B3.out)).mono ?_); rintro e u4 ⟨⟨v4, rfl, aw, cw, rfl, hcw, l4⟩, b4⟩; have W4 := Lib.hid l4; have HCW := Lib.hid hcw; have S4 := Lib.hid b4; have B4 := Lib.hid (B3.out.next b4); clear l4 b4 hcw)
          | (go_at_call 23; (with_reducible refine (HSHI.out u4 (HR.out.step B4.out)).mono ?_); rintro e u5 ⟨⟨v5, rfl, ah, ch, rfl, hch, l5⟩, b5⟩; have L5 := Lib.hid l5; have HCH := Lib.hid hch; have W5 := Lib.hid (W4.out.step b5); have S5 := Lib.hid (S4.out.next b5); have B5 := Lib.hid (B4.out.next b5); clear l5 b5 hch))
        go_loop [60] (fun i => i = .int .i64 0) (fun i => H.length - (intOf i).toNat)
        case atStart => exact rfl
        case round =>
          obtain rfl := hrel
          clear HSHI HOF HDGH
          go_wp2_with (first
            | (go_at_call 24; (with_reducible refine (HEV.out u5 b (F3.out.step S5.out) (HR.out.step B5.out)).mono ?_); rintro e u6 ⟨rfl, b6⟩; have S6 := Lib.hid (S5.out.next b6); have B6 := Lib.hid (B5.out.next b6); have W6 := Lib.hid (W5.out.step b6); clear b6)
            | (go_at_call 25; (with_reducible refine (HREV.out u6 aw cw W6.out).mono ?_); rintro e u6' ⟨rfl, rfl⟩)
            | (go_at_call 26; (with_reducible refine (HDE.out u6 b (HR.out.step B6.out)).mono ?_); rintro e u7 ⟨⟨v7, rfl, a7, c7, rfl, _, l7⟩, b7⟩; have L7 := Lib.hid l7; have B7 := Lib.hid (B6.out.next b7); have W7 := Lib.hid (W6.out.step b7); clear b7 l7)
            | (go_at_call 27; (with_reducible refine (HRDE.out u7 aw cw W7.out).mono ?_); rintro e u8 ⟨⟨v8, rfl, a8, c8, rfl, hc8, l8⟩, b8⟩; have L8 := Lib.hid l8; have HC8 := Lib.hid hc8; have B8 := Lib.hid (B7.out.next b8); have W8 := Lib.hid (W7.out.step b8); have L78 := Lib.hid (L7.out.step b8); clear b8 l8 hc8)
            | (go_at_call 17; (with_reducible refine (HSA1.out u8 a7 c7 a8 c8 HC8.out L78.out L8.out).mono ?_); rintro e u9 ⟨rfl, b9⟩; have B9 := Lib.hid (B8.out.next b9); have W9 := Lib.hid (W8.out.step b9); clear b9)
            | (go_at_call 21; (with_reducible refine (HDGA.out u9 (HR.out.step B9.out)).mono ?_); rintro e u9' ⟨rfl, rfl⟩)
            | (go_at_call 22; (with_reducible refine (HTR.out u9 (HR.out.step B9.out)).mono ?_); rintro e u10 ⟨⟨v10, rfl, a10, c10, rfl, _, l10⟩, b10⟩; have L10 := Lib.hid l10; have B10 := Lib.hid (B9.out.next b10); have W10 := Lib.hid (W9.out.step b10); clear b10 l10)
            | (go_at_call 17; (with_reducible refine (HSA2.out u10 a10 c10 aw cw HCW.out L10.out W10.out).mono ?_); rintro e u11 ⟨rfl, b11⟩; have B11 := Lib.hid (B10.out.next b11); clear b11))
          go_ret
          exact ⟨rfl, B11.out⟩
    · have hHd := hHlen (by omega)
      have hW1 : 0 < (W.length : Int) := by omega
      have HZH := Lib.hid hHz
      clear hHlen hH0 hHz
      obtain ⟨m1, hm1⟩ : ∃ m1 : Int, (W.length : Int) - 1 = m1 := ⟨_, rfl⟩
      obtain ⟨M1, hM1⟩ : ∃ M1 : Int, (H.length : Int) - 1 = M1 := ⟨_, rfl⟩
      rw [hm1] at HDGA
      simp only [hM1] at HDGH0
      have HDGH := Lib.hid HDGH0
      have hm1b : 0 ≤ m1 := by omega
      have hm1c : m1 ≤ 60 := by omega
      have hM1c : M1 ≤ 2000 := by omega
      have HM1 := Lib.hid hM1
      clear HDGH0 hW60
      rcases hKc with ⟨hn1, hk0⟩ | ⟨hn1, hk0⟩ | ⟨hn1, hn2, hn3⟩
      · have hHW : (H.length : Int) = (W.length : Int) := by omega
        have hMm : M1 = m1 := by omega
        subst hMm
        have hn4 : n ≤ 1000 := by omega
        clear hk0 hM1 hHi hM1c hHd
        go_enter Try.func5, Try.ntmps5
        go_wp2_with (first
          | (go_at_call 11; (with_reducible refine (awake_any w).mono ?_); rintro e u1 ⟨rfl, b1⟩; have B1 := Lib.hid b1; clear b1)
          | (go_at_call 12; (with_reducible refine (HG2.out u1).mono ?_); rintro e u2 ⟨rfl, b2⟩; have B2 := Lib.hid (B1.out.next b2); clear b2)
          | (go_at_call 13; (with_reducible refine (gfNew_any u2).mono ?_); rintro e u3 ⟨rfl, f3, b3⟩; have F3 := Lib.hid f3; have B3 := Lib.hid (B2.out.next b3); clear f3 b3; generalize u2.heap.size = b at *)
          | (go_at_call 15; (with_reducible refine (HOF.out u3 (HR.out.step B3.out)).mono ?_); rintro e u4 ⟨⟨v4, rfl, aw, cw, rfl, hcw, l4⟩, b4⟩; have W4 := Lib.hid l4; have HCW := Lib.hid hcw; have S4 := Lib.hid b4; have B4 := Lib.hid (B3.out.next b4); clear l4 b4 hcw)
          | (go_at_call 23; (with_reducible refine (HSHI.out u4 (HR.out.step B4.out)).mono ?_); rintro e u5 ⟨⟨v5, rfl, ah, ch, rfl, hch, l5⟩, b5⟩; have L5 := Lib.hid l5; have HCH := Lib.hid hch; have W5 := Lib.hid (W4.out.step b5); have S5 := Lib.hid (S4.out.next b5); have B5 := Lib.hid (B4.out.next b5); clear l5 b5 hch)
          | (go_at_call 21; (with_reducible refine (HDGH.out u5 ah ch HCH.out L5.out).mono ?_); rintro e u5' ⟨rfl, rfl⟩))
        go_loop [60] (fun i => ∃ j : Nat, j ≤ H.length ∧ i = .int .i64 j) (fun i => H.length - (intOf i).toNat)
        case atStart => exact ⟨0, Nat.zero_le _, rfl⟩
        case round =>
          obtain ⟨j, hj, rfl⟩ := hrel
          by_cases hlt : j < H.length
          · have hj1 : (j : Int) < H.length := by omega
            have hj0 : 0 ≤ (j : Int) := by omega
            by_cases hw : j < W.length
            · have hw1 : (j : Int) < W.length := by omega
              go_wp2
              go_round
              case rel => exact ⟨j + 1, by omega, by go_num⟩
              case measure => first | (simp [intOf]; done) | (simp [intOf]; omega)
            · have hw1 : (W.length : Int) ≤ j := by omega
              exfalso; omega
          · have hj1 : (H.length : Int) ≤ j := by omega
            clear HSHI HOF HDGH
            go_wp2_with (first
              | (go_at_call 24; (with_reducible refine (HEV.out u5 b (F3.out.step S5.out) (HR.out.step B5.out)).mono ?_); rintro e u6 ⟨rfl, b6⟩; have S6 := Lib.hid (S5.out.next b6); have B6 := Lib.hid (B5.out.next b6); have W6 := Lib.hid (W5.out.step b6); clear b6)
              | (go_at_call 25; (with_reducible refine (HREV.out u6 aw cw W6.out).mono ?_); rintro e u6' ⟨rfl, rfl⟩)
              | (go_at_call 26; (with_reducible refine (HDE.out u6 b (HR.out.step B6.out)).mono ?_); rintro e u7 ⟨⟨v7, rfl, a7, c7, rfl, _, l7⟩, b7⟩; have L7 := Lib.hid l7; have B7 := Lib.hid (B6.out.next b7); have W7 := Lib.hid (W6.out.step b7); clear b7 l7)
              | (go_at_call 27; (with_reducible refine (HRDE.out u7 aw cw W7.out).mono ?_); rintro e u8 ⟨⟨v8, rfl, a8, c8, rfl, hc8, l8⟩, b8⟩; have L8 := Lib.hid l8; have HC8 := Lib.hid hc8; have B8 := Lib.hid (B7.out.next b8); have W8 := Lib.hid (W7.out.step b8); have L78 := Lib.hid (L7.out.step b8); clear b8 l8 hc8)
              | (go_at_call 17; (with_reducible refine (HSA1.out u8 a7 c7 a8 c8 HC8.out L78.out L8.out).mono ?_); rintro e u9 ⟨rfl, b9⟩; have B9 := Lib.hid (B8.out.next b9); have W9 := Lib.hid (W8.out.step b9); clear b9)
              | (go_at_call 21; (with_reducible refine (HDGA.out u9 (HR.out.step B9.out)).mono ?_); rintro e u9' ⟨rfl, rfl⟩)
              | (go_at_call 22; (with_reducible refine (HTR.out u9 (HR.out.step B9.out)).mono ?_); rintro e u10 ⟨⟨v10, rfl, a10, c10, rfl, _, l10⟩, b10⟩; have L10 := Lib.hid l10; have B10 := Lib.hid (B9.out.next b10); have W10 := Lib.hid (W9.out.step b10); clear b10 l10)
              | (go_at_call 17; (with_reducible refine (HSA2.out u10 a10 c10 aw cw HCW.out L10.out W10.out).mono ?_); rintro e u11 ⟨rfl, b11⟩; have B11 := Lib.hid (B10.out.next b11); clear b11))
            go_ret
            exact ⟨rfl, B11.out⟩
      · have hHW : (W.length : Int) + 1000 = (H.length : Int) := by omega
        have hMm : m1 + 1000 = M1 := by omega
        have hn4 : 0 ≤ n := by omega
        clear hk0 hM1 hHd
        go_enter Try.func5, Try.ntmps5
        go_wp2_with (first
          | (go_at_call 11; (with_reducible refine (awake_any w).mono ?_); rintro e u1 ⟨rfl, b1⟩; have B1 := Lib.hid b1; clear b1)
          | (go_at_call 12; (with_reducible refine (HG2.out u1).mono ?_); rintro e u2 ⟨rfl, b2⟩; have B2 := Lib.hid (B1.out.next b2); clear b2)
          | (go_at_call 13; (with_reducible refine (gfNew_any u2).mono ?_); rintro e u3 ⟨rfl, f3, b3⟩; have F3 := Lib.hid f3; have B3 := Lib.hid (B2.out.next b3); clear f3 b3; generalize u2.heap.size = b at *)
          | (go_at_call 15; (with_reducible refine (HOF.out u3 (HR.out.step B3.out)).mono ?_); rintro e u4 ⟨⟨v4, rfl, aw, cw, rfl, hcw, l4⟩, b4⟩; have W4 := Lib.hid l4; have HCW := Lib.hid hcw; have S4 := Lib.hid b4; have B4 := Lib.hid (B3.out.next b4); clear l4 b4 hcw)
          | (go_at_call 23; (with_reducible refine (HSHI.out u4 (HR.out.step B4.out)).mono ?_); rintro e u5 ⟨⟨v5, rfl, ah, ch, rfl, hch, l5⟩, b5⟩; have L5 := Lib.hid l5; have HCH := Lib.hid hch; have W5 := Lib.hid (W4.out.step b5); have S5 := Lib.hid (S4.out.next b5); have B5 := Lib.hid (B4.out.next b5); clear l5 b5 hch)
          | (go_at_call 21; (with_reducible refine (HDGH.out u5 ah ch HCH.out L5.out).mono ?_); rintro e u5' ⟨rfl, rfl⟩))
        go_loop [60] (fun i => ∃ j : Nat, j ≤ H.length ∧ i = .int .i64 j) (fun i => H.length - (intOf i).toNat)
        case atStart => exact ⟨0, Nat.zero_le _, rfl⟩
        case round =>
          obtain ⟨j, hj, rfl⟩ := hrel
          by_cases hlt : j < H.length
          · have hj1 : (j : Int) < H.length := by omega
            have hj0 : 0 ≤ (j : Int) := by omega
            by_cases hw : j < W.length
            · have hw1 : (j : Int) < W.length := by omega
              go_wp2
              go_round
              case rel => exact ⟨j + 1, by omega, by go_num⟩
              case measure => first | (simp [intOf]; done) | (simp [intOf]; omega)
            · have hw1 : (W.length : Int) ≤ j := by omega
              obtain ⟨bh, oh, rfl, hbh, hch⟩ := L5.out (by rw [u8s_length]; omega)
              have hcell : u5.cell? ⟨bh, oh + j, none⟩ = some (.int .u8 (sq H j : Int)) := u8s_sq hch j hlt
              rw [HZH.out j (by omega)] at hcell
              clear hch hbh
              go_wp2
              go_round
              case rel => exact ⟨j + 1, by omega, by go_num⟩
              case measure => first | (simp [intOf]; done) | (simp [intOf]; omega)
          · have hj1 : (H.length : Int) ≤ j := by omega
            clear HSHI HOF HDGH
            go_wp2_with (first
              | (go_at_call 24; (with_reducible refine (HEV.out u5 b (F3.out.step S5.out) (HR.out.step B5.out)).mono ?_); rintro e u6 ⟨rfl, b6⟩; have S6 := Lib.hid (S5.out.next b6); have B6 := Lib.hid (B5.out.next b6); have W6 := Lib.hid (W5.out.step b6); clear b6)
              | (go_at_call 25; (with_reducible refine (HREV.out u6 aw cw W6.out).mono ?_); rintro e u6' ⟨rfl, rfl⟩)
              | (go_at_call 26; (with_reducible refine (HDE.out u6 b (HR.out.step B6.out)).mono ?_); rintro e u7 ⟨⟨v7, rfl, a7, c7, rfl, _, l7⟩, b7⟩; have L7 := Lib.hid l7; have B7 := Lib.hid (B6.out.next b7); have W7 := Lib.hid (W6.out.step b7); clear b7 l7)
              | (go_at_call 27; (with_reducible refine (HRDE.out u7 aw cw W7.out).mono ?_); rintro e u8 ⟨⟨v8, rfl, a8, c8, rfl, hc8, l8⟩, b8⟩; have L8 := Lib.hid l8; have HC8 := Lib.hid hc8; have B8 := Lib.hid (B7.out.next b8); have W8 := Lib.hid (W7.out.step b8); have L78 := Lib.hid (L7.out.step b8); clear b8 l8 hc8)
              | (go_at_call 17; (with_reducible refine (HSA1.out u8 a7 c7 a8 c8 HC8.out L78.out L8.out).mono ?_); rintro e u9 ⟨rfl, b9⟩; have B9 := Lib.hid (B8.out.next b9); have W9 := Lib.hid (W8.out.step b9); clear b9)
              | (go_at_call 21; (with_reducible refine (HDGA.out u9 (HR.out.step B9.out)).mono ?_); rintro e u9' ⟨rfl, rfl⟩)
              | (go_at_call 22; (with_reducible refine (HTR.out u9 (HR.out.step B9.out)).mono ?_); rintro e u10 ⟨⟨v10, rfl, a10, c10, rfl, _, l10⟩, b10⟩; have L10 := Lib.hid l10; have B10 := Lib.hid (B9.out.next b10); have W10 := Lib.hid (W9.out.step b10); clear b10 l10)
              | (go_at_call 17; (with_reducible refine (HSA2.out u10 a10 c10 aw cw HCW.out L10.out W10.out).mono ?_); rintro e u11 ⟨rfl, b11⟩; have B11 := Lib.hid (B10.out.next b11); clear b11))
            go_ret
            exact ⟨rfl, B11.out⟩
      · subst hn3
        have hHW : (W.length : Int) + (K : Int) = (H.length : Int) := by omega
        have hMm : m1 + (K : Int) = M1 := by omega
        clear hM1 hHd
        go_enter Try.func5, Try.ntmps5
        go_wp2_with (first
          | (go_at_call 11; (with_reducible refine (awake_any w).mono ?_); rintro e u1 ⟨rfl, b1⟩; have B1 := Lib.hid b1; clear b1)
          | (go_at_call 12; (with_reducible refine (HG2.out u1).mono ?_); rintro e u2 ⟨rfl, b2⟩; have B2 := Lib.hid (B1.out.next b2); clear b2)
          | (go_at_call 13; (with_reducible refine (gfNew_any u2).mono ?_); rintro e u3 ⟨rfl, f3, b3⟩; have F3 := Lib.hid f3; have B3 := Lib.hid (B2.out.next b3); clear f3 b3; generalize u2.heap.size = b at *)
          | (go_at_call 15; (with_reducible refine (HOF.out u3 (HR.out.step B3.out)).mono ?_); rintro e u4 ⟨⟨v4, rfl, aw, cw, rfl, hcw, l4⟩, b4⟩; have W4 := Lib.hid l4; have HCW := Lib.hid hcw; have S4 := Lib.hid b4; have B4 := Lib.hid (B3.out.next b4); clear l4 b4 hcw)
          | (go_at_call 23; (with_reducible refine (HSHI.out u4 (HR.out.step B4.out)).mono ?_); rintro e u5 ⟨⟨v5, rfl, ah, ch, rfl, hch, l5⟩, b5⟩; have L5 := Lib.hid l5; have HCH := Lib.hid hch; have W5 := Lib.hid (W4.out.step b5); have S5 := Lib.hid (S4.out.next b5); have B5 := Lib.hid (B4.out.next b5); clear l5 b5 hch)
          | (go_at_call 21; (with_reducible refine (HDGH.out u5 ah ch HCH.out L5.out).mono ?_); rintro e u5' ⟨rfl, rfl⟩))
        go_loop [60] (fun i => ∃ j : Nat, j ≤ H.length ∧ i = .int .i64 j) (fun i => H.length - (intOf i).toNat)
        case atStart => exact ⟨0, Nat.zero_le _, rfl⟩
        case round =>
          obtain ⟨j, hj, rfl⟩ := hrel
          by_cases hlt : j < H.length
          · have hj1 : (j : Int) < H.length := by omega
            have hj0 : 0 ≤ (j : Int) := by omega
            by_cases hw : j < W.length
            · have hw1 : (j : Int) < W.length := by omega
              go_wp2
              go_round
              case rel => exact ⟨j + 1, by omega, by go_num⟩
              case measure => first | (simp [intOf]; done) | (simp [intOf]; omega)
            · have hw1 : (W.length : Int) ≤ j := by omega
              obtain ⟨bh, oh, rfl, hbh, hch⟩ := L5.out (by rw [u8s_length]; omega)
              have hcell : u5.cell? ⟨bh, oh + j, none⟩ = some (.int .u8 (sq H j : Int)) := u8s_sq hch j hlt
              rw [HZH.out j (by omega)] at hcell
              clear hch hbh
              go_wp2
              go_round
              case rel => exact ⟨j + 1, by omega, by go_num⟩
              case measure => first | (simp [intOf]; done) | (simp [intOf]; omega)
          · have hj1 : (H.length : Int) ≤ j := by omega
            clear HSHI HOF HDGH
            go_wp2_with (first
              | (go_at_call 24; (with_reducible refine (HEV.out u5 b (F3.out.step S5.out) (HR.out.step B5.out)).mono ?_); rintro e u6 ⟨rfl, b6⟩; have S6 := Lib.hid (S5.out.next b6); have B6 := Lib.hid (B5.out.next b6); have W6 := Lib.hid (W5.out.step b6); clear b6)
              | (go_at_call 25; (with_reducible refine (HREV.out u6 aw cw W6.out).mono ?_); rintro e u6' ⟨rfl, rfl⟩)
              | (go_at_call 26; (with_reducible refine (HDE.out u6 b (HR.out.step B6.out)).mono ?_); rintro e u7 ⟨⟨v7, rfl, a7, c7, rfl, _, l7⟩, b7⟩; have L7 := Lib.hid l7; have B7 := Lib.hid (B6.out.next b7); have W7 := Lib.hid (W6.out.step b7); clear b7 l7)
              | (go_at_call 27; (with_reducible refine (HRDE.out u7 aw cw W7.out).mono ?_); rintro e u8 ⟨⟨v8, rfl, a8, c8, rfl, hc8, l8⟩, b8⟩; have L8 := Lib.hid l8; have HC8 := Lib.hid hc8; have B8 := Lib.hid (B7.out.next b8); have W8 := Lib.hid (W7.out.step b8); have L78 := Lib.hid (L7.out.step b8); clear b8 l8 hc8)
              | (go_at_call 17; (with_reducible refine (HSA1.out u8 a7 c7 a8 c8 HC8.out L78.out L8.out).mono ?_); rintro e u9 ⟨rfl, b9⟩; have B9 := Lib.hid (B8.out.next b9); have W9 := Lib.hid (W8.out.step b9); clear b9)
              | (go_at_call 21; (with_reducible refine (HDGA.out u9 (HR.out.step B9.out)).mono ?_); rintro e u9' ⟨rfl, rfl⟩)
              | (go_at_call 22; (with_reducible refine (HTR.out u9 (HR.out.step B9.out)).mono ?_); rintro e u10 ⟨⟨v10, rfl, a10, c10, rfl, _, l10⟩, b10⟩; have L10 := Lib.hid l10; have B10 := Lib.hid (B9.out.next b10); have W10 := Lib.hid (W9.out.step b10); clear b10 l10)
              | (go_at_call 17; (with_reducible refine (HSA2.out u10 a10 c10 aw cw HCW.out L10.out W10.out).mono ?_); rintro e u11 ⟨rfl, b11⟩; have B11 := Lib.hid (B10.out.next b11); clear b11))
            go_ret
            exact ⟨rfl, B11.out⟩

end Go.Proofs.Ytligaipkdabmoaa
