/- The walk of PolyTimes. -/
import Derived.Test.YtligaipkdabmoaaPolyF
import Derived.Test.YtligaipkdabmoaaPolyMath2
namespace Go.Proofs.Ytligaipkdabmoaa
open Go.RowKit GfMath PolyMath
set_option linter.unusedVariables false

theorem two_polys {u : World} {a c : Option Addr} {ca cc : Nat} {A C : List Nat} (hA : By A) (hC : By C) (h1 : A.length ≤ ca) (h2 : C.length ≤ cc) (h3 : ca ≤ 140737488351232) (h4 : cc ≤ 140737488351232)
    (hr : Lies u u.heap.size a (u8s A)) (hs : Lies u u.heap.size c (u8s C)) : Polys u [(a, A.length, ca), (c, C.length, cc)] [A, C] := by
  refine ⟨rfl, fun i hi hi2 => ?_⟩
  match i, hi with
  | 0, _ => exact ⟨rfl, h1, h3, hA, hr⟩
  | 1, _ => exact ⟨rfl, h2, h4, hC, hs⟩
theorem pmul_two (b : Nat) {a c : Option Addr} {ca cc : Nat} {A C : List Nat} (hA : By A) (hC : By C) (h1 : A.length ≤ ca) (h2 : C.length ≤ cc) (h3 : ca ≤ 140737488351232) (h4 : cc ≤ 140737488351232) (h5 : A.length ≤ 5000) (h6 : C.length ≤ 5000)
    (u : World) (hf : Fld u b) (hr : Lies u u.heap.size a (u8s A)) (hs : Lies u u.heap.size c (u8s C)) :
    Calls Try.prog 19 #[.pointer (some ⟨b, 0, none⟩), .slice (some ⟨u.heap.size, 0, none⟩) 2 2] (u.alloc (.cells #[.slice a A.length ca, .slice c C.length cc] 28)) fun e w' => (∃ v, e = .returned v ∧ Reads w' v (pms [A, C])) ∧ Below u.heap.size u w' :=
  (pmul_any b (some ⟨u.heap.size, 0, none⟩) 2 [(a, A.length, ca), (c, C.length, cc)] [A, C] _ (hf.step (alloc_below _ _)) ((two_polys hA hC h1 h2 h3 h4 hr hs).step (alloc_below _ _)) (by simp) (by intro l hl; simp at hl; rcases hl with rfl | rfl <;> assumption)
    (Lies.new [.slice a A.length ca, .slice c C.length cc] u _)).mono fun e w' ⟨h1, h2⟩ => ⟨h1, (alloc_below _ _).next h2⟩
theorem padd_two (b : Nat) {a c : Option Addr} {ca cc : Nat} {A C : List Nat} (hA : By A) (hC : By C) (h1 : A.length ≤ ca) (h2 : C.length ≤ cc) (h3 : ca ≤ 140737488351232) (h4 : cc ≤ 140737488351232) (h5 : A.length ≤ 5000) (h6 : C.length ≤ 5000)
    (u : World) (hr : Lies u u.heap.size a (u8s A)) (hs : Lies u u.heap.size c (u8s C)) :
    Calls Try.prog 18 #[.pointer (some ⟨b, 0, none⟩), .slice (some ⟨u.heap.size, 0, none⟩) 2 2] (u.alloc (.cells #[.slice a A.length ca, .slice c C.length cc] 28)) fun e w' => (∃ v, e = .returned v ∧ Reads w' v (addl [A, C])) ∧ Below u.heap.size u w' :=
  (padd_any b (some ⟨u.heap.size, 0, none⟩) 2 [(a, A.length, ca), (c, C.length, cc)] [A, C] _ ((two_polys hA hC h1 h2 h3 h4 hr hs).step (alloc_below _ _)) (by simp) (by intro l hl; simp at hl; rcases hl with rfl | rfl <;> assumption)
    (Lies.new [.slice a A.length ca, .slice c C.length cc] u _)).mono fun e w' ⟨h1, h2⟩ => ⟨h1, (alloc_below _ _).next h2⟩
theorem powI_3 {x : Nat} (hx : x < 256) : powI x 3 = pw x 3 := by
  by_cases h : x = 0
  · subst h; rw [powI, if_neg (by omega), if_pos rfl, pw, gm_zero_right]
  · exact powI_pw hx h 3 3 (by decide)

set_option maxHeartbeats 2000000 in
theorem polyTimes_walk (a c : Option Addr) (ca cc : Nat) (A C : List Nat) (x : Nat) (w : World) (hA : By A) (hC : By C) (hx : x < 256) (h1 : A.length ≤ ca) (h2 : C.length ≤ cc) (h3 : ca ≤ 140737488351232) (h4 : cc ≤ 140737488351232)
    (hr : Lies w w.heap.size a (u8s A)) (hs : Lies w w.heap.size c (u8s C)) :
    Calls Try.prog 10 #[.slice a A.length ca, .slice c C.length cc, .int .u8 (x : Int)] w fun e w' => e = .returned (.bool true) ∧ Below w.heap.size w w' := by
  have HG := Lib.hid (great_two a A.length ca c C.length cc (by omega) (by omega))
  have HR := Lib.hid hr
  have HS := Lib.hid hs
  clear hr hs
  by_cases h60 : 60 < A.length ∨ 60 < C.length
  · have HG2 : Hid (∀ u : World, Calls Try.prog 12 #[.slice (some ⟨u.heap.size, 0, none⟩) 2 2] (u.alloc (.cells #[.slice a A.length ca, .slice c C.length cc] 28)) fun e w' => e = .returned (.bool true) ∧ Below u.heap.size u w') := Lib.hid fun u => by have := HG.out u; rwa [decide_eq_true h60] at this
    clear HG h60
    go_enter Try.func10, Try.ntmps10
    go_wp2_with (first
      | (go_at_call 11; (with_reducible refine (awake_any w).mono ?_); rintro e u1 ⟨rfl, b1⟩; have B1 := Lib.hid b1; clear b1)
      | (go_at_call 12; (with_reducible refine (HG2.out u1).mono ?_); rintro e u2 ⟨rfl, b2⟩; have B2 := Lib.hid (B1.out.next b2); clear b2))
    go_ret
    exact ⟨rfl, B2.out⟩
  · have HG2 : Hid (∀ u : World, Calls Try.prog 12 #[.slice (some ⟨u.heap.size, 0, none⟩) 2 2] (u.alloc (.cells #[.slice a A.length ca, .slice c C.length cc] 28)) fun e w' => e = .returned (.bool false) ∧ Below u.heap.size u w') := Lib.hid fun u => by have := HG.out u; rwa [decide_eq_false h60] at this
    have hla : A.length ≤ 60 := by omega
    have hlc : C.length ≤ 60 := by omega
    have HMUL := Lib.hid (fun b => pmul_two b (a := a) (c := c) hA hC h1 h2 h3 h4 (by omega) (by omega))
    have HADD := Lib.hid (fun b => padd_two b (a := a) (c := c) hA hC h1 h2 h3 h4 (by omega) (by omega))
    have HSHI : Hid (∀ u : World, Lies u u.heap.size a (u8s A) → Calls Try.prog 23 #[.slice a A.length ca, .int .i64 3] u fun e w' => (∃ v, e = .returned v ∧ Reads w' v (shl A 3)) ∧ Below u.heap.size u w') := Lib.hid fun u hl => shift_any a ca A 3 u (by omega) h1 hl
    have h8 : ∀ l ∈ [A, C], By l := by intro l hl; simp at hl; rcases hl with rfl | rfl <;> assumption
    have e1 := ev_pms2 hA hC hx
    have e2 := ev_addl2 hA hC hx
    have e3 := ev_shl hA hx 3
    have l1 : (pms [A, C]).length ≤ 200 := by have := pms_le [A, C] 60 (by intro l hl; simp at hl; rcases hl with rfl | rfl <;> assumption); simp at this; omega
    have l2 : (addl [A, C]).length ≤ 200 := by have := addl_le [A, C]; have e : mx [A, C] = max A.length C.length := by simp [mx]
                                               omega
    have l3 : (shl A 3).length ≤ 200 := by have := shl_le A 3; omega
    have y1 := (pms_all [A, C] h8).1
    have y2 := addl_by [A, C] h8
    have y3 := shl_by hA 3
    have p8 := ev_lt hA hx
    have q8 := ev_lt hC hx
    have r8 := pw_lt hx 3
    have HEA : Hid (∀ (u : World) (b : Nat), Fld u b → Lies u u.heap.size a (u8s A) → Calls Try.prog 24 #[.pointer (some ⟨b, 0, none⟩), .slice a A.length ca, .int .u8 (x : Int)] u fun e w' => e = .returned (.int .u8 (ev A x : Int)) ∧ Below u.heap.size u w') := Lib.hid fun u b hf hl => eval_any b a ca A x u hf hA hx (by omega) hl
    have HEC : Hid (∀ (u : World) (b : Nat), Fld u b → Lies u u.heap.size c (u8s C) → Calls Try.prog 24 #[.pointer (some ⟨b, 0, none⟩), .slice c C.length cc, .int .u8 (x : Int)] u fun e w' => e = .returned (.int .u8 (ev C x : Int)) ∧ Below u.heap.size u w') := Lib.hid fun u b hf hl => eval_any b c cc C x u hf hC hx (by omega) hl
    have HPW : Hid (∀ (u : World) (b : Nat), Fld u b → Calls Try.prog 33 #[.pointer (some ⟨b, 0, none⟩), .int .u8 (x : Int), .int .i64 3] u fun e w' => e = .returned (.int .u8 (pw x 3 : Int)) ∧ Below u.heap.size u w') := Lib.hid fun u b hf => by rw [← powI_3 hx]; exact pow_any b x 3 u hf hx
    obtain ⟨M, hM⟩ : ∃ M, pms [A, C] = M := ⟨_, rfl⟩
    obtain ⟨D, hD⟩ : ∃ D, addl [A, C] = D := ⟨_, rfl⟩
    obtain ⟨H, hH⟩ : ∃ H, shl A 3 = H := ⟨_, rfl⟩
    obtain ⟨p, hp⟩ : ∃ p, ev A x = p := ⟨_, rfl⟩
    obtain ⟨q, hq⟩ : ∃ q, ev C x = q := ⟨_, rfl⟩
    obtain ⟨r, hr⟩ : ∃ r, pw x 3 = r := ⟨_, rfl⟩
    rw [hM, hp, hq] at e1
    rw [hD, hp, hq] at e2
    rw [hH, hp, hr] at e3
    rw [hM] at l1 y1 HMUL
    rw [hD] at l2 y2 HADD
    rw [hH] at l3 y3 HSHI
    rw [hp] at p8 HEA
    rw [hq] at q8 HEC
    rw [hr] at r8 HPW
    obtain ⟨m, hm⟩ : ∃ m, gm p q = m := ⟨_, rfl⟩
    obtain ⟨s, hs⟩ : ∃ s, p ^^^ q = s := ⟨_, rfl⟩
    obtain ⟨t, ht⟩ : ∃ t, gm p r = t := ⟨_, rfl⟩
    rw [hm] at e1
    rw [hs] at e2
    rw [ht] at e3
    have HEM : Hid (∀ (u : World) (b : Nat) (a4 : Option Addr) (c4 : Nat), Fld u b → Lies u u.heap.size a4 (u8s M) → Calls Try.prog 24 #[.pointer (some ⟨b, 0, none⟩), .slice a4 M.length c4, .int .u8 (x : Int)] u fun e w' => e = .returned (.int .u8 (m : Int)) ∧ Below u.heap.size u w') := Lib.hid fun u b a4 c4 hf hl => by rw [← e1]; exact eval_any b a4 c4 M x u hf y1 hx (by omega) hl
    have HED : Hid (∀ (u : World) (b : Nat) (a4 : Option Addr) (c4 : Nat), Fld u b → Lies u u.heap.size a4 (u8s D) → Calls Try.prog 24 #[.pointer (some ⟨b, 0, none⟩), .slice a4 D.length c4, .int .u8 (x : Int)] u fun e w' => e = .returned (.int .u8 (s : Int)) ∧ Below u.heap.size u w') := Lib.hid fun u b a4 c4 hf hl => by rw [← e2]; exact eval_any b a4 c4 D x u hf y2 hx (by omega) hl
    have HEH : Hid (∀ (u : World) (b : Nat) (a4 : Option Addr) (c4 : Nat), Fld u b → Lies u u.heap.size a4 (u8s H) → Calls Try.prog 24 #[.pointer (some ⟨b, 0, none⟩), .slice a4 H.length c4, .int .u8 (x : Int)] u fun e w' => e = .returned (.int .u8 (t : Int)) ∧ Below u.heap.size u w') := Lib.hid fun u b a4 c4 hf hl => by rw [← e3]; exact eval_any b a4 c4 H x u hf y3 hx (by omega) hl
    have HFM : Hid (∀ (u : World) (b : Nat), Fld u b → Calls Try.prog 31 #[.pointer (some ⟨b, 0, none⟩), .slice (some ⟨u.heap.size, 0, none⟩) 2 2] (u.alloc (.cells #[.int .u8 (p : Int), .int .u8 (q : Int)] 5)) fun e u' => e = .returned (.int .u8 (m : Int)) ∧ Below u.heap.size u u') := Lib.hid fun u b hf => by rw [← hm]; exact mul2 b p q _ p8 q8 u hf
    have HFT : Hid (∀ (u : World) (b : Nat), Fld u b → Calls Try.prog 31 #[.pointer (some ⟨b, 0, none⟩), .slice (some ⟨u.heap.size, 0, none⟩) 2 2] (u.alloc (.cells #[.int .u8 (p : Int), .int .u8 (r : Int)] 5)) fun e u' => e = .returned (.int .u8 (t : Int)) ∧ Below u.heap.size u u') := Lib.hid fun u b hf => by rw [← ht]; exact mul2 b p r _ p8 r8 u hf
    have HFA : Hid (∀ (u : World) (b : Nat), Calls Try.prog 32 #[.pointer (some ⟨b, 0, none⟩), .slice (some ⟨u.heap.size, 0, none⟩) 2 2] (u.alloc (.cells #[.int .u8 (p : Int), .int .u8 (q : Int)] 5)) fun e u' => e = .returned (.int .u8 (s : Int)) ∧ Below u.heap.size u u') := Lib.hid fun u b => by rw [← hs]; exact add2 b p q _ p8 q8 u
    clear HG h60 hla hlc h8 e1 e2 e3 l1 l2 l3 y1 y2 y3 p8 q8 r8 hM hD hH hp hq hr hm hs ht hA hC hx h1 h2 h3 h4
    go_enter Try.func10, Try.ntmps10
    go_wp2_with (first
      | (go_at_call 11; (with_reducible refine (awake_any w).mono ?_); rintro e u1 ⟨rfl, b1⟩; have B1 := Lib.hid b1; clear b1)
      | (go_at_call 12; (with_reducible refine (HG2.out u1).mono ?_); rintro e u2 ⟨rfl, b2⟩; have B2 := Lib.hid (B1.out.next b2); clear b2)
      | (go_at_call 13; (with_reducible refine (gfNew_any u2).mono ?_); rintro e u3 ⟨rfl, f3, b3⟩; have F3 := Lib.hid f3; have B3 := Lib.hid (B2.out.next b3); clear f3 b3; generalize u2.heap.size = b at *)
      | (go_at_call 24; (with_reducible refine (HEA.out u3 b F3.out (HR.out.step B3.out)).mono ?_); rintro e u4 ⟨rfl, b4⟩; have F4 := Lib.hid (F3.out.step b4); have B4 := Lib.hid (B3.out.next b4); clear b4)
      | (go_at_call 24; (with_reducible refine (HEC.out u4 b F4.out (HS.out.step B4.out)).mono ?_); rintro e u5 ⟨rfl, b5⟩; have F5 := Lib.hid (F4.out.step b5); have B5 := Lib.hid (B4.out.next b5); clear b5)
      | (go_at_call 19; (with_reducible refine (HMUL.out b u5 F5.out (HR.out.step B5.out) (HS.out.step B5.out)).mono ?_); rintro e u6 ⟨⟨v6, rfl, a6, c6, rfl, _, l6⟩, b6⟩; have F6 := Lib.hid (F5.out.step b6); have B6 := Lib.hid (B5.out.next b6); have L6 := Lib.hid l6; clear b6 l6)
      | (go_at_call 24; (with_reducible refine (HEM.out u6 b a6 c6 F6.out L6.out).mono ?_); rintro e u7 ⟨rfl, b7⟩; have F7 := Lib.hid (F6.out.step b7); have B7 := Lib.hid (B6.out.next b7); clear b7)
      | (go_at_call 31; (with_reducible refine (HFM.out u7 b F7.out).mono ?_); rintro e u8 ⟨rfl, b8⟩; have F8 := Lib.hid (F7.out.step b8); have B8 := Lib.hid (B7.out.next b8); clear b8)
      | (go_at_call 18; (with_reducible refine (HADD.out b u8 (HR.out.step B8.out) (HS.out.step B8.out)).mono ?_); rintro e u9 ⟨⟨v9, rfl, a9, c9, rfl, _, l9⟩, b9⟩; have F9 := Lib.hid (F8.out.step b9); have B9 := Lib.hid (B8.out.next b9); have L9 := Lib.hid l9; clear b9 l9)
      | (go_at_call 24; (with_reducible refine (HED.out u9 b a9 c9 F9.out L9.out).mono ?_); rintro e u10 ⟨rfl, b10⟩; have F10 := Lib.hid (F9.out.step b10); have B10 := Lib.hid (B9.out.next b10); clear b10)
      | (go_at_call 32; (with_reducible refine (HFA.out u10 b).mono ?_); rintro e u11 ⟨rfl, b11⟩; have F11 := Lib.hid (F10.out.step b11); have B11 := Lib.hid (B10.out.next b11); clear b11)
      | (go_at_call 23; (with_reducible refine (HSHI.out u11 (HR.out.step B11.out)).mono ?_); rintro e u12 ⟨⟨v12, rfl, a12, c12, rfl, _, l12⟩, b12⟩; have F12 := Lib.hid (F11.out.step b12); have B12 := Lib.hid (B11.out.next b12); have L12 := Lib.hid l12; clear b12 l12)
      | (go_at_call 24; (with_reducible refine (HEH.out u12 b a12 c12 F12.out L12.out).mono ?_); rintro e u13 ⟨rfl, b13⟩; have F13 := Lib.hid (F12.out.step b13); have B13 := Lib.hid (B12.out.next b13); clear b13)
      | (go_at_call 33; (with_reducible refine (HPW.out u13 b F13.out).mono ?_); rintro e u14 ⟨rfl, b14⟩; have F14 := Lib.hid (F13.out.step b14); have B14 := Lib.hid (B13.out.next b14); clear b14)
      | (go_at_call 31; (with_reducible refine (HFT.out u14 b F14.out).mono ?_); rintro e u15 ⟨rfl, b15⟩; have F15 := Lib.hid (F14.out.step b15); have B15 := Lib.hid (B14.out.next b15); clear b15))
    go_ret
    exact ⟨rfl, B15.out⟩

end Go.Proofs.Ytligaipkdabmoaa
