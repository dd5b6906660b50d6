/- The texts LogOrd, one behind the other. -/
import Derived.Test.YtnbindmmbbiifaaGreatB5
/- LogOrder (gen_log_ord.py). -/
namespace Go.Proofs.YtnbindmmbbiifaaGreat
open Go.RowKit CrcMath NumMath FlaMath GeoMath
set_option linter.unusedVariables false
set_option linter.unusedSimpArgs false
set_option maxRecDepth 100000

theorem rcs_1 (x s m v : Int) : rcs [(⟨x, s, m, v⟩ : Rc)] = rcv x s m v := rcs_one _
theorem onl_lies {S : List Nat} {w u u' : World} {p : Option Addr} {xs : List Value} (h : Lies u w.heap.size p xs) (ho : Onl S u u') (hS : ∀ k ∈ S, w.heap.size ≤ k) (hw : w.heap.size ≤ u.heap.size) : Lies u' u'.heap.size p xs := (h.below (ho.below hS hw)).mono (Nat.le_trans hw ho.size)
theorem rcs_app_bare (L : List Rc) (r : Rc) : rcs (bares (L ++ [r])) = rcs (bares L) ++ rcs (bares [r]) := by rw [bares_append, rcs_append]
set_option maxHeartbeats 8000000 in
theorem logOrder_walk (ab : Option Addr) (nb cb : Nat) (base : List Rc) (am : Option Addr) (nm cm : Nat) (more : List Rc) (w : World) (hnb : base.length = nb) (hnb2 : nb ≤ 2000000) (hb : Lies w w.heap.size ab (rcs base)) (hnm : more.length = nm) (hnm2 : nm ≤ 2000000) (hm : Lies w w.heap.size am (rcs more)) :
    Calls Tryz.prog 6 #[.slice ab nb cb, .slice am nm cm] w fun e w' => e = .returned (.bool true) ∧ Below w.heap.size w w' := by
  have HB := Lib.hid hb
  have HM := Lib.hid hm
  have HNB := Lib.hid hnb
  have HNM := Lib.hid hnm
  have hnmI : (nm : Int) ≤ 2000000 := by omega
  have HNB2 := Lib.hid hnb2
  have HNM2 := Lib.hid hnm2
  have HG : Hid (∀ u, Calls Tryz.prog 11 #[] u fun e w' => e = .returned (geoV G1) ∧ Below u.heap.size u w') := Lib.hid llaw_geo
  have HBL : Hid (∀ u : World, Calls Tryz.prog 9 #[] u fun e w' => ∃ s : Sh, e = .returned (.pointer (some ⟨s.b, 0, none⟩)) ∧ Dvx w' s (D0 27) ∧ (∀ k ∈ s.S, u.heap.size ≤ k) ∧ Below u.heap.size u w') := Lib.hid llaw_blank
  have HWB : Hid (∀ u, Lies u u.heap.size ab (rcs base) → Calls Tryz.prog 12 #[.slice ab nb cb] u fun e w' => e = .returned (.int .i64 (askE 0 base)) ∧ Below u.heap.size u w') := Lib.hid fun u hu => llaw_wrong ab nb cb base u hnb hnb2 hu
  have HPB : Hid (∀ u, Lies u u.heap.size ab (rcs base) → Calls Tryz.prog 13 #[.slice ab nb cb] u fun e w' => (∃ v, e = .returned v ∧ w'.ownsRow u.heap.size 65 4 v nb (rcs (bares base))) ∧ Below u.heap.size u w') := Lib.hid fun u hu => llaw_plain ab nb cb base u hnb hnb2 hu
  have HF0 : Hid (askE 0 base = 0 → ∀ (u : World) (sh : Sh), Dvx u sh (D0 27) → (∀ k ∈ sh.S, w.heap.size ≤ k) → w.heap.size ≤ u.heap.size → Lies u w.heap.size ab (rcs base) → Calls Tryz.prog 10 #[.pointer (some ⟨sh.b, 0, none⟩), geoV G1, .slice ab nb cb] u fun e w' => Onl sh.S u w' ∧ ∃ lb tb sl D, e = .returned (.tuple #[.pointer (some ⟨lb, 0, none⟩), .int .i64 0]) ∧ LogOn w.heap.size w' ⟨lb, tb, sh, G1⟩ D 0 1 (bares base) [] sl ∧ D.lit = false) := Lib.hid fun he u sh hd hs hw hl => by
    refine (llaw_format w.heap.size sh u hd hs hw ab nb cb base hnb (by have := (ask_ok he).2.1; omega) (fun u' ho => onl_lies hl ho hs hw) he).mono ?_
    rintro e w' ⟨h1, lb, tb, sl, rfl, h2, _, _⟩
    exact ⟨h1, lb, tb, sl, DF base, rfl, ⟨by rw [← v1_cmp]; exact h2, DF_st base he, rfl, DF_len base⟩, DF_lit base⟩
  clear hb hm hnb hnm hnb2 hnm2
  generalize hE : askE 0 base = E at *
  by_cases hE0 : ¬ E = 0
  · have hne : (E != 0) = true := bne_iff_ne.2 hE0
    clear HF0 HG HBL HPB hE
    go_enter Tryz.func6, Tryz.ntmps6
    go_wp2_with (first
      | (go_at_call 7; (with_reducible refine (log_awake_any w).mono ?_); rintro e u1 ⟨rfl, b1⟩; have B1 := Lib.hid b1; clear b1)
      | (go_at_call 12; (with_reducible refine (HWB.out u1 (HB.out.step B1.out)).mono ?_); rintro e u2 ⟨rfl, b2⟩; have B2 := Lib.hid (B1.out.next b2); clear b2))
    go_ret
    exact ⟨rfl, B2.out⟩
  obtain rfl : E = 0 := Classical.byContradiction hE0
  clear hE0
  have HF := Lib.hid (HF0.out rfl)
  clear HF0
  clear hE
  by_cases h40 : 40 < nm
  · have h40I : (40 : Int) < (nm : Int) := by omega
    clear HF HG HBL HPB
    go_enter Tryz.func6, Tryz.ntmps6
    go_wp2_with (first
      | (go_at_call 7; (with_reducible refine (log_awake_any w).mono ?_); rintro e u1 ⟨rfl, b1⟩; have B1 := Lib.hid b1; clear b1)
      | (go_at_call 12; (with_reducible refine (HWB.out u1 (HB.out.step B1.out)).mono ?_); rintro e u2 ⟨rfl, b2⟩; have B2 := Lib.hid (B1.out.next b2); clear b2))
    go_ret
    exact ⟨rfl, B2.out⟩
  have h40I : ¬ (40 : Int) < (nm : Int) := by omega
  generalize hGV : geoV G1 = GV at *
  go_enter Tryz.func6, Tryz.ntmps6
  go_wp2_with (first
    | (go_at_call 7; (with_reducible refine (log_awake_any w).mono ?_); rintro e u1 ⟨rfl, b1⟩; have B1 := Lib.hid b1; clear b1)
    | (go_at_call 12; (with_reducible refine (HWB.out u1 (HB.out.step B1.out)).mono ?_); rintro e u2 ⟨rfl, b2⟩; have B2 := Lib.hid (B1.out.next b2); clear b2)
    | (go_at_call 9; (with_reducible refine (HBL.out u2).mono ?_); rintro e u3 ⟨sh, rfl, hd3, hs3, b3⟩; have D3 := Lib.hid hd3; have HS3 : Hid (∀ k ∈ sh.S, w.heap.size ≤ k) := Lib.hid fun k hk => Nat.le_trans B2.out.size (hs3 k hk); have B3 := Lib.hid (B2.out.next b3); clear b3 hd3 hs3)
    | (go_at_call 11; (with_reducible refine (HG.out u3).mono ?_); rintro e u4 ⟨rfl, b4⟩; have D4 := Lib.hid (D3.out.step b4); have B4 := Lib.hid (B3.out.next b4); clear b4)
    | (go_at_call 10; (with_reducible refine (HF.out u4 sh D4.out HS3.out B4.out.size (HB.out.below B4.out)).mono ?_); rintro e u5 ⟨o5, lb, tb, sl, D, rfl, h5, l5⟩; have B5 : Hid (Below w.heap.size w u5) := Lib.hid (B4.out.trans (o5.below HS3.out B4.out.size)); have HL5 := Lib.hid h5; have HD5 := Lib.hid l5; have HTB : Hid (tb < u5.heap.size) := Lib.hid h5.at'.low.2; clear o5 h5 l5 D3 D4)
    | (go_at_call 13; (with_reducible refine (HPB.out u5 ((HB.out.below B5.out).mono B5.out.size)).mono ?_); rintro e u6 ⟨⟨pv, rfl, hown⟩, b6⟩; have HOW6 := Lib.hid hown; have HL6 := Lib.hid (HL5.out.step b6); have B6 := Lib.hid (B5.out.next b6); have BS6 := Lib.hid b6.size; clear hown b6))
  have HU5 : Hid (w.heap.size ≤ u5.heap.size) := Lib.hid B5.out.size
  have HZ6 : Hid (u5.heap.size ≤ u6.heap.size) := Lib.hid BS6.out
  have HRR : Hid (∀ (wr : World) (D' : Dv) (later : List Rc) (sl' : Value), LogOn w.heap.size wr ⟨lb, tb, sh, G1⟩ D' 0 1 (bares base) later sl' → Calls Tryz.prog 26 #[.pointer (some ⟨lb, 0, none⟩)] wr fun e w' => e = .returned (.int .i64 (16 - ((base.length + later.length + 2 : Nat) : Int))) ∧ wr = w') := Lib.hid fun wr D' later sl' h => by have := llaw_room h; rwa [bares_length] at this
  go_loopw [8, 39] (fun v i wr => ∃ (k : Nat) (D' : Dv) (later : List Rc) (sl' : Value), k ≤ nm ∧ i = .int .i64 k ∧ wr.ownsRow u5.heap.size 65 4 v (nb + later.length) (rcs (bares (base ++ later))) ∧ LogOn w.heap.size wr ⟨lb, tb, sh, G1⟩ D' 0 1 (bares base) later sl' ∧ D'.lit = false ∧ later.length ≤ k ∧ Below w.heap.size w wr ∧ u5.heap.size ≤ wr.heap.size) (fun _ i _ => nm - (intOf i).toNat)
  case atStart => exact ⟨0, D, [], sl, Nat.zero_le _, rfl, by rw [List.append_nil]; exact HOW6.out, HL6.out, HD5.out, Nat.le_refl _, B6.out, HZ6.out⟩
  case round =>
    clear HOW6 HL6 HD5 B6 HL5 B5 HF HPB HWB D sl
    obtain ⟨k, D, later, sl, hk, rfl, hown, hlo, hlit, hlk, hbw, hz5⟩ := hrel
    have HOWN := Lib.hid hown
    have HLO := Lib.hid hlo
    have HLIT := Lib.hid hlit
    have HBW := Lib.hid hbw
    have HZ5 := Lib.hid hz5
    have HLK := Lib.hid hlk
    have HFEW : Hid (base.length + later.length + 2 ≤ 16) := Lib.hid (by have := hlo.few; rwa [bares_length] at this)
    have HRM : Hid (∀ u, LogOn w.heap.size u ⟨lb, tb, sh, G1⟩ D 0 1 (bares base) later sl → Calls Tryz.prog 26 #[.pointer (some ⟨lb, 0, none⟩)] u fun e w' => e = .returned (.int .i64 (16 - ((base.length + later.length + 2 : Nat) : Int))) ∧ u = w') := Lib.hid fun u h => HRR.out u D later sl h
    clear hown hlo hlit hbw hlk hz5
    by_cases hlt : k < nm
    · have hk1 : (k : Int) < (nm : Int) := by omega
      have hkl : Hid (k < more.length) := Lib.hid (by rw [HNM.out]; exact hlt)
      obtain ⟨b2, off, rfl, hbb, hc⟩ := HM.out (by rw [rcs_length, HNM.out]; omega)
      have HRG : Hid (wr.rangeAt b2 (off + k * 4) (more[k]'hkl.out).cells) := Lib.hid (rcs_at (w := wr) (fun j u hj => (HBW.out.cell (p := ⟨b2, off + j, none⟩) hbb).trans (hc j u hj)) k hkl.out)
      obtain ⟨⟨x, s, m, v⟩, hx⟩ : ∃ r, more[k]'hkl.out = r := ⟨_, rfl⟩
      rw [hx] at HRG
      have HRG2 : Hid (wr.rangeAt b2 (off + k * 4) (rcv x s m v)) := HRG
      have HNS : Hid (wr.heap.size ∉ (⟨lb, tb, sh, G1⟩ : LogD).S sl) := Lib.hid fun h => absurd (HLO.out.at'.low.1 _ h) (Nat.lt_irrefl _)
      have HW10 : Hid (∀ (E : Int), (if (⟨x, s, m, v⟩ : Rc).may = true then 0 else 1) = E → ∀ (u : World) (c : Array Value), c = (rcv x s m v).toArray → Calls Tryz.prog 12 #[.slice (some ⟨u.heap.size, 0, none⟩) 1 1] (u.alloc (.cells c 43)) fun e w' => e = .returned (.int .i64 E) ∧ Below (u.alloc (.cells c 43)).heap.size (u.alloc (.cells c 43)) w') := Lib.hid fun E hE u c hc => by
        subst hc
        rw [← hE, ← askE_one]
        exact llaw_wrong _ 1 1 [⟨x, s, m, v⟩] _ rfl (by omega) (by rw [rcs_1]; exact Lies.new (rcv x s m v) u 43)
      have HAB0 : Hid ((⟨x, s, m, v⟩ : Rc).may = false → ∀ u, LogOn w.heap.size u ⟨lb, tb, sh, G1⟩ D 0 1 (bares base) later sl → Calls Tryz.prog 14 #[.pointer (some ⟨lb, 0, none⟩), .agg (rcv x s m v).toArray] u fun e w' => e = .returned (.int .i64 1) ∧ Below u.heap.size u w') := Lib.hid fun hr u h => llaw_append_bad h ⟨x, s, m, v⟩ hr
      have HAF0 : Hid ((⟨x, s, m, v⟩ : Rc).may = true → base.length + later.length + 2 = 16 → ∀ u, LogOn w.heap.size u ⟨lb, tb, sh, G1⟩ D 0 1 (bares base) later sl → Calls Tryz.prog 14 #[.pointer (some ⟨lb, 0, none⟩), .agg (rcv x s m v).toArray] u fun e w' => e = .returned (.int .i64 9) ∧ Below u.heap.size u w') := Lib.hid fun hr hn u h => llaw_append_full h ⟨x, s, m, v⟩ hr (by rw [bares_length]; exact hn)
      have HAG0 : Hid ((⟨x, s, m, v⟩ : Rc).may = true → base.length + later.length + 2 < 16 → ∀ u, w.heap.size ≤ u.heap.size → LogOn w.heap.size u ⟨lb, tb, sh, G1⟩ D 0 1 (bares base) later sl → Calls Tryz.prog 14 #[.pointer (some ⟨lb, 0, none⟩), .agg (rcv x s m v).toArray] u fun e w' => e = .returned (.int .i64 0) ∧ Onl ((⟨lb, tb, sh, G1⟩ : LogD).S sl) u w' ∧ ∃ D' sl', LogOn w.heap.size w' ⟨lb, tb, sh, G1⟩ D' 0 1 (bares base) (later ++ [⟨x, s, m, v⟩]) sl' ∧ D'.lit = false) := Lib.hid fun hr hn u hu h => (llaw_append h hu HLIT.out ⟨x, s, m, v⟩ hr (by rw [bares_length]; exact hn)).mono fun e w' ⟨h1, h2, D', sl', h3, h4, _⟩ => ⟨h1, h2, D', sl', h3, h4⟩
      have HPL : Hid (∀ (u : World) (p : Option Addr) (cap : Nat), Lies u u.heap.size p (rcv x s m v) → Calls Tryz.prog 13 #[.slice p 1 cap] u fun e w' => (∃ a c, e = .returned (.slice a 1 c) ∧ Lies w' w'.heap.size a (rcs (bares [⟨x, s, m, v⟩]))) ∧ Below u.heap.size u w') := Lib.hid fun u p cap hu => by
        refine (llaw_plain p 1 cap [⟨x, s, m, v⟩] u rfl (by omega) (by rw [rcs_1]; exact hu)).mono ?_
        rintro e w' ⟨⟨v', rfl, ho⟩, h2⟩
        obtain ⟨a, c, rfl, hl⟩ := own_formM ho
        exact ⟨⟨a, c, rfl, hl⟩, h2⟩
      clear hc hx HRG HM
      have HRoom : Hid (∃ X : Int, X = 16 - ((base.length + later.length + 2 : Nat) : Int) ∧ (0 ≤ X ∧ X ≤ 16) ∧ (X = 0 → base.length + later.length + 2 = 16) ∧ (X ≠ 0 → base.length + later.length + 2 < 16)) := Lib.hid ⟨_, rfl, by have := HFEW.out; omega, by have := HFEW.out; omega, by have := HFEW.out; omega⟩
      obtain ⟨X, hX, hXb, hXf, hXg⟩ := HRoom.out
      rw [← hX] at HRM
      have HX := Lib.hid hX
      have HXF := Lib.hid hXf
      have HXG := Lib.hid hXg
      clear hX hXf hXg HRoom
      obtain ⟨hXl, hXu⟩ := hXb
      generalize hmq : (⟨x, s, m, v⟩ : Rc).may = q at *
      have HMQ := Lib.hid hmq
      clear hmq
      cases q with
      | false =>
        have HAB := Lib.hid (HAB0.out rfl)
        have HW1 := Lib.hid (HW10.out 1 rfl)
        clear HW10
        clear HAB0 HAF0 HAG0 HPL
        by_cases hX0 : X = 0
        · subst hX0
          have hlen4 : (rcv x s m v).length = 4 := rfl
          go_wp2_with (first
            | ((with_reducible refine wpLoadRK HRG2.out 43 fits_rec rfl ?_ ?_); rfl)
            | ((with_reducible refine wpAllocK (w := wr) (rcv 0 0 0 0) 43 zero_rec ?_ ?_); rfl; intro x1 r1 b1 s1; have R1 := Lib.hid r1; have BB1 := Lib.hid b1; clear r1 b1 s1)
            | ((with_reducible refine R1.out.wpStoreK 43 (rcv x s m v) fits_rec rfl rfl rfl ?_ ?_); rfl; intro x2 r2 o2 s2; have R2 := Lib.hid r2; have BB2 : Hid (Below wr.heap.size wr x2) := Lib.hid (BB1.out.trans (o2.below (Nat.le_refl _) BB1.out.size)); have BW2 : Hid (w.heap.size ≤ x2.heap.size) := Lib.hid (Nat.le_trans HBW.out.size BB2.out.size); have L2 := Lib.hid (HLO.out.step BB2.out); have W2 := Lib.hid (owns_step HOWN.out BB2.out); clear r2 o2 s2)
            | (go_at_call 26; (with_reducible refine (HRM.out x2 L2.out).mono ?_); rintro e _ ⟨rfl, rfl⟩)
            | ((with_reducible refine R2.out.wpLoadK 43 fits_rec rfl ?_ ?_); rfl)
            | (go_at_call 14; (with_reducible refine (HAB.out x2 L2.out).mono ?_); rintro e x3 ⟨rfl, b3⟩; have R3 := Lib.hid (R2.out.step b3); have L3 := Lib.hid (L2.out.step b3); have W3 := Lib.hid (owns_step W2.out b3); have BF3 : Hid (Below w.heap.size w x3) := Lib.hid (HBW.out.next (BB2.out.next b3)); have BZ3 : Hid (wr.heap.size ≤ x3.heap.size) := Lib.hid (Nat.le_trans BB2.out.size b3.size); clear b3)
            | ((with_reducible refine R3.out.wpLoadG 43 fits_rec rfl ?_ ?_); rfl)
            | (simp only [R3.out.cell]; go_simp)
            | (go_at_call 12; refine (HW1.out x3 _ (by kernel_rfl)).mono ?_; rintro e x4 ⟨rfl, b4⟩; have BX4 : Hid (Below x3.heap.size x3 x4) := Lib.hid ((alloc_below _ _).next b4); clear b4))
          go_roundw
          case rel => exact ⟨k + 1, D, later, sl, by omega, by go_num, owns_step W3.out BX4.out, L3.out.step BX4.out, HLIT.out, Nat.le_succ_of_le HLK.out, BF3.out.next BX4.out, Nat.le_trans HZ5.out (Nat.le_trans BZ3.out BX4.out.size)⟩
          case measure => simp [intOf]; omega
        · have hXn : (X == 0) = false := by simpa using hX0
          have hXp : (X = 0) = False := eq_false hX0
          go_wp2_with (first
            | ((with_reducible refine wpLoadRK HRG2.out 43 fits_rec rfl ?_ ?_); rfl)
            | ((with_reducible refine wpAllocK (w := wr) (rcv 0 0 0 0) 43 zero_rec ?_ ?_); rfl; intro x1 r1 b1 s1; have R1 := Lib.hid r1; have BB1 := Lib.hid b1; clear r1 b1 s1)
            | ((with_reducible refine R1.out.wpStoreK 43 (rcv x s m v) fits_rec rfl rfl rfl ?_ ?_); rfl; intro x2 r2 o2 s2; have R2 := Lib.hid r2; have BB2 : Hid (Below wr.heap.size wr x2) := Lib.hid (BB1.out.trans (o2.below (Nat.le_refl _) BB1.out.size)); have BW2 : Hid (w.heap.size ≤ x2.heap.size) := Lib.hid (Nat.le_trans HBW.out.size BB2.out.size); have L2 := Lib.hid (HLO.out.step BB2.out); have W2 := Lib.hid (owns_step HOWN.out BB2.out); clear r2 o2 s2)
            | (go_at_call 26; (with_reducible refine (HRM.out x2 L2.out).mono ?_); rintro e _ ⟨rfl, rfl⟩)
            | ((with_reducible refine R2.out.wpLoadK 43 fits_rec rfl ?_ ?_); rfl)
            | (go_at_call 14; (with_reducible refine (HAB.out x2 L2.out).mono ?_); rintro e x3 ⟨rfl, b3⟩; have R3 := Lib.hid (R2.out.step b3); have L3 := Lib.hid (L2.out.step b3); have W3 := Lib.hid (owns_step W2.out b3); have BF3 : Hid (Below w.heap.size w x3) := Lib.hid (HBW.out.next (BB2.out.next b3)); have BZ3 : Hid (wr.heap.size ≤ x3.heap.size) := Lib.hid (Nat.le_trans BB2.out.size b3.size); clear b3))
          go_roundw
          case rel => exact ⟨k + 1, D, later, sl, by omega, by go_num, W3.out, L3.out, HLIT.out, Nat.le_succ_of_le HLK.out, BF3.out, Nat.le_trans HZ5.out BZ3.out⟩
          case measure => simp [intOf]; omega
      | true =>
        by_cases hX0 : X = 0
        · have HAF := Lib.hid (HAF0.out rfl (HXF.out hX0))
          have HW1 := Lib.hid (HW10.out 0 rfl)
          clear HW10
          subst hX0
          have hlen4 : (rcv x s m v).length = 4 := rfl
          clear HAB0 HAF0 HAG0 HPL
          go_wp2_with (first
            | ((with_reducible refine wpLoadRK HRG2.out 43 fits_rec rfl ?_ ?_); rfl)
            | ((with_reducible refine wpAllocK (w := wr) (rcv 0 0 0 0) 43 zero_rec ?_ ?_); rfl; intro x1 r1 b1 s1; have R1 := Lib.hid r1; have BB1 := Lib.hid b1; clear r1 b1 s1)
            | ((with_reducible refine R1.out.wpStoreK 43 (rcv x s m v) fits_rec rfl rfl rfl ?_ ?_); rfl; intro x2 r2 o2 s2; have R2 := Lib.hid r2; have BB2 : Hid (Below wr.heap.size wr x2) := Lib.hid (BB1.out.trans (o2.below (Nat.le_refl _) BB1.out.size)); have BW2 : Hid (w.heap.size ≤ x2.heap.size) := Lib.hid (Nat.le_trans HBW.out.size BB2.out.size); have L2 := Lib.hid (HLO.out.step BB2.out); have W2 := Lib.hid (owns_step HOWN.out BB2.out); clear r2 o2 s2)
            | (go_at_call 26; (with_reducible refine (HRM.out x2 L2.out).mono ?_); rintro e _ ⟨rfl, rfl⟩)
            | ((with_reducible refine R2.out.wpLoadK 43 fits_rec rfl ?_ ?_); rfl)
            | (go_at_call 14; (with_reducible refine (HAF.out x2 L2.out).mono ?_); rintro e x3 ⟨rfl, b3⟩; have R3 := Lib.hid (R2.out.step b3); have L3 := Lib.hid (L2.out.step b3); have W3 := Lib.hid (owns_step W2.out b3); have BF3 : Hid (Below w.heap.size w x3) := Lib.hid (HBW.out.next (BB2.out.next b3)); have BZ3 : Hid (wr.heap.size ≤ x3.heap.size) := Lib.hid (Nat.le_trans BB2.out.size b3.size); clear b3)
            | ((with_reducible refine R3.out.wpLoadG 43 fits_rec rfl ?_ ?_); rfl)
            | (simp only [R3.out.cell]; go_simp)
            | (go_at_call 12; refine (HW1.out x3 _ (by kernel_rfl)).mono ?_; rintro e x4 ⟨rfl, b4⟩; have BX4 : Hid (Below x3.heap.size x3 x4) := Lib.hid ((alloc_below _ _).next b4); clear b4))
          go_roundw
          case rel => exact ⟨k + 1, D, later, sl, by omega, by go_num, owns_step W3.out BX4.out, L3.out.step BX4.out, HLIT.out, Nat.le_succ_of_le HLK.out, BF3.out.next BX4.out, Nat.le_trans HZ5.out (Nat.le_trans BZ3.out BX4.out.size)⟩
          case measure => simp [intOf]; omega
        · have HAG := Lib.hid (HAG0.out rfl (HXG.out hX0))
          have hXn : (X == 0) = false := by simpa using hX0
          have hXp : (X = 0) = False := eq_false hX0
          have hX1 : 0 < X := by omega
          clear HAB0 HAF0 HAG0
          have HP4 : Hid (0 < 4) := Lib.hid (by omega)
          have HVS : Hid (∀ l ∈ [rcv x s m v], l.length = 4) := Lib.hid fun l hl => by rw [List.mem_singleton.1 hl]; rfl
          have HV1 : Hid (0 < [rcv x s m v].length) := Lib.hid (by show 0 < 1; omega)
          have HVM : Hid ([rcv x s m v].length * 4 ≤ 2 ^ 24) := Lib.hid (by show 1 * 4 ≤ _; omega)
          have HBG : Big (nb + later.length + 1 ≤ 1099511627776) := ⟨by have := HNB2.out; have := HFEW.out; omega⟩
          have HRM2 : Hid (∀ (u : World) (D' : Dv) (sl' : Value), LogOn w.heap.size u ⟨lb, tb, sh, G1⟩ D' 0 1 (bares base) (later ++ [⟨x, s, m, v⟩]) sl' → Calls Tryz.prog 26 #[.pointer (some ⟨lb, 0, none⟩)] u fun e w' => e = .returned (.int .i64 (X - 1)) ∧ u = w') := Lib.hid fun u D' sl' h => by
            have := HRR.out u D' _ sl' h
            rwa [show (16 - ((base.length + (later ++ [(⟨x, s, m, v⟩ : Rc)]).length + 2 : Nat) : Int)) = X - 1 by rw [HX.out, List.length_append, List.length_singleton]; omega] at this
          go_wp2_with (first
            | ((with_reducible refine wpLoadRK HRG2.out 43 fits_rec rfl ?_ ?_); rfl)
            | ((with_reducible refine wpAllocK (w := wr) (rcv 0 0 0 0) 43 zero_rec ?_ ?_); rfl; intro x1 r1 b1 s1; have R1 := Lib.hid r1; have BB1 := Lib.hid b1; clear r1 b1 s1)
            | ((with_reducible refine R1.out.wpStoreK 43 (rcv x s m v) fits_rec rfl rfl rfl ?_ ?_); rfl; intro x2 r2 o2 s2; have R2 := Lib.hid r2; have BB2 : Hid (Below wr.heap.size wr x2) := Lib.hid (BB1.out.trans (o2.below (Nat.le_refl _) BB1.out.size)); have BW2 : Hid (w.heap.size ≤ x2.heap.size) := Lib.hid (Nat.le_trans HBW.out.size BB2.out.size); have L2 := Lib.hid (HLO.out.step BB2.out); have W2 := Lib.hid (owns_step HOWN.out BB2.out); clear r2 o2 s2)
            | (go_at_call 26; (with_reducible refine (HRM.out x2 L2.out).mono ?_); rintro e _ ⟨rfl, rfl⟩)
            | ((with_reducible refine R2.out.wpLoadK 43 fits_rec rfl ?_ ?_); rfl)
            | (go_at_call 14; (with_reducible refine (HAG.out x2 BW2.out L2.out).mono ?_); rintro e x3 ⟨rfl, o3, D', sl', h3, l3⟩; have R3 := Lib.hid (R2.out.onl o3 HNS.out); have L3 := Lib.hid h3; have LL3 := Lib.hid l3; have W3 := Lib.hid (owns_onl W2.out o3 (L2.out.sep W2.out HTB.out).1); have BF3 : Hid (Below w.heap.size w x3) := Lib.hid ((HBW.out.next BB2.out).trans (o3.below L2.out.at'.sB BW2.out)); have BZ3 : Hid (wr.heap.size ≤ x3.heap.size) := Lib.hid (Nat.le_trans BB2.out.size o3.size); clear o3 h3 l3)
            | ((with_reducible refine R3.out.wpLoadK 43 fits_rec rfl ?_ ?_); rfl)
            | ((with_reducible refine wpBuildBK (w := x3) [rcv x s m v] 4 22 43 Tryz.underlying22 rec_built_size HP4.out HVS.out HV1.out HVM.out ?_ ?_); rfl; intro y1 r_ b_ s_; have LY1 : Hid (Lies y1 y1.heap.size (some ⟨x3.heap.size, 0, none⟩) (rcv x s m v)) := Lib.hid (fun _ => ⟨_, 0, rfl, r_.lt, fun j q hj => by rw [Nat.zero_add, r_.cell]; simpa using hj⟩); have W4 := Lib.hid (owns_step W3.out b_); have L4 := Lib.hid (L3.out.step b_); have BF4 := Lib.hid (BF3.out.next b_); have BZ4 : Hid (wr.heap.size ≤ y1.heap.size) := Lib.hid (Nat.le_trans BZ3.out b_.size); clear r_ b_ s_)
            | (go_at_call 13; (with_reducible refine (HPL.out y1 _ 1 LY1.out).mono ?_); rintro e y2 ⟨⟨pa, pc, rfl, hl⟩, b5⟩; have LP := Lib.hid hl; have W5 := Lib.hid (owns_step W4.out b5); have L5 := Lib.hid (L4.out.step b5); have BF5 := Lib.hid (BF4.out.next b5); have BZ5 : Hid (wr.heap.size ≤ y2.heap.size) := Lib.hid (Nat.le_trans BZ4.out b5.size); have BC5 : Hid (u5.heap.size ≤ y2.heap.size) := Lib.hid (Nat.le_trans HZ5.out BZ5.out); clear hl b5)
            | ((with_reducible refine wpAppendN pc W5.out Tryz.underlying36 many_rrec LP.out rfl HP4.out rfl HBG BC5.out ?_ ?_); rfl; intro v1 y3 g1 g2 g3; have SP := Lib.hid (L5.out.sep W5.out HTB.out); have L6 := Lib.hid (L5.out.off (grown_onl g2) (fun k hk hm => SP.out.1 k hm hk) SP.out.2); have W6 := Lib.hid g1; have BF6 : Hid (Below w.heap.size w y3) := Lib.hid (BF5.out.trans ((grown_onl g2).below (fun k hk => Nat.le_trans HU5.out (owns_ge W5.out k (mem_ob.1 hk))) BF5.out.size)); have BZ6 : Hid (u5.heap.size ≤ y3.heap.size) := Lib.hid (Nat.le_trans BC5.out (grown_onl g2).size); clear g1 g2 g3)
            | (go_at_call 26; (with_reducible refine (HRM2.out y3 D' sl' L6.out).mono ?_); rintro e _ ⟨rfl, rfl⟩))
          go_roundw
          case rel => exact ⟨k + 1, D', later ++ [⟨x, s, m, v⟩], sl', by omega, by go_num, by rw [← List.append_assoc, rcs_app_bare, List.length_append, List.length_singleton, ← Nat.add_assoc]; exact W6.out, L6.out, LL3.out, by rw [List.length_append, List.length_singleton]; exact Nat.succ_le_succ HLK.out, BF6.out, BZ6.out⟩
          case measure => simp [intOf]; omega
    · have hk2 : ¬ (k : Int) < (nm : Int) := by omega
      clear HM HRM
      obtain ⟨wa, wc, rfl, hwl⟩ := own_formM HOWN.out
      have HWL := Lib.hid hwl
      clear hwl HOWN
      have HN2 : Hid (nb + later.length ≤ 1000000) := Lib.hid (by have := HFEW.out; have := HNB.out; omega)
      have HLN : Hid ((bares (base ++ later)).length = nb + later.length) := Lib.hid (by rw [bares_length, List.length_append, HNB.out])
      have HALL : Hid (∀ u, LogOn w.heap.size u ⟨lb, tb, sh, G1⟩ D 0 1 (bares base) later sl → Calls Tryz.prog 20 #[.pointer (some ⟨lb, 0, none⟩)] u fun e w' => (∃ p cap, e = .returned (.slice p (nb + later.length) cap) ∧ Lies w' w'.heap.size p (rcs (bares (bares base ++ later)))) ∧ Below u.heap.size u w') := Lib.hid fun u h => by have := llaw_all h; rwa [bares_length, HNB.out] at this
      have HPL : Hid (∀ (u : World) (p : Option Addr) (cap : Nat), Lies u u.heap.size p (rcs (bares (bares base ++ later))) → Calls Tryz.prog 13 #[.slice p (nb + later.length) cap] u fun e w' => (∃ a c, e = .returned (.slice a (nb + later.length) c) ∧ Lies w' w'.heap.size a (rcs (bares (base ++ later)))) ∧ Below u.heap.size u w') := Lib.hid fun u p cap hu => by
        refine (llaw_plain p (nb + later.length) cap (bares (bares base ++ later)) u (by rw [bares_length, List.length_append, bares_length, HNB.out]) (Nat.le_trans HN2.out (by decide)) hu).mono ?_
        rintro e w' ⟨⟨v', rfl, ho⟩, h2⟩
        obtain ⟨a, c, rfl, hl⟩ := own_formM ho
        rw [bares3] at hl
        exact ⟨⟨a, c, rfl, hl⟩, h2⟩
      have HSM : Hid (∀ (u : World) (p1 : Option Addr) (c1 : Nat) (p2 : Option Addr) (c2 : Nat), Lies u u.heap.size p1 (rcs (bares (base ++ later))) → Lies u u.heap.size p2 (rcs (bares (base ++ later))) → Calls Tryz.prog 23 #[.slice p1 (nb + later.length) c1, .slice p2 (nb + later.length) c2] u fun e w' => e = .returned (.bool true) ∧ Below u.heap.size u w') := Lib.hid fun u p1 c1 p2 c2 h1 h2 => by
        have := llaw_same p1 p2 _ c1 _ c2 (bares (base ++ later)) (bares (base ++ later)) u HLN.out HN2.out HLN.out HN2.out h1 h2
        rwa [decide_eq_true rfl] at this
      have HCP : Hid (∀ u, w.heap.size ≤ u.heap.size → LogOn w.heap.size u ⟨lb, tb, sh, G1⟩ D 0 1 (bares base) later sl → Calls Tryz.prog 15 #[.pointer (some ⟨lb, 0, none⟩), .slice none 0 0] u fun e w' => e = .returned (.int .i64 0) ∧ Onl ((⟨lb, tb, sh, G1⟩ : LogD).S sl) u w' ∧ ∃ D' sl', LogOn w.heap.size w' ⟨lb, tb, sh, G1⟩ D' 1 2 [] [] sl') := Lib.hid fun u hu h => llaw_compact0 h hu HLIT.out (by decide) (by decide)
      have HOP : Hid (∀ (u : World) (D' : Dv) (sl' : Value), LogOn w.heap.size u ⟨lb, tb, sh, G1⟩ D' 1 2 [] [] sl' → w.heap.size ≤ u.heap.size → Calls Tryz.prog 19 #[.pointer (some ⟨sh.b, 0, none⟩), GV] u fun e w' => Onl sh.S u w' ∧ ∃ l2 tb2 sl2, e = .returned (.tuple #[.pointer (some ⟨l2, 0, none⟩), .int .i64 0]) ∧ LogOn w.heap.size w' ⟨l2, tb2, sh, G1⟩ D' 1 2 [] [] sl2) := Lib.hid fun u D' sl' h hu => by
        rw [← hGV]
        refine (llaw_open w.heap.size sh D' u h.at'.dev h.ll h.st h.at'.bs hu).mono ?_
        rintro e w' ⟨h1, l2, tb2, sl2, rfl, h2, _⟩
        exact ⟨h1, l2, tb2, sl2, rfl, h2⟩
      have HA0 : Hid (∀ (u : World) (l2 tb2 : Nat) (D' : Dv) (sl' : Value), LogOn w.heap.size u ⟨l2, tb2, sh, G1⟩ D' 1 2 [] [] sl' → Calls Tryz.prog 20 #[.pointer (some ⟨l2, 0, none⟩)] u fun e w' => (∃ p cap, e = .returned (.slice p 0 cap)) ∧ Below u.heap.size u w') := Lib.hid fun u l2 tb2 D' sl' h => (llaw_all h).mono fun e w' ⟨⟨p, cap, h1, _⟩, h2⟩ => ⟨⟨p, cap, h1⟩, h2⟩
      have HG0 : Hid (∀ (u : World) (l2 tb2 : Nat) (D' : Dv) (sl' : Value), LogOn w.heap.size u ⟨l2, tb2, sh, G1⟩ D' 1 2 [] [] sl' → Calls Tryz.prog 24 #[.pointer (some ⟨l2, 0, none⟩)] u fun e w' => e = .returned (.int .i64 2) ∧ u = w') := Lib.hid fun u l2 tb2 D' sl' h => log_gen_any h.at'
      have HR0 : Hid (∀ (u : World) (l2 tb2 : Nat) (D' : Dv) (sl' : Value), LogOn w.heap.size u ⟨l2, tb2, sh, G1⟩ D' 1 2 [] [] sl' → Calls Tryz.prog 26 #[.pointer (some ⟨l2, 0, none⟩)] u fun e w' => e = .returned (.int .i64 14) ∧ u = w') := Lib.hid fun u l2 tb2 D' sl' h => llaw_room h
      have HC0 : Hid (∀ (u : World) (l2 tb2 : Nat) (D' : Dv) (sl' : Value), LogOn w.heap.size u ⟨l2, tb2, sh, G1⟩ D' 1 2 [] [] sl' → Calls Tryz.prog 25 #[.pointer (some ⟨l2, 0, none⟩)] u fun e w' => e = .returned (.bool true) ∧ u = w') := Lib.hid fun u l2 tb2 D' sl' h => log_clean_any h.at'
      clear HRR
      go_wp2_with (first
        | (go_at_call 20; (with_reducible refine (HALL.out wr HLO.out).mono ?_); rintro e y1 ⟨⟨p1, c1, rfl, hl1⟩, b1⟩; have LA1 := Lib.hid hl1; have L1 := Lib.hid (HLO.out.step b1); have HW1 := Lib.hid (HWL.out.step b1); have BF1 := Lib.hid (HBW.out.next b1); clear hl1 b1)
        | (go_at_call 13; (with_reducible refine (HPL.out y1 p1 c1 LA1.out).mono ?_); rintro e y2 ⟨⟨p2, c2, rfl, hl2⟩, b2⟩; have LA2 := Lib.hid hl2; have L2 := Lib.hid (L1.out.step b2); have HW2 := Lib.hid (HW1.out.step b2); have BF2 := Lib.hid (BF1.out.next b2); clear hl2 b2)
        | (go_at_call 23; (with_reducible refine (HSM.out y2 p2 c2 wa wc LA2.out HW2.out).mono ?_); rintro e y3 ⟨rfl, b3⟩; have L3 := Lib.hid (L2.out.step b3); have BF3 := Lib.hid (BF2.out.next b3); have BZ3 : Hid (w.heap.size ≤ y3.heap.size) := Lib.hid BF3.out.size; clear b3)
        | (go_at_call 15; (with_reducible refine (HCP.out y3 BZ3.out L3.out).mono ?_); rintro e y4 ⟨rfl, o4, D4, sl4, h4⟩; have L4 := Lib.hid h4; have BF4 : Hid (Below w.heap.size w y4) := Lib.hid (BF3.out.trans (o4.below L3.out.at'.sB BZ3.out)); clear o4 h4)
        | (go_at_call 11; (with_reducible refine (HG.out y4).mono ?_); rintro e y5 ⟨rfl, b5⟩; have L5 := Lib.hid (L4.out.step b5); have BF5 := Lib.hid (BF4.out.next b5); have BZ5 : Hid (w.heap.size ≤ y5.heap.size) := Lib.hid BF5.out.size; clear b5)
        | (go_at_call 19; (with_reducible refine (HOP.out y5 D4 sl4 L5.out BZ5.out).mono ?_); rintro e y6 ⟨o6, l2, tb2, sl2, rfl, h6⟩; have LX6 := Lib.hid h6; have L6 := Lib.hid (L5.out.again o6 h6.at'.dev); have BF6 : Hid (Below w.heap.size w y6) := Lib.hid (BF5.out.trans (o6.below L5.out.at'.bs BZ5.out)); clear o6 h6)
        | (go_at_call 20; (with_reducible refine (HA0.out y6 lb tb D4 sl4 L6.out).mono ?_); rintro e y7 ⟨⟨p7, c7, rfl⟩, b7⟩; have LX7 := Lib.hid (LX6.out.step b7); have BF7 := Lib.hid (BF6.out.next b7); clear b7)
        | (go_at_call 20; (with_reducible refine (HA0.out y7 l2 tb2 D4 sl2 LX7.out).mono ?_); rintro e y8 ⟨⟨p8, c8, rfl⟩, b8⟩; have LX8 := Lib.hid (LX7.out.step b8); have BF8 := Lib.hid (BF7.out.next b8); clear b8)
        | (go_at_call 24; (with_reducible refine (HG0.out y8 l2 tb2 D4 sl2 LX8.out).mono ?_); rintro e _ ⟨rfl, rfl⟩)
        | (go_at_call 26; (with_reducible refine (HR0.out y8 l2 tb2 D4 sl2 LX8.out).mono ?_); rintro e _ ⟨rfl, rfl⟩)
        | (go_at_call 25; (with_reducible refine (HC0.out y8 l2 tb2 D4 sl2 LX8.out).mono ?_); rintro e _ ⟨rfl, rfl⟩))
      go_ret
      exact ⟨rfl, BF8.out⟩
end Go.Proofs.YtnbindmmbbiifaaGreat
