/- The texts LogRot, one behind the other. -/
import Derived.Test.YtbnjenbhpaknbaaGreatB5
/- LogRot (gen_log_rot.py). -/
namespace Go.Proofs.YtbnjenbhpaknbaaGreat
open Go.RowKit CrcMath NumMath FlaMath GeoMath
set_option linter.unusedVariables false
set_option linter.unusedSimpArgs false
set_option maxRecDepth 100000

theorem fits_turn : Fits Tryz.prog 40 4 := ⟨⟨_, Tryz.underlying40, rfl⟩, by kernel_rfl⟩
theorem zero_turn : ∀ u, (zeroValue 40).run Tryz.prog u = .ok (.agg (tcv 0 0 0 0).toArray) u := fun u => by kernel_rfl
def nts (l : List Nat) : List Value := l.map fun (n : Nat) => .int .i64 (n : Int)
theorem nts_length (l : List Nat) : (nts l).length = l.length := by simp [nts]
theorem nts_get (l : List Nat) (i : Nat) (h : i < l.length) : (nts l)[i]? = some (.int .i64 ((l.getD i 0 : Nat) : Int)) := by simp [nts, h]
theorem nts_set (l : List Nat) (i n : Nat) : (nts l).set i (.int .i64 (n : Int)) = nts (l.set i n) := by simp [nts, List.map_set]
theorem zero_side : ∀ u, (zeroValue 38).run Tryz.prog u = .ok (.agg (nts (List.replicate 16 0)).toArray) u := fun u => by kernel_rfl
/-- Append, whatever comes of it. -/
theorem lrot_append {B : Nat} {w : World} {A : LogD} {D : Dv} {base later : List Rc} {sl : Value} (h : LogOn B w A D 0 1 base later sl) (hBw : B ≤ w.heap.size) (hl : D.lit = false) (r : Rc) :
    Calls Tryz.prog 9 #[.pointer (some ⟨A.l, 0, none⟩), .agg r.cells.toArray] w fun e w' => (∃ z : Int, e = .returned (.int .i64 z)) ∧ (∃ D' later' sl', LogOn B w' A D' 0 1 base later' sl' ∧ D'.lit = false) ∧ Below B w w' := by
  cases hr : r.may with
  | false => exact (llaw_append_bad h r hr).mono fun e w' ⟨h1, h2⟩ => ⟨⟨_, h1⟩, ⟨D, later, sl, h.step h2, hl⟩, h2.mono hBw⟩
  | true =>
    by_cases hn : base.length + later.length + 2 = 16
    · exact (llaw_append_full h r hr hn).mono fun e w' ⟨h1, h2⟩ => ⟨⟨_, h1⟩, ⟨D, later, sl, h.step h2, hl⟩, h2.mono hBw⟩
    · exact (llaw_append h hBw hl r hr (by have := h.few; omega)).mono fun e w' ⟨h1, h2, D', sl', h3, h4, _⟩ => ⟨⟨_, h1⟩, ⟨D', _, sl', h3, h4⟩, h2.below h.at'.sB hBw⟩
set_option maxHeartbeats 8000000 in
theorem logRot_walk (ab : Option Addr) (nb cb : Nat) (base : List Rc) (am : Option Addr) (nm cm : Nat) (more : List Rc) (ar : Option Addr) (nr cr : Nat) (rot : List Tn) (w : World) (hnb : base.length = nb) (hnb2 : nb ≤ 2000000) (hb : Lies w w.heap.size ab (rcs base)) (hnm : more.length = nm) (hnm2 : nm ≤ 2000000) (hm : Lies w w.heap.size am (rcs more)) (hnr : rot.length = nr) (hnr2 : nr ≤ 2000000) (hrt : Lies w w.heap.size ar (tcs rot)) :
    Calls Tryz.prog 3 #[.slice ab nb cb, .slice am nm cm, .slice ar nr cr] w fun e w' => e = .returned (.bool true) ∧ Below w.heap.size w w' := by
  have HB := Lib.hid hb
  have HM := Lib.hid hm
  have HR := Lib.hid hrt
  have HNM := Lib.hid hnm
  have HNR := Lib.hid hnr
  have hnmI : (nm : Int) ≤ 2000000 := by omega
  have hnrI : (nr : Int) ≤ 2000000 := by omega
  have HG : Hid (∀ u, Calls Tryz.prog 8 #[] u fun e w' => e = .returned (geoV G1) ∧ Below u.heap.size u w') := Lib.hid llaw_geo
  have HBL : Hid (∀ u : World, Calls Tryz.prog 6 #[] u fun e w' => ∃ s : Sh, e = .returned (.pointer (some ⟨s.b, 0, none⟩)) ∧ Dvx w' s (D0 27) ∧ (∀ k ∈ s.S, u.heap.size ≤ k) ∧ Below u.heap.size u w') := Lib.hid llaw_blank
  have HWB : Hid (∀ u, Lies u u.heap.size ab (rcs base) → Calls Tryz.prog 5 #[.slice ab nb cb] u fun e w' => e = .returned (.int .i64 (askE 0 base)) ∧ Below u.heap.size u w') := Lib.hid fun u hu => llaw_wrong ab nb cb base u hnb hnb2 hu
  have HF0 : Hid (askE 0 base = 0 → ∀ (u : World) (sh : Sh), Dvx u sh (D0 27) → (∀ k ∈ sh.S, w.heap.size ≤ k) → w.heap.size ≤ u.heap.size → Lies u w.heap.size ab (rcs base) → Calls Tryz.prog 7 #[.pointer (some ⟨sh.b, 0, none⟩), geoV G1, .slice ab nb cb] u fun e w' => Onl sh.S u w' ∧ ∃ lb tb sl D, e = .returned (.tuple #[.pointer (some ⟨lb, 0, none⟩), .int .i64 0]) ∧ LogOn w.heap.size w' ⟨lb, tb, sh, G1⟩ D 0 1 (bares base) [] sl ∧ D.lit = false) := Lib.hid fun he u sh hd hs hw hl => by
    refine (llaw_format w.heap.size sh u hd hs hw ab nb cb base hnb (by have := (ask_ok he).2.1; omega) (fun u' ho => onl_lies hl ho hs hw) he).mono ?_
    rintro e w' ⟨h1, lb, tb, sl, rfl, h2, _, _⟩
    exact ⟨h1, lb, tb, sl, DF base, rfl, ⟨by rw [← v1_cmp]; exact h2, DF_st base he, rfl, DF_len base⟩, DF_lit base⟩
  clear hb hm hrt hnb hnm hnr hnb2 hnm2 hnr2
  generalize hE : askE 0 base = E at *
  by_cases hE0 : ¬ E = 0
  · have hne : (E != 0) = true := bne_iff_ne.2 hE0
    clear HF0 HG HBL hE
    go_enter Tryz.func3, Tryz.ntmps3
    go_wp2_with (first
      | (go_at_call 4; (with_reducible refine (log_awake_any w).mono ?_); rintro e u1 ⟨rfl, b1⟩; have B1 := Lib.hid b1; clear b1)
      | (go_at_call 5; (with_reducible refine (HWB.out u1 (HB.out.step B1.out)).mono ?_); rintro e u2 ⟨rfl, b2⟩; have B2 := Lib.hid (B1.out.next b2); clear b2))
    go_ret
    exact ⟨rfl, B2.out⟩
  obtain rfl : E = 0 := Classical.byContradiction hE0
  clear hE0
  have HF := Lib.hid (HF0.out rfl)
  clear HF0
  clear hE
  by_cases h20 : 20 < nm
  · have h20I : (20 : Int) < (nm : Int) := by omega
    have h20d : decide ((20 : Int) < (nm : Int)) = true := decide_eq_true h20I
    clear HF HG HBL
    go_enter Tryz.func3, Tryz.ntmps3
    go_wp2_with (first
      | (go_at_call 4; (with_reducible refine (log_awake_any w).mono ?_); rintro e u1 ⟨rfl, b1⟩; have B1 := Lib.hid b1; clear b1)
      | (go_at_call 5; (with_reducible refine (HWB.out u1 (HB.out.step B1.out)).mono ?_); rintro e u2 ⟨rfl, b2⟩; have B2 := Lib.hid (B1.out.next b2); clear b2))
    go_ret
    exact ⟨rfl, B2.out⟩
  have h20I : ¬ (20 : Int) < (nm : Int) := by omega
  have h20d : decide ((20 : Int) < (nm : Int)) = false := decide_eq_false h20I
  by_cases h60 : 60 < nr
  · have h60I : (60 : Int) < (nr : Int) := by omega
    have h60d : decide ((60 : Int) < (nr : Int)) = true := decide_eq_true h60I
    clear HF HG HBL
    go_enter Tryz.func3, Tryz.ntmps3
    go_wp2_with (first
      | (go_at_call 4; (with_reducible refine (log_awake_any w).mono ?_); rintro e u1 ⟨rfl, b1⟩; have B1 := Lib.hid b1; clear b1)
      | (go_at_call 5; (with_reducible refine (HWB.out u1 (HB.out.step B1.out)).mono ?_); rintro e u2 ⟨rfl, b2⟩; have B2 := Lib.hid (B1.out.next b2); clear b2))
    go_ret
    exact ⟨rfl, B2.out⟩
  have h60I : ¬ (60 : Int) < (nr : Int) := by omega
  have h60d : decide ((60 : Int) < (nr : Int)) = false := decide_eq_false h60I
  have HGH : Hid (∀ (u : World) (c : Nat), c < 2 → Calls Tryz.prog 10 #[geoV G1, .int .i64 0, .int .i64 (c : Int)] u fun e w' => e = .returned (.tuple #[.int .i64 ((9 + c * 4 : Nat) : Int), .int .i64 0]) ∧ Below u.heap.size u w') := Lib.hid fun u c hc => by
    have hq : halfQ G1 0 (c : Int) = 0 := by
      unfold halfQ askF
      rw [if_pos G1_right, if_pos ((okAll2 _ _).2 ⟨⟨by simp, by simp⟩, by simp, by simp; omega⟩)]
    have hh : half G1 0 (c : Int) = ((9 + c * 4 : Nat) : Int) := by
      unfold half
      rw [if_pos hq, G1_log]
      omega
    have := half_any G1 0 (c : Int) u
    rwa [hq, hh] at this
  have HOP : Hid (∀ (u : World) (sh : Sh) (D : Dv) (C : List UInt8) (later : List Rc) (sd : List Nat), Dvx u sh { D with C := C } → D.L.length = 27 → LogSt D 9 0 1 (bares base) later → RotSt D.C C 9 sd → (∀ p, (bares base).length + later.length + 2 ≤ p → p < 16 → sd.getD p 0 = 0) → (∀ p c, p < 16 → c < 2 → sd.getD p 0 = 1 + c → isP (hp C 9 0 c p) = false) → (∀ k ∈ sh.S, w.heap.size ≤ k) → w.heap.size ≤ u.heap.size → Calls Tryz.prog 15 #[.pointer (some ⟨sh.b, 0, none⟩), geoV G1] u fun e w' => Onl sh.S u w' ∧
      ∃ l tb sl cl, e = .returned (.tuple #[.pointer (some ⟨l, 0, none⟩), .int .i64 0]) ∧ LogAt w.heap.size w' ⟨l, tb, sh, G1⟩ { D with C := C } ⟨0, 1, bares (bares base ++ later), (bares base).length + later.length + 2, cl⟩ sl) := Lib.hid fun u sh D C later sd h1 h2 h3 h4 h5 h6 h7 h8 => lrot_open h1 h2 h3 h4 h5 h6 h7 h8
  generalize hGV : geoV G1 = GV at *
  go_enter Tryz.func3, Tryz.ntmps3
  go_wp2_with (first
    | (go_at_call 4; (with_reducible refine (log_awake_any w).mono ?_); rintro e u1 ⟨rfl, b1⟩; have B1 := Lib.hid b1; clear b1)
    | (go_at_call 5; (with_reducible refine (HWB.out u1 (HB.out.step B1.out)).mono ?_); rintro e u2 ⟨rfl, b2⟩; have B2 := Lib.hid (B1.out.next b2); clear b2)
    | (go_at_call 6; (with_reducible refine (HBL.out u2).mono ?_); rintro e u3 ⟨sh, rfl, hd3, hs3, b3⟩; have D3 := Lib.hid hd3; have HS3 : Hid (∀ k ∈ sh.S, w.heap.size ≤ k) := Lib.hid fun k hk => Nat.le_trans B2.out.size (hs3 k hk); have B3 := Lib.hid (B2.out.next b3); clear b3 hd3 hs3)
    | (go_at_call 8; (with_reducible refine (HG.out u3).mono ?_); rintro e u4 ⟨rfl, b4⟩; have D4 := Lib.hid (D3.out.step b4); have B4 := Lib.hid (B3.out.next b4); clear b4)
    | (go_at_call 7; (with_reducible refine (HF.out u4 sh D4.out HS3.out B4.out.size (HB.out.below B4.out)).mono ?_); rintro e u5 ⟨o5, lb, tb, sl0, DD0, rfl, h5, l5⟩; have B5 : Hid (Below w.heap.size w u5) := Lib.hid (B4.out.trans (o5.below HS3.out B4.out.size)); have HL5 := Lib.hid h5; have HD5 := Lib.hid l5; clear o5 h5 l5 D3 D4))
  have HAP : Hid (∀ (u : World) (D : Dv) (later : List Rc) (sl : Value) (r : Rc), w.heap.size ≤ u.heap.size → LogOn w.heap.size u ⟨lb, tb, sh, G1⟩ D 0 1 (bares base) later sl → D.lit = false → Calls Tryz.prog 9 #[.pointer (some ⟨lb, 0, none⟩), .agg (rcv r.k r.s r.n r.v).toArray] u fun e w' => (∃ z : Int, e = .returned (.int .i64 z)) ∧ (∃ D' later' sl', LogOn w.heap.size w' ⟨lb, tb, sh, G1⟩ D' 0 1 (bares base) later' sl' ∧ D'.lit = false) ∧ Below w.heap.size u w') := Lib.hid fun u D later sl r h1 h2 h3 => lrot_append h2 h1 h3 r
  go_loopw [55] (fun i wr => ∃ (k : Nat) (D : Dv) (later : List Rc) (sl : Value), k ≤ nm ∧ i = .int .i64 k ∧ LogOn w.heap.size wr ⟨lb, tb, sh, G1⟩ D 0 1 (bares base) later sl ∧ D.lit = false ∧ Below w.heap.size w wr) (fun i _ => nm - (intOf i).toNat)
  case atStart => exact ⟨0, DD0, [], sl0, Nat.zero_le _, rfl, HL5.out, HD5.out, B5.out⟩
  case round =>
    clear HL5 HD5 B5 B4 B3 B2 B1 HF HBL HWB DD0 sl0
    obtain ⟨k, D, later, sl, hk, rfl, hlo, hlit, hbw⟩ := hrel
    have HLO := Lib.hid hlo
    have HLIT := Lib.hid hlit
    have HBW := Lib.hid hbw
    clear hlo hlit hbw
    by_cases hlt : k < nm
    · have hk1 : (k : Int) < (nm : Int) := by omega
      have hkl : Hid (k < more.length) := Lib.hid (by rw [HNM.out]; exact hlt)
      obtain ⟨b2, off, rfl, hbb, hc⟩ := HM.out (by rw [rcs_length, HNM.out]; omega)
      have HRG : Hid (wr.rangeAt b2 (off + k * 4) (more[k]'hkl.out).cells) := Lib.hid (rcs_at (w := wr) (fun j u hj => (HBW.out.cell (p := ⟨b2, off + j, none⟩) hbb).trans (hc j u hj)) k hkl.out)
      obtain ⟨⟨x, s, m, v⟩, hx⟩ : ∃ r, more[k]'hkl.out = r := ⟨_, rfl⟩
      rw [hx] at HRG
      have HRG2 : Hid (wr.rangeAt b2 (off + k * 4) (rcv x s m v)) := HRG
      have HAK : Hid (∀ (u : World), w.heap.size ≤ u.heap.size → LogOn w.heap.size u ⟨lb, tb, sh, G1⟩ D 0 1 (bares base) later sl → Calls Tryz.prog 9 #[.pointer (some ⟨lb, 0, none⟩), .agg (rcv x s m v).toArray] u fun e w' => (∃ z : Int, e = .returned (.int .i64 z)) ∧ (∃ D' later' sl', LogOn w.heap.size w' ⟨lb, tb, sh, G1⟩ D' 0 1 (bares base) later' sl' ∧ D'.lit = false) ∧ Below w.heap.size u w') := Lib.hid fun u h1 h2 => HAP.out u D later sl ⟨x, s, m, v⟩ h1 h2 HLIT.out
      clear hc hx HRG HM HAP HOP
      go_wp2_with (first
        | ((with_reducible refine wpLoadRK HRG2.out 36 fits_rec rfl ?_ ?_); rfl)
        | ((with_reducible refine wpAllocK (w := wr) (rcv 0 0 0 0) 36 zero_rec ?_ ?_); rfl; intro x1 r1 b1 s1; have R1 := Lib.hid r1; have BB1 := Lib.hid b1; clear r1 b1 s1)
        | ((with_reducible refine R1.out.wpStoreK 36 (rcv x s m v) fits_rec rfl rfl rfl ?_ ?_); rfl; intro x2 r2 o2 s2; have R2 := Lib.hid r2; have BB2 : Hid (Below wr.heap.size wr x2) := Lib.hid (BB1.out.trans (o2.below (Nat.le_refl _) BB1.out.size)); have BW2 : Hid (w.heap.size ≤ x2.heap.size) := Lib.hid (Nat.le_trans HBW.out.size BB2.out.size); have L2 := Lib.hid (HLO.out.step BB2.out); clear r2 o2 s2)
        | ((with_reducible refine R2.out.wpLoadK 36 fits_rec rfl ?_ ?_); rfl)
        | (go_at_call 9; (with_reducible refine (HAK.out x2 BW2.out L2.out).mono ?_); rintro e x3 ⟨⟨z, rfl⟩, ⟨D3, later3, sl3, h3, l3⟩, b3⟩; have L3 := Lib.hid h3; have LL3 := Lib.hid l3; have BF3 : Hid (Below w.heap.size w x3) := Lib.hid ((HBW.out.next BB2.out).trans b3); clear h3 l3 b3))
      go_roundw
      case rel => exact ⟨k + 1, D3, later3, sl3, by omega, by go_num, L3.out, LL3.out, BF3.out⟩
      case measure => simp [intOf]; omega
    · have hk2 : ¬ (k : Int) < (nm : Int) := by omega
      clear HM HAP hlt hk
      go_wp2_with ((with_reducible refine wpAllocK (w := wr) (nts (List.replicate 16 0)) 38 zero_side ?_ ?_); rfl; intro w1 r1 b1 s1; have SR1 := Lib.hid r1; have LA1 : Hid (LogAt w.heap.size w1 ⟨lb, tb, sh, G1⟩ { D with C := D.C } (stV 0 1 (bares base) later) sl) := Lib.hid (HLO.out.at'.step b1); have BF1 : Hid (Below w.heap.size w w1) := Lib.hid (HBW.out.next b1); clear r1 b1 s1)
      obtain ⟨g, hg⟩ : ∃ g, wr.heap.size = g := ⟨_, rfl⟩
      have HGW : Hid (w.heap.size ≤ g) := Lib.hid (by rw [← hg]; exact HBW.out.size)
      have HLOW : Hid ((∀ k ∈ (⟨lb, tb, sh, G1⟩ : LogD).S sl, k < g) ∧ tb < g) := Lib.hid (by rw [← hg]; exact HLO.out.at'.low)
      have HST := Lib.hid HLO.out.st
      have HLL := Lib.hid HLO.out.ll
      have HFEW := Lib.hid HLO.out.few
      have HNS : Hid (g ∉ sh.S) := Lib.hid fun h => absurd (HLOW.out.1 g (by simp [LogD.S, h])) (Nat.lt_irrefl _)
      rw [hg] at SR1 ⊢
      have HLEN : Hid (D.C.length = 27 * 64) := Lib.hid (by rw [HST.out.fit.len, HLL.out])
      have HROT : Hid (∀ (u : World) (C : List UInt8) (x : Nat) (b : UInt8), LogAt w.heap.size u ⟨lb, tb, sh, G1⟩ { D with C := C } (stV 0 1 (bares base) later) sl → x + 1 ≤ C.length → x < 1000000 → Calls Tryz.prog 11 #[.pointer (some ⟨sh.b, 0, none⟩), .int .i64 (x : Int), .slice (some ⟨u.heap.size, 0, none⟩) 1 1] (u.alloc (.cells #[.int .u8 (b.toNat : Int)] 5)) fun e w' => e = .returned (.int .i64 0) ∧ LogAt w.heap.size w' ⟨lb, tb, sh, G1⟩ { D with C := rotF C x [b] } (stV 0 1 (bares base) later) sl ∧ Onl sh.S u w') := Lib.hid fun u C x b h hx hx2 => by
        have hal := h.step (alloc_below u (.cells #[.int .u8 (b.toNat : Int)] 5))
        have hnew : Row (u.alloc (.cells #[.int .u8 (b.toNat : Int)] 5)) u.heap.size 5 [.int .u8 (b.toNat : Int)] := Row.new u _ _
        refine (lrot_rot hal.dev x b (some ⟨u.heap.size, 0, none⟩) 1 hx hx2 (fun _ => ⟨u.heap.size, 0, rfl, hnew.lt, fun hm => absurd (h.dev.lt _ hm) (Nat.lt_irrefl _), fun j q hj => by rw [Nat.zero_add, hnew.cell]; exact hj⟩)).mono ?_
        rintro e w' ⟨rfl, h1, h2⟩
        exact ⟨rfl, hal.go h2 h1 rfl, (Onl.of_below (alloc_below u _)).trans h2⟩
      have HLOFF : Hid (∀ (u u' : World) (C : List UInt8), LogAt w.heap.size u ⟨lb, tb, sh, G1⟩ { D with C := C } (stV 0 1 (bares base) later) sl → Only g u u' → LogAt w.heap.size u' ⟨lb, tb, sh, G1⟩ { D with C := C } (stV 0 1 (bares base) later) sl) := Lib.hid fun u u' C h ho => h.off (S := [g]) (Onl.of_only ho (by simp)) (fun k hk he => absurd (HLOW.out.1 k hk) (by rw [List.mem_singleton.1 he]; exact Nat.lt_irrefl _)) (fun he => absurd HLOW.out.2 (by have e2 : tb = g := List.mem_singleton.1 he; omega))
      clear hg HBW HLO HLIT
      go_wp2
      go_loopw [65] (fun i wr => ∃ (k : Nat) (C : List UInt8) (sd : List Nat), k ≤ nr ∧ i = .int .i64 k ∧ LogAt w.heap.size wr ⟨lb, tb, sh, G1⟩ { D with C := C } (stV 0 1 (bares base) later) sl ∧ Row wr g 38 (nts sd) ∧ RotSt D.C C 9 sd ∧ Below w.heap.size w wr) (fun i _ => nr - (intOf i).toNat)
      case atStart => exact ⟨0, D.C, _, Nat.zero_le _, rfl, LA1.out, SR1.out, RotSt.zero _ _, BF1.out⟩
      case round =>
        clear LA1 SR1 BF1
        obtain ⟨k, C, sd, hk, rfl, hla, hsr, hrs, hbw⟩ := hrel
        have LA := Lib.hid hla
        have SR := Lib.hid hsr
        have RS := Lib.hid hrs
        have HBW := Lib.hid hbw
        have HSD := Lib.hid hrs.sl
        clear hla hsr hrs hbw
        by_cases hlt : k < nr
        · have hk1 : (k : Int) < (nr : Int) := by omega
          have hkl : Hid (k < rot.length) := Lib.hid (by rw [HNR.out]; exact hlt)
          obtain ⟨b2, off, rfl, hbb, hc⟩ := HR.out (by rw [tcs_length, HNR.out]; omega)
          have HRG : Hid (wr.rangeAt b2 (off + k * 4) (rot[k]'hkl.out).cells) := Lib.hid (tcs_at (w := wr) (fun j u hj => (HBW.out.cell (p := ⟨b2, off + j, none⟩) hbb).trans (hc j u hj)) k hkl.out)
          obtain ⟨⟨tp, tc, ta, ty⟩, hx⟩ : ∃ r, rot[k]'hkl.out = r := ⟨_, rfl⟩
          rw [hx] at HRG
          have HRG2 : Hid (wr.rangeAt b2 (off + k * 4) (tcv tp.toNat tc.toNat ta.toNat ty.toNat)) := HRG
          clear hc hx HRG HR HOP
          have l1 := tp.toNat_lt
          have l2 := tc.toNat_lt
          have l3 := ta.toNat_lt
          have HRB := Lib.hid fun u x h hx hx2 => HROT.out u C x ty h hx hx2
          have l4 := ty.toNat_lt
          generalize tp.toNat = pN at *
          generalize tc.toNat = cN at *
          generalize ta.toNat = aN at *
          generalize hyy : ty.toNat = yN at *
          obtain ⟨p, hp⟩ : ∃ p, pN % 16 = p := ⟨_, rfl⟩
          obtain ⟨c, hc⟩ : ∃ c, cN % 2 = c := ⟨_, rfl⟩
          obtain ⟨a, ha⟩ : ∃ a, aN % 16 = a := ⟨_, rfl⟩
          have m1 : (pN : Int) < 256 := by omega
          have m2 : (cN : Int) < 256 := by omega
          have m3 : (aN : Int) < 256 := by omega
          have m4 : (yN : Int) < 256 := by omega
          have e1 : (pN : Int) % 16 = (p : Int) := by omega
          have e1t : (pN : Int).tmod 16 = (p : Int) := by rw [Int.tmod_eq_emod_of_nonneg (by omega)]; exact e1
          have e2 : (cN : Int) % 2 = (c : Int) := by omega
          have e2t : (cN : Int).tmod 2 = (c : Int) := by rw [Int.tmod_eq_emod_of_nonneg (by omega)]; exact e2
          have e3 : (aN : Int) % 16 = (a : Int) := by omega
          have e3t : (aN : Int).tmod 16 = (a : Int) := by rw [Int.tmod_eq_emod_of_nonneg (by omega)]; exact e3
          have hp16 : p < 16 := by omega
          have hc2 : c < 2 := by omega
          have ha16 : a < 16 := by omega
          have i1 : (p : Int) < 16 := by omega
          have i2 : (c : Int) < 2 := by omega
          have i3 : (a : Int) < 16 := by omega
          obtain ⟨sp, hsp⟩ : ∃ x, sd.getD p 0 = x := ⟨_, rfl⟩
          have HSP : Hid (∀ u, Row u g 38 (nts sd) → u.cell? ⟨g, p, none⟩ = some (.int .i64 (sp : Int))) := Lib.hid fun u h => by rw [h.cell, nts_get _ _ (by rw [HSD.out]; exact hp16), hsp]
          obtain ⟨c2, hc2e⟩ : ∃ x, 2 - c = x := ⟨_, rfl⟩
          obtain ⟨c1, hc1e⟩ : ∃ x, 1 + c = x := ⟨_, rfl⟩
          have e4 : (2 : Int) - (c : Int) = (c2 : Int) := by omega
          have e5 : (1 : Int) + (c : Int) = (c1 : Int) := by omega
          have i4 : (c2 : Int) ≤ 2 := by omega
          have i5 : (c1 : Int) ≤ 2 := by omega
          have HGHC := Lib.hid fun u => HGH.out u c hc2
          obtain ⟨n1, hn1⟩ : ∃ x, 9 + c * 4 = x := ⟨_, rfl⟩
          rw [hn1] at HGHC
          obtain ⟨q0, hq0⟩ : ∃ x, n1 * 64 = x := ⟨_, rfl⟩
          obtain ⟨q1, hq1⟩ : ∃ x, p * 16 = x := ⟨_, rfl⟩
          obtain ⟨q2, hq2⟩ : ∃ x, q0 + q1 = x := ⟨_, rfl⟩
          obtain ⟨q3, hq3⟩ : ∃ x, q2 + a = x := ⟨_, rfl⟩
          have f0 : (n1 : Int) * 64 = (q0 : Int) := by omega
          have f1 : (p : Int) * 16 = (q1 : Int) := by omega
          have f2 : (q0 : Int) + (q1 : Int) = (q2 : Int) := by omega
          have f3 : (q2 : Int) + (a : Int) = (q3 : Int) := by omega
          have j0 : (q0 : Int) ≤ 832 := by omega
          have j1 : (q1 : Int) ≤ 240 := by omega
          have j2 : (q2 : Int) ≤ 1072 := by omega
          have j3 : (q3 : Int) ≤ 1087 := by omega
          have jn : (n1 : Int) ≤ 13 := by omega
          have HQ3 : Hid ((9 + c * 4) * 64 + p * 16 + a = q3) := Lib.hid (by omega)
          have HCL : Hid (q3 + 1 ≤ C.length) := Lib.hid (by rw [RS.out.len, HLEN.out]; omega)
          have HQM : Hid (q3 < 1000000) := Lib.hid (by omega)
          have HC1E := Lib.hid hc1e
          have HP16 := Lib.hid hp16
          have HC2L := Lib.hid hc2
          have HA16 := Lib.hid ha16
          have HSL : Hid (p < (nts sd).length) := Lib.hid (by rw [nts_length, HSD.out]; exact hp16)
          have HSET : Hid ((nts sd).set p (.int .i64 (c1 : Int)) = nts (sd.set p c1)) := Lib.hid (nts_set _ _ _)
          by_cases heq : sp = c2
          · have hbe : ((sp : Int) == (c2 : Int)) = true := by rw [beq_iff_eq]; omega
            clear hp hc ha hp16 hc2 ha16 hsp hc2e hc1e hn1 hq0 hq1 hq2 hq3 HROT HRB heq
            go_wp2_with (first
              | ((with_reducible refine wpLoadRK HRG2.out 40 fits_turn rfl ?_ ?_); rfl)
              | ((with_reducible refine wpAllocK (w := wr) (tcv 0 0 0 0) 40 zero_turn ?_ ?_); rfl; intro x1 r1 b1 s1; have R1 := Lib.hid r1; have BB1 := Lib.hid b1; clear r1 b1 s1)
              | ((with_reducible refine R1.out.wpStoreK 40 (tcv pN cN aN yN) fits_turn rfl rfl rfl ?_ ?_); rfl; intro x2 r2 o2 s2; have BB2 : Hid (Below wr.heap.size wr x2) := Lib.hid (BB1.out.trans (o2.below (Nat.le_refl _) BB1.out.size)); have L2 := Lib.hid (LA.out.step BB2.out); have SR2 := Lib.hid (SR.out.step BB2.out); have d0 : x2.cell? ⟨wr.heap.size, 0, none⟩ = some (.int .u8 (pN : Int)) := r2.cell 0; have d1 : x2.cell? ⟨wr.heap.size, 1, none⟩ = some (.int .u8 (cN : Int)) := r2.cell 1; have d9 := HSP.out x2 SR2.out; clear r2 o2 s2))
            go_roundw
            case rel => exact ⟨k + 1, C, sd, by omega, by go_num, L2.out, SR2.out, RS.out, HBW.out.next BB2.out⟩
            case measure => simp [intOf]; omega
          · have hbe : ((sp : Int) == (c2 : Int)) = false := by rw [beq_eq_false_iff_ne]; omega
            have hne9 : ¬ (sp : Int) = (c2 : Int) := by omega
            have HNE : Hid (sd.getD p 0 ≠ 2 - c) := Lib.hid (by rw [hsp, hc2e]; exact heq)
            clear hp hc ha hp16 hc2 ha16 hsp hc2e hc1e hn1 hq0 hq1 hq2 hq3 HROT heq hyy
            go_wp2_with (first
              | ((with_reducible refine wpLoadRK HRG2.out 40 fits_turn rfl ?_ ?_); rfl)
              | ((with_reducible refine wpAllocK (w := wr) (tcv 0 0 0 0) 40 zero_turn ?_ ?_); rfl; intro x1 r1 b1 s1; have R1 := Lib.hid r1; have BB1 := Lib.hid b1; clear r1 b1 s1)
              | ((with_reducible refine R1.out.wpStoreK 40 (tcv pN cN aN yN) fits_turn rfl rfl rfl ?_ ?_); rfl; intro x2 r2 o2 s2; have BB2 : Hid (Below wr.heap.size wr x2) := Lib.hid (BB1.out.trans (o2.below (Nat.le_refl _) BB1.out.size)); have L2 := Lib.hid (LA.out.step BB2.out); have SR2 := Lib.hid (SR.out.step BB2.out); have R2 := Lib.hid r2; have d0 : x2.cell? ⟨wr.heap.size, 0, none⟩ = some (.int .u8 (pN : Int)) := r2.cell 0; have d1 : x2.cell? ⟨wr.heap.size, 1, none⟩ = some (.int .u8 (cN : Int)) := r2.cell 1; have d9 := HSP.out x2 SR2.out; have HNG : Hid (wr.heap.size ≠ g) := Lib.hid (by have := SR.out.lt; omega); clear r2 o2 s2)
              | ((with_reducible refine SR2.out.wpStore1K p 3 (.int .i64 (c1 : Int)) finfo_int HSL.out (int_cells _ _) (int_one _ _) ?_ ?_); rfl; intro x3 r3 o3 s3; have SR3 : Hid (Row x3 g 38 (nts (sd.set p c1))) := Lib.hid (by rw [← HSET.out]; exact r3); have R3 := Lib.hid (R2.out.only o3 HNG.out); have L3 := Lib.hid (HLOFF.out _ _ _ L2.out o3); have BF3 : Hid (Below w.heap.size w x3) := Lib.hid ((HBW.out.next BB2.out).trans (o3.below HGW.out (HBW.out.next BB2.out).size)); clear r3 o3 s3)
              | (go_at_call 8; (with_reducible refine (HG.out x3).mono ?_); rintro e x4 ⟨rfl, b4⟩; have SR4 := Lib.hid (SR3.out.step b4); have R4 := Lib.hid (R3.out.step b4); have L4 := Lib.hid (L3.out.step b4); have BF4 := Lib.hid (BF3.out.next b4); clear b4)
              | (go_at_call 10; (with_reducible refine (HGHC.out x4).mono ?_); rintro e x5 ⟨rfl, b5⟩; have SR5 := Lib.hid (SR4.out.step b5); have R5 := Lib.hid (R4.out.step b5); have d2 : x5.cell? ⟨wr.heap.size, 2, none⟩ = some (.int .u8 (aN : Int)) := R5.out.cell 2; have d3 : x5.cell? ⟨wr.heap.size, 3, none⟩ = some (.int .u8 (yN : Int)) := R5.out.cell 3; have L5 := Lib.hid (L4.out.step b5); have BF5 := Lib.hid (BF4.out.next b5); clear b5)
              | (go_at_call 11; (with_reducible refine (HRB.out x5 q3 L5.out HCL.out HQM.out).mono ?_); rintro e x6 ⟨rfl, h6, o6⟩; have L6 := Lib.hid h6; have SR6 := Lib.hid (SR5.out.onl o6 HNS.out); have BF6 : Hid (Below w.heap.size w x6) := Lib.hid (BF5.out.trans (o6.below HS3.out BF5.out.size)); clear h6 o6))
            go_roundw
            case rel => exact ⟨k + 1, _, _, by omega, by go_num, L6.out, SR6.out, by rw [← HQ3.out, ← HC1E.out]; exact RS.out.step HP16.out HC2L.out HA16.out HNE.out ty, BF6.out⟩
            case measure => simp [intOf]; omega
        · have hk2 : ¬ (k : Int) < (nr : Int) := by omega
          clear HR HROT HLOFF hlt hk
          have HRL : Hid ((bares (bares base ++ later)).length = base.length + later.length) := Lib.hid (by rw [bares_length, List.length_append, bares_length])
          obtain ⟨r, hr⟩ : ∃ r, base.length + later.length = r := ⟨_, rfl⟩
          have hr14 : r + 2 ≤ 16 := by have := HFEW.out; rw [bares_length] at this; omega
          have hrI : (r : Int) ≤ 14 := by omega
          rw [hr] at HRL
          have HR10 : Hid (r ≤ 1000) := Lib.hid (by omega)
          have HALX : Hid (∀ (u : World) (l tbx : Nat) (V : LV) (slx : Value), V.recs = bares (bares base ++ later) → LogAt w.heap.size u ⟨l, tbx, sh, G1⟩ { D with C := C } V slx → Calls Tryz.prog 12 #[.pointer (some ⟨l, 0, none⟩)] u fun e w' => (∃ p cap, e = .returned (.slice p r cap) ∧ Lies w' w'.heap.size p (rcs (bares (bares base ++ later)))) ∧ Below u.heap.size u w') := Lib.hid fun u l tbx V slx hV h => lrot_all h _ r hV HRL.out HR10.out
          have HLN2 : Hid ((bares base).length + later.length + 2 = r + 2) := Lib.hid (by rw [bares_length]; omega)
          obtain ⟨r2, hr2⟩ : ∃ x, r + 2 = x := ⟨_, rfl⟩
          rw [hr2] at HLN2
          have er2 : (2 : Int) + (r : Int) = (r2 : Int) := by omega
          have er2b : (r2 : Int) ≤ 16 := by omega
          have HR2L : Hid (r2 ≤ 16) := Lib.hid (by omega)
          clear hr hr2 hr14 HFEW
          go_wp2_with (go_at_call 12; (with_reducible refine (HALX.out wr lb tb _ sl rfl LA.out).mono ?_); rintro e w1 ⟨⟨pp, pc, rfl, _⟩, b1⟩; have LA1 := Lib.hid (LA.out.step b1); have SR1 := Lib.hid (SR.out.step b1); have BF1 := Lib.hid (HBW.out.next b1); clear b1)
          have HRF1 : Hid (Below w1.heap.size w1 w1) := Lib.hid (Below.refl _ _)
          go_loopw [19] (fun i w2 => ∃ q : Nat, r2 ≤ q ∧ q ≤ 16 ∧ i = .int .i64 q ∧ (∀ j, r2 ≤ j → j < q → sd.getD j 0 = 0) ∧ Below w1.heap.size w1 w2) (fun i _ => 16 - (intOf i).toNat)
          case atStart => exact ⟨r2, Nat.le_refl _, HR2L.out, rfl, fun j h1 h2 => absurd h2 (by omega), HRF1.out⟩
          case round =>
            obtain ⟨q, hq1, hq2, rfl, hz, hb2⟩ := hrel
            have HZ := Lib.hid hz
            have BW2 := Lib.hid hb2
            clear hz hb2
            have hqI : (q : Int) ≤ 16 := by omega
            by_cases hlt : q < 16
            · have hk1 : (q : Int) < 16 := by omega
              obtain ⟨sp, hsp⟩ : ∃ x, sd.getD q 0 = x := ⟨_, rfl⟩
              have d9 : wr.cell? ⟨g, q, none⟩ = some (.int .i64 (sp : Int)) := by
                have := (SR1.out.step BW2.out).cell q
                rw [this, nts_get _ _ (by rw [HSD.out]; exact hlt), hsp]
              by_cases h0 : sp = 0
              · subst h0
                have HSP := Lib.hid hsp
                clear hsp
                have d10 : wr.cell? ⟨g, q, none⟩ = some (.int .i64 0) := d9
                clear d9
                go_wp2
                go_roundw
                case rel => exact ⟨q + 1, by omega, by omega, by go_num, fun j h1 h2 => by
                  by_cases e : j = q
                  · rw [e]; exact HSP.out
                  · exact HZ.out j h1 (by omega), BW2.out⟩
                case measure => simp [intOf]; omega
              · have hne1 : ((sp : Int) != 0) = true := by rw [bne_iff_ne]; omega
                have hne2 : ¬ (sp : Int) = 0 := by omega
                clear hsp
                go_wp2
                go_ret
                exact ⟨rfl, BF1.out.next BW2.out⟩
            · have hk1 : ¬ (q : Int) < 16 := by omega
              have HZ2 : Hid (∀ j, r2 ≤ j → j < 16 → sd.getD j 0 = 0) := Lib.hid fun j h1 h2 => HZ.out j h1 (by omega)
              have LA2 := Lib.hid (LA1.out.step BW2.out)
              have SR2 := Lib.hid (SR1.out.step BW2.out)
              have BF2 := Lib.hid (BF1.out.next BW2.out)
              clear HZ hlt hq1 hq2 LA SR HBW LA1 SR1 BF1 BW2 HRF1
              have HDMP := Lib.hid (tdump_any sh { D with C := C } wr LA2.out.dev HLL.out)
              have HCLN : Hid (({ D with C := C } : Dv).C.length = 64 * ({ D with C := C } : Dv).L.length) := Lib.hid (by show C.length = 64 * D.L.length; rw [RS.out.len, HLEN.out, HLL.out])
              go_wp2_with (go_at_call 13; (with_reducible refine HDMP.out.mono ?_); rintro e w3 ⟨⟨da, dc, rfl, hl⟩, b3⟩; have HDL := Lib.hid hl; have LA3 := Lib.hid (LA2.out.step b3); have SR3 := Lib.hid (SR2.out.step b3); have BF3 := Lib.hid (BF2.out.next b3); clear hl b3)
              have HRF3 : Hid (Below w3.heap.size w3 w3) := Lib.hid (Below.refl _ _)
              clear HDMP LA2 SR2 BF2
              go_loopw [128] (fun i w2 => ∃ q : Nat, q ≤ 16 ∧ i = .int .i64 q ∧ (∀ j c, j < q → c < 2 → sd.getD j 0 = 1 + c → isP (hp C 9 0 c j) = false) ∧ Below w3.heap.size w3 w2) (fun i _ => 16 - (intOf i).toNat)
              case atStart => exact ⟨0, Nat.zero_le _, rfl, fun j c h => absurd h (Nat.not_lt_zero _), HRF3.out⟩
              case round =>
                obtain ⟨q, hq2, rfl, hz, hb2⟩ := hrel
                have HZ := Lib.hid hz
                have BW2 := Lib.hid hb2
                clear hz hb2
                have hqI : (q : Int) ≤ 16 := by omega
                by_cases hlt : q < 16
                · have hk1 : (q : Int) < 16 := by omega
                  obtain ⟨sp, hsp⟩ : ∃ x, sd.getD q 0 = x := ⟨_, rfl⟩
                  have SRW := Lib.hid (SR3.out.step BW2.out)
                  have d9 : wr.cell? ⟨g, q, none⟩ = some (.int .i64 (sp : Int)) := by
                    rw [SRW.out.cell, nts_get _ _ (by rw [HSD.out]; exact hlt), hsp]
                  have hs2 : sp ≤ 2 := by rw [← hsp]; exact RS.out.two q hlt
                  by_cases h0 : sp = 0
                  · subst h0
                    have HSP := Lib.hid hsp
                    clear hsp
                    have d10 : wr.cell? ⟨g, q, none⟩ = some (.int .i64 0) := d9
                    clear d9
                    go_wp2
                    go_roundw
                    case rel => exact ⟨q + 1, by omega, by go_num, fun j c h1 h2 h3 => by
                      by_cases e : j = q
                      · rw [e, HSP.out] at h3; omega
                      · exact HZ.out j c (by omega) h2 h3, BW2.out⟩
                    case measure => simp [intOf]; omega
                  · have hne1 : ((sp : Int) == 0) = false := by rw [beq_eq_false_iff_ne]; omega
                    have hne2 : ¬ (sp : Int) = 0 := by omega
                    obtain ⟨c, hc⟩ : ∃ c, sp - 1 = c := ⟨_, rfl⟩
                    have hc2 : c < 2 := by omega
                    have ec : (sp : Int) - 1 = (c : Int) := by omega
                    have ecw : IntKind.i64.wrap (c : Int) = (c : Int) := by rw [IntKind.wrap_i64]; omega
                    have ecb : (c : Int) < 2 := by omega
                    have ecs : (sp : Int) ≤ 2 := by omega
                    have HSC : Hid (sd.getD q 0 = 1 + c) := Lib.hid (by omega)
                    obtain ⟨n1, hn1⟩ : ∃ x, 9 + c * 4 = x := ⟨_, rfl⟩
                    have HHF : Hid (∀ u, Calls Tryz.prog 10 #[GV, .int .i64 0, .int .i64 (c : Int)] u fun e w' => e = .returned (.tuple #[.int .i64 (n1 : Int), .int .i64 0]) ∧ Below u.heap.size u w') := Lib.hid fun u => by rw [← hn1]; exact HGH.out u c hc2
                    obtain ⟨q4, hq4⟩ : ∃ x, q / 4 = x := ⟨_, rfl⟩
                    obtain ⟨m4, hm4⟩ : ∃ x, q % 4 = x := ⟨_, rfl⟩
                    obtain ⟨ix, hix⟩ : ∃ x, n1 + q4 = x := ⟨_, rfl⟩
                    obtain ⟨lo, hlo⟩ : ∃ x, m4 * 16 = x := ⟨_, rfl⟩
                    obtain ⟨hi, hhi⟩ : ∃ x, lo + 16 = x := ⟨_, rfl⟩
                    have f1 : (q : Int) / 4 = (q4 : Int) := by omega
                    have f1t : (q : Int).tdiv 4 = (q4 : Int) := by rw [Int.tdiv_eq_ediv_of_nonneg (by omega)]; exact f1
                    have f2 : (q : Int) % 4 = (m4 : Int) := by omega
                    have f2t : (q : Int).tmod 4 = (m4 : Int) := by rw [Int.tmod_eq_emod_of_nonneg (by omega)]; exact f2
                    have f3 : (n1 : Int) + (q4 : Int) = (ix : Int) := by omega
                    have f4 : (m4 : Int) * 16 = (lo : Int) := by omega
                    have f5 : (lo : Int) + 16 = (hi : Int) := by omega
                    have g1 : (n1 : Int) ≤ 13 := by omega
                    have g2 : (q4 : Int) ≤ 3 := by omega
                    have g3 : (m4 : Int) ≤ 3 := by omega
                    have g4 : (lo : Int) ≤ 48 := by omega
                    have g5 : (hi : Int) ≤ 64 := by omega
                    have g6 : (ix : Int) ≤ 16 := by omega
                    have g7 : (lo : Int) ≤ (hi : Int) := by omega
                    have g8 : ¬ hi - lo = 0 := by omega
                    have hix27 : ix < 27 := by omega
                    obtain ⟨b3, of3, hda, hbb3, hcc3⟩ := HDL.out (by rw [strs_length]; simp [dmps])
                    obtain ⟨T, hT⟩ : ∃ T, str (dump { D with C := C } (ix : Int)) = T := ⟨_, rfl⟩
                    have HTC : Hid (∀ u, Below w3.heap.size w3 u → u.cell? ⟨b3, of3 + ix, none⟩ = some (.string T)) := Lib.hid fun u hu => (hu.cell (p := ⟨b3, of3 + ix, none⟩) hbb3).trans (hcc3 ix (.string T) (by rw [← hT]; simp [strs, dmps, hix27]))
                    have HTE : Hid (T.extract lo hi = str (hp C 9 0 c q)) := Lib.hid (by
                      have := lrot_page { D with C := C } c q hc2 hlt HLL.out HCLN.out
                      rw [← hT, ← hix, ← hn1, ← hq4, ← hhi, ← hlo, ← hm4]
                      exact this)
                    have HTS : Hid (T.size = 64) := Lib.hid (by
                      rw [← hT, str_size]
                      unfold dump sec
                      rw [if_pos ⟨by omega, by show (ix : Int) < (D.L.length : Int); rw [HLL.out]; omega⟩, List.length_take, List.length_drop, Int.toNat_natCast]
                      have h1 := HCLN.out
                      have h2 : D.L.length = 27 := HLL.out
                      show min 64 (C.length - ix * 64) = 64
                      have h3 : C.length = 64 * D.L.length := h1
                      omega)
                    have g9 : (hi : Int) ≤ (T.size : Int) := by have := HTS.out; omega
                    have HGET : Hid (∀ u, Calls Tryz.prog 14 #[.string (T.extract lo hi)] u fun e w' => e = .returned (.tuple #[.agg (getV (hp C 9 0 c q)).toArray, .bool (isP (hp C 9 0 c q))]) ∧ Below u.heap.size u w') := Lib.hid fun u => by
                      rw [HTE.out]
                      have := rref_get_any (str (hp C 9 0 c q)) u
                      rwa [str_list] at this
                    have HGL : Hid ((getV (hp C 9 0 c q)).length = 4 ∧ (getV (hp C 9 0 c q)).all (·.oneCell') = true) := Lib.hid (by unfold getV; split <;> exact ⟨rfl, rfl⟩)
                    subst hda
                    have C9 := Lib.hid d9
                    have HGLT : Hid (g < wr.heap.size) := Lib.hid SRW.out.lt
                    obtain ⟨gv, hgv⟩ : ∃ x, getV (hp C 9 0 c q) = x := ⟨_, rfl⟩
                    rw [hgv] at HGET HGL
                    obtain ⟨isb, hisb⟩ : ∃ x, isP (hp C 9 0 c q) = x := ⟨_, rfl⟩
                    rw [hisb] at HGET
                    have HISB := Lib.hid hisb
                    clear hsp hs2 hc hc2 hn1 hq4 hm4 hix hlo hhi hix27 hcc3 hbb3 hT hgv hisb
                    go_wp2
                    refine region_invX [(0, 136), (1, 137), (2, 138), (3, 139), (4, 140), (5, 141), (6, 135), (7, 142), (8, 143), (9, 22), (10, 23)]
                      (fun ii => [Is GV, Is (.int .i64 (q : Int)), Is (.pointer (some ⟨g, q, none⟩)), Is (.int .i64 (sp : Int)), Is (.int .i64 (c : Int)), Is (.tuple #[.int .i64 (n1 : Int), .int .i64 0]), Is (.tuple #[.int .i64 (n1 : Int), .int .i64 0]), Is (.int .i64 (n1 : Int)), Is (.int .i64 0), Is (.int .i64 (n1 : Int)), Is (.int .i64 0)].getD ii (Is undef))
                      (fun w' => Below wr.heap.size wr w') (by kernel_rfl) (by kernel_rfl) (by decide) (by decide) (by kernel_rfl) rfl ?monoq ((Below.refl _ _).drew) ?stepq ?finq
                    case monoq =>
                      intro i
                      match i with
                      | 0 | 1 | 2 | 3 | 4 | 5 | 6 | 7 | 8 | 9 | 10 => exact Is.monot _
                      | _ + 11 => exact Is.monot _
                    case stepq =>
                      refine List.forall_mem_cons.2 ⟨?qs0, List.forall_mem_cons.2 ⟨?qs1, List.forall_mem_cons.2 ⟨?qs2, List.forall_mem_cons.2 ⟨?qs3, List.forall_mem_cons.2 ⟨?qs4, List.forall_mem_cons.2 ⟨?qs5, List.forall_mem_cons.2 ⟨?qs6, List.forall_mem_cons.2 ⟨?qs7, List.forall_mem_cons.2 ⟨?qs8, List.forall_mem_cons.2 ⟨?qs9, List.forall_mem_cons.2 ⟨?qs10, List.forall_mem_nil _⟩⟩⟩⟩⟩⟩⟩⟩⟩⟩⟩
                      case qs0 =>
                        intro u wx hg hC
                        clear hC
                        refine wpOp_step rfl (fun K hK => ?_)
                        simp only [puts, List.foldl]
                        go_simp
                        refine (HG.out wx).mono ?_
                        rintro e w' ⟨rfl, hb'⟩
                        exact hK _ _ ⟨rfl, rfl, hg.next hb', hb'⟩
                      case qs1 =>
                        intro u wx hg hC
                        clear hC
                        refine wpOp_step rfl (fun K hK => ?_)
                        simp only [puts, List.foldl]
                        go_simp
                        exact hK _ _ ⟨rfl, rfl, hg, Below.refl _ _⟩
                      case qs2 =>
                        intro u wx hg hC
                        have hJ1 : u 1 = (.int .i64 (q : Int)) := hC.at 1 (by kernel_rfl)
                        clear hC
                        refine wpOp_step rfl (fun K hK => ?_)
                        simp only [puts, List.foldl]
                        go_simp
                        exact hK _ _ ⟨rfl, rfl, hg, Below.refl _ _⟩
                      case qs3 =>
                        intro u wx hg hC
                        have hJ2 : u 2 = (.pointer (some ⟨g, q, none⟩)) := hC.at 2 (by kernel_rfl)
                        clear hC
                        have hcl : wx.cell? ⟨g, q, none⟩ = some (.int .i64 (sp : Int)) := (hg.cell (p := ⟨g, q, none⟩) HGLT.out).trans C9.out
                        refine wpOp_step rfl (fun K hK => ?_)
                        simp only [puts, List.foldl]
                        go_simp
                        exact hK _ _ ⟨rfl, rfl, hg, Below.refl _ _⟩
                      case qs4 =>
                        intro u wx hg hC
                        have hJ3 : u 3 = (.int .i64 (sp : Int)) := hC.at 3 (by kernel_rfl)
                        clear hC
                        refine wpOp_step rfl (fun K hK => ?_)
                        simp only [puts, List.foldl]
                        go_simp
                        exact hK _ _ ⟨rfl, rfl, hg, Below.refl _ _⟩
                      case qs5 =>
                        intro u wx hg hC
                        have hJ0 : u 0 = GV := hC.at 0 (by kernel_rfl)
                        have hJ4 : u 4 = (.int .i64 (c : Int)) := hC.at 4 (by kernel_rfl)
                        clear hC
                        refine wpOp_step rfl (fun K hK => ?_)
                        simp only [puts, List.foldl]
                        go_simp
                        refine (HHF.out wx).mono ?_
                        rintro e w' ⟨rfl, hb'⟩
                        exact hK _ _ ⟨rfl, rfl, hg.next hb', hb'⟩
                      case qs6 =>
                        intro u wx hg hC
                        have hJ5 : u 5 = (.tuple #[.int .i64 (n1 : Int), .int .i64 0]) := hC.at 5 (by kernel_rfl)
                        clear hC
                        refine wpOp_step rfl (fun K hK => ?_)
                        simp only [puts, List.foldl]
                        go_simp
                        exact hK _ _ ⟨rfl, rfl, hg, Below.refl _ _⟩
                      case qs7 =>
                        intro u wx hg hC
                        have hJ6 : u 6 = (.tuple #[.int .i64 (n1 : Int), .int .i64 0]) := hC.at 6 (by kernel_rfl)
                        clear hC
                        refine wpOp_step rfl (fun K hK => ?_)
                        simp only [puts, List.foldl]
                        go_simp
                        exact hK _ _ ⟨rfl, rfl, hg, Below.refl _ _⟩
                      case qs8 =>
                        intro u wx hg hC
                        have hJ6 : u 6 = (.tuple #[.int .i64 (n1 : Int), .int .i64 0]) := hC.at 6 (by kernel_rfl)
                        clear hC
                        refine wpOp_step rfl (fun K hK => ?_)
                        simp only [puts, List.foldl]
                        go_simp
                        exact hK _ _ ⟨rfl, rfl, hg, Below.refl _ _⟩
                      case qs9 =>
                        intro u wx hg hC
                        have hJ7 : u 7 = (.int .i64 (n1 : Int)) := hC.at 7 (by kernel_rfl)
                        clear hC
                        refine wpOp_step rfl (fun K hK => ?_)
                        simp only [puts, List.foldl]
                        go_simp
                        exact hK _ _ ⟨rfl, rfl, hg, Below.refl _ _⟩
                      case qs10 =>
                        intro u wx hg hC
                        have hJ8 : u 8 = (.int .i64 0) := hC.at 8 (by kernel_rfl)
                        clear hC
                        refine wpOp_step rfl (fun K hK => ?_)
                        simp only [puts, List.foldl]
                        go_simp
                        exact hK _ _ ⟨rfl, rfl, hg, Below.refl _ _⟩
                    case finq =>
                      intro u ux hux hφ
                      have e22 : u 9 = .int .i64 (n1 : Int) := hφ (9, 22) (by decide)
                      have e23 : u 10 = .int .i64 0 := hφ (10, 23) (by decide)
                      clear hφ
                      have BX : Hid (Below w3.heap.size w3 ux) := Lib.hid (BW2.out.next hux)
                      have c8 := HTC.out ux BX.out
                      simp only [puts, List.foldl]
                      rw [e22, e23]
                      go_simp
                      clear hux e22 e23 HHF
                      cases isb with
                      | true =>
                        go_wp2_with (first
                          | (go_at_call 14; (with_reducible refine (HGET.out ux).mono ?_); rintro e v1 ⟨rfl, b1⟩; have BX1 := Lib.hid (BX.out.next b1); clear b1)
                          | ((with_reducible refine wpAllocK (w := v1) (rcv 0 0 0 0) 47 zero_rrec ?_ ?_); rfl; intro v2 r2 b2 s2; have G2 := Lib.hid r2; have BX2 := Lib.hid (BX1.out.next b2); have BY2 := Lib.hid b2; clear r2 b2 s2)
                          | ((with_reducible refine G2.out.wpStoreK 47 gv fits_rrec rfl HGL.out.1 HGL.out.2 ?_ ?_); rfl; intro v3 r3 o3 s3; have BX3 : Hid (Below w3.heap.size w3 v3) := Lib.hid (BX2.out.trans (o3.below BX1.out.size (Nat.le_trans BX1.out.size BY2.out.size))); clear r3 o3 s3))
                        go_ret
                        exact ⟨rfl, BF3.out.next BX3.out⟩
                      | false =>
                        go_wp2_with (first
                          | (go_at_call 14; (with_reducible refine (HGET.out ux).mono ?_); rintro e v1 ⟨rfl, b1⟩; have BX1 := Lib.hid (BX.out.next b1); clear b1)
                          | ((with_reducible refine wpAllocK (w := v1) (rcv 0 0 0 0) 47 zero_rrec ?_ ?_); rfl; intro v2 r2 b2 s2; have G2 := Lib.hid r2; have BX2 := Lib.hid (BX1.out.next b2); have BY2 := Lib.hid b2; clear r2 b2 s2)
                          | ((with_reducible refine G2.out.wpStoreK 47 gv fits_rrec rfl HGL.out.1 HGL.out.2 ?_ ?_); rfl; intro v3 r3 o3 s3; have BX3 : Hid (Below w3.heap.size w3 v3) := Lib.hid (BX2.out.trans (o3.below BX1.out.size (Nat.le_trans BX1.out.size BY2.out.size))); clear r3 o3 s3))
                        go_roundw
                        case rel => exact ⟨q + 1, by omega, by go_num, fun j c' h1 h2 h3 => by
                          by_cases e : j = q
                          · subst e
                            have : c' = c := by have := HSC.out; omega
                            rw [this]; exact HISB.out
                          · exact HZ.out j c' (by omega) h2 h3, BX3.out⟩
                        case measure => simp [intOf]; omega
                · have hk1 : ¬ (q : Int) < 16 := by omega
                  have HZ4 : Hid (∀ j c, j < 16 → c < 2 → sd.getD j 0 = 1 + c → isP (hp C 9 0 c j) = false) := Lib.hid fun j c h1 h2 h3 => HZ.out j c (by omega) h2 h3
                  have LA4 := Lib.hid (LA3.out.step BW2.out)
                  have BF4 := Lib.hid (BF3.out.next BW2.out)
                  have HOP2 : Hid (∀ u, LogAt w.heap.size u ⟨lb, tb, sh, G1⟩ { D with C := C } (stV 0 1 (bares base) later) sl → w.heap.size ≤ u.heap.size → Calls Tryz.prog 15 #[.pointer (some ⟨sh.b, 0, none⟩), GV] u fun e w' => Onl sh.S u w' ∧ ∃ l tb sl cl, e = .returned (.tuple #[.pointer (some ⟨l, 0, none⟩), .int .i64 0]) ∧ LogAt w.heap.size w' ⟨l, tb, sh, G1⟩ { D with C := C } ⟨0, 1, bares (bares base ++ later), (bares base).length + later.length + 2, cl⟩ sl) := Lib.hid fun u h1 h2 => HOP.out u sh D C later sd h1.dev HLL.out HST.out RS.out (fun p h3 h4 => HZ2.out p (by rw [HLN2.out] at h3; exact h3) h4) HZ4.out HS3.out h2
                  have HPL : Hid (∀ (u : World) (p : Option Addr) (cap : Nat), Lies u u.heap.size p (rcs (bares (bares base ++ later))) → Calls Tryz.prog 17 #[.slice p r cap] u fun e w' => (∃ q c2, e = .returned (.slice q r c2) ∧ Lies w' w'.heap.size q (rcs (bares (bares (bares base ++ later))))) ∧ Below u.heap.size u w') := Lib.hid fun u p cap h => lrot_plain p cap _ r HRL.out HR10.out h
                  have HSM : Hid (∀ (u : World) (p q : Option Addr) (c1 c2 : Nat), Lies u u.heap.size p (rcs (bares (bares (bares base ++ later)))) → Lies u u.heap.size q (rcs (bares (bares (bares base ++ later)))) → Calls Tryz.prog 16 #[.slice p r c1, .slice q r c2] u fun e w' => e = .returned (.bool true) ∧ Below u.heap.size u w') := Lib.hid fun u p q c1 c2 h1 h2 => lrot_same p q c1 c2 _ r (by rw [bares_length]; exact HRL.out) HR10.out h1 h2
                  have HGN : Hid (∀ (u : World) (l tbx : Nat) (V : LV) (slx : Value), V.gen = 1 → LogAt w.heap.size u ⟨l, tbx, sh, G1⟩ { D with C := C } V slx → Calls Tryz.prog 18 #[.pointer (some ⟨l, 0, none⟩)] u fun e w' => e = .returned (.int .i64 1) ∧ u = w') := Lib.hid fun u l tbx V slx hV h => by have := log_gen_any h; rwa [hV] at this
                  clear HZ hlt hq2 LA3 SR3 BF3 BW2 HRF3 HDL HOP
                  go_wp2_with (first
                    | (go_at_call 8; (with_reducible refine (HG.out wr).mono ?_); rintro e y1 ⟨rfl, b1⟩; have L1 := Lib.hid (LA4.out.step b1); have F1 := Lib.hid (BF4.out.next b1); clear b1)
                    | (go_at_call 15; (with_reducible refine (HOP2.out y1 L1.out F1.out.size).mono ?_); rintro e y2 ⟨o2, l2, tb2, sl2, cl2, rfl, h2⟩; have Y2 := Lib.hid h2; have X2 := Lib.hid (L1.out.go o2 h2.dev rfl); have F2 : Hid (Below w.heap.size w y2) := Lib.hid (F1.out.trans (o2.below HS3.out F1.out.size)); clear o2 h2)
                    | (go_at_call 12; (with_reducible refine (HALX.out y2 l2 tb2 _ sl2 rfl Y2.out).mono ?_); rintro e y3 ⟨⟨p3, c3, rfl, hl⟩, b3⟩; have LL3 := Lib.hid hl; have Y3 := Lib.hid (Y2.out.step b3); have X3 := Lib.hid (X2.out.step b3); have F3 := Lib.hid (F2.out.next b3); clear hl b3)
                    | (go_at_call 17; (with_reducible refine (HPL.out y3 p3 c3 LL3.out).mono ?_); rintro e y4 ⟨⟨p4, c4, rfl, hl⟩, b4⟩; have LL4 := Lib.hid hl; have Y4 := Lib.hid (Y3.out.step b4); have X4 := Lib.hid (X3.out.step b4); have F4 := Lib.hid (F3.out.next b4); clear hl b4)
                    | (go_at_call 12; (with_reducible refine (HALX.out y4 lb tb _ sl rfl X4.out).mono ?_); rintro e y5 ⟨⟨p5, c5, rfl, hl⟩, b5⟩; have LL5 := Lib.hid hl; have LL45 := Lib.hid (LL4.out.step b5); have Y5 := Lib.hid (Y4.out.step b5); have F5 := Lib.hid (F4.out.next b5); clear hl b5)
                    | (go_at_call 17; (with_reducible refine (HPL.out y5 p5 c5 LL5.out).mono ?_); rintro e y6 ⟨⟨p6, c6, rfl, hl⟩, b6⟩; have LL6 := Lib.hid hl; have LL46 := Lib.hid (LL45.out.step b6); have Y6 := Lib.hid (Y5.out.step b6); have F6 := Lib.hid (F5.out.next b6); clear hl b6)
                    | (go_at_call 16; (with_reducible refine (HSM.out y6 p4 p6 c4 c6 LL46.out LL6.out).mono ?_); rintro e y7 ⟨rfl, b7⟩; have Y7 := Lib.hid (Y6.out.step b7); have F7 := Lib.hid (F6.out.next b7); clear b7)
                    | (go_at_call 18; (with_reducible refine (HGN.out y7 l2 tb2 _ sl2 rfl Y7.out).mono ?_); rintro e _ ⟨rfl, rfl⟩))
                  go_ret
                  exact ⟨rfl, F7.out⟩
end Go.Proofs.YtbnjenbhpaknbaaGreat
