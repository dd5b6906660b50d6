/- The texts LogK, InvZ, LogM, LogN, LogO, LogP, LogS, GeoF, GeoH, GeoMath3, GeoI, Geo1, LogR, LogT, LogRa, LogU, LogX, LogZ, LogY, LogOrd, Reads, GeoR, RecR, LogRd, LogRb, LogRc, one behind the other. -/
import Derived.Deep.MidRow
import Derived.Test.YtbnjenbhpaknbaaGreatB4
/- Erasing a half, laying a page, filling a half; does a page fit? (gen_log_k.py). -/
namespace Go.Proofs.YtbnjenbhpaknbaaGreat
open Go.RowKit CrcMath NumMath FlaMath GeoMath
set_option linter.unusedVariables false
set_option maxRecDepth 100000

section
variable {B : Nat} {w w' : World} {A : LogD} {D : Dv} {V : LV} {sl : Value}
theorem LogAt.run (h : LogAt B w A D V sl) (o : List Fop) (ho : Onl A.sh.S w w') (hd : Dvx w' A.sh (runD o D)) : LogAt B w' A (runD o D) V sl := h.go ho hd (by rw [runE_other])
end
theorem dvx_erase1 (s : Sh) (D : Dv) (i : Nat) (w : World) (h : Dvx w s D) :
    Calls Tryz.prog 51 #[.pointer (some ⟨s.b, 0, none⟩), .int .i64 (i : Int)] w fun e w' => e = .returned (.int .i64 (runE [((i : Int), none)] D)) ∧ Dvx w' s (runD [((i : Int), none)] D) ∧ Onl s.S w w' := by
  rw [runE_one, runD_one]
  exact dvx_erase s D i w h
theorem dvx_program1 (s : Sh) (D : Dv) (x : Nat) (P : List UInt8) (w : World) (h : Dvx w s D) (hx : x < 1000000) (hp : P.length = 16) :
    Calls Tryz.prog 60 #[.pointer (some ⟨s.b, 0, none⟩), .int .i64 (x : Int), .string (str P)] w fun e w' => e = .returned (.int .i64 (runE [((x : Int), some P)] D)) ∧ Dvx w' s (runD [((x : Int), some P)] D) ∧ Onl s.S w w' := by
  rw [runE_one, runD_one]
  have := dvx_program s D x (str P) w h (by omega) (by rw [str_size]; omega)
  rwa [str_list] at this

set_option maxHeartbeats 1000000 in
theorem log_wipe_any {B : Nat} {w : World} {A : LogD} {D : Dv} {V : LV} {sl : Value} (h : LogAt B w A D V sl) (a : Nat) (ha : a < 2) :
    Calls Tryz.prog 25 #[.pointer (some ⟨A.l, 0, none⟩), .int .i64 (a : Int)] w fun e w' => e = .returned (.int .i64 (runE (wipeF A.L a) D)) ∧ LogAt B w' A (runD (wipeF A.L a) D) V sl ∧ Onl A.sh.S w w' := by
  obtain ⟨hL, hL2⟩ := h.isL
  have HHF : Hid (∀ (u : World) (c : Nat), c < 2 → Calls Tryz.prog 10 #[geoV A.g, .int .i64 (a : Int), .int .i64 (c : Int)] u fun e w' => e = .returned (.tuple #[.int .i64 ((A.L + a * 8 + c * 4 : Nat) : Int), .int .i64 0]) ∧ Below u.heap.size u w') := Lib.hid fun u c hc => by
    have hq : halfQ A.g (a : Int) (c : Int) = 0 := by
      unfold halfQ askF
      rw [if_pos h.geo, if_pos ((okAll2 _ _).2 ⟨⟨by simp, by simp; omega⟩, by simp, by simp; omega⟩)]
    have hh : half A.g (a : Int) (c : Int) = ((A.L + a * 8 + c * 4 : Nat) : Int) := by
      unfold half
      rw [if_pos hq, hL]
      omega
    have := half_any A.g (a : Int) (c : Int) u
    rwa [hq, hh] at this
  have HER : Hid (∀ (u : World) (o : List Fop) (i : Nat), LogAt B u A (runD o D) V sl → Calls Tryz.prog 51 #[.pointer (some ⟨A.sh.b, 0, none⟩), .int .i64 (i : Int)] u fun e w' => e = .returned (.int .i64 (runE [((i : Int), none)] (runD o D))) ∧ LogAt B w' A (runD [((i : Int), none)] (runD o D)) V sl ∧ Onl A.sh.S u w') := Lib.hid fun u o i hu => (dvx_erase1 A.sh _ i u hu.dev).mono fun e w' ⟨h1, h2, h3⟩ => ⟨h1, hu.run _ h3 h2, h3⟩
  have HC : Hid (∀ (u : World) (o : List Fop), LogAt B u A (runD o D) V sl → u.cell? ⟨A.l, 0, none⟩ = some (.pointer (some ⟨A.sh.b, 0, none⟩)) ∧ u.rangeAt A.l 6 [.int .i64 A.g.d, .int .i64 A.g.p, .int .i64 A.g.s]) := Lib.hid fun u o hu => ⟨hu.c0, hu.cg⟩
  have HST : Hid (∀ (u u' : World) (o : List Fop), LogAt B u A (runD o D) V sl → Below u.heap.size u u' → LogAt B u' A (runD o D) V sl) := Lib.hid fun u u' o h1 h2 => h1.step h2
  have H0 : Hid (LogAt B w A (runD (seqF 0 (eraOp A.L a)) D) V sl) := Lib.hid h
  have hLI : (A.L : Int) ≤ 336 := by omega
  have HL3 : Hid (A.L ≤ 336) := Lib.hid hL2
  have haI : (a : Int) < 2 := by omega
  unfold wipeF
  clear h hL
  generalize A.L = L at *
  obtain ⟨f, hf⟩ : ∃ f, eraOp L a = f := ⟨_, rfl⟩
  have HF : Hid (∀ j, f j = [(((L + a * 8 + j : Nat) : Int), none)]) := Lib.hid fun j => by rw [← hf]; rfl
  rw [hf] at H0 ⊢
  clear hf
  obtain ⟨l, tb, sh, g⟩ := A
  obtain ⟨gd, gp, gs⟩ := g
  dsimp only [geoV] at HHF HER HC HST H0 ⊢
  obtain ⟨d, hd⟩ : ∃ d, sh.b = d := ⟨_, rfl⟩
  rw [hd] at HC HER
  clear hd hL2
  go_enter Tryz.func25, Tryz.ntmps25
  go_wp2
  go_loopw [10] (fun i wr => ∃ c : Nat, c ≤ 2 ∧ i = .int .i64 c ∧ runE (seqF (c * 4) f) D = 0 ∧ LogAt B wr ⟨l, tb, sh, ⟨gd, gp, gs⟩⟩ (runD (seqF (c * 4) f) D) V sl ∧ Onl sh.S w wr) (fun i _ => 2 - (intOf i).toNat)
  case atStart => exact ⟨0, Nat.zero_le _, rfl, rfl, H0.out, Onl.refl _ _⟩
  case round =>
    clear H0
    obtain ⟨c, hc, rfl, hrz, hla, hon⟩ := hrel
    have HRZ := Lib.hid hrz
    have LA := Lib.hid hla
    have ON := Lib.hid hon
    clear hrz hla hon
    by_cases hlt : c < 2
    · have hk1 : (c : Int) < 2 := by omega
      have HHC := Lib.hid (HHF.out wr c hlt)
      have CG := Lib.hid (HC.out wr _ LA.out).2
      obtain ⟨first, hfirst⟩ : ∃ q, L + a * 8 + c * 4 = q := ⟨_, rfl⟩
      rw [hfirst] at HHC
      have hfI : (first : Int) ≤ 400 := by omega
      have HFS := Lib.hid hfirst
      go_wp2_with (first
        | ((with_reducible refine wpLoadRK CG.out 33 fits_geo rfl ?_ ?_); rfl)
        | (go_at_call 10; (with_reducible refine HHC.out.mono ?_); rintro e u1 ⟨rfl, b1⟩; have LA1 := Lib.hid (HST.out _ _ _ LA.out b1); have ON1 := Lib.hid (ON.out.step b1); clear b1))
      go_loopw [23] (fun i wr => ∃ n : Nat, n ≤ 4 ∧ i = .int .i64 n ∧ runE (seqF (c * 4 + n) f) D = 0 ∧ LogAt B wr ⟨l, tb, sh, ⟨gd, gp, gs⟩⟩ (runD (seqF (c * 4 + n) f) D) V sl ∧ Onl sh.S w wr) (fun i _ => 4 - (intOf i).toNat)
      case atStart => exact ⟨0, Nat.zero_le _, rfl, HRZ.out, LA1.out, ON1.out⟩
      case round =>
        clear LA1 ON1 LA ON HRZ CG HHC
        obtain ⟨n, hn, rfl, hrz, hla, hon⟩ := hrel
        have HRZ := Lib.hid hrz
        have LA := Lib.hid hla
        have ON := Lib.hid hon
        clear hrz hla hon
        by_cases hlt2 : n < 4
        · have hk2 : (n : Int) < 4 := by omega
          have c0 := (HC.out wr _ LA.out).1
          obtain ⟨q, hq⟩ : ∃ q, first + n = q := ⟨_, rfl⟩
          have hqI : (first : Int) + (n : Int) = (q : Int) := by omega
          have hqB : IntKind.i64.wrap (q : Int) = (q : Int) := by rw [IntKind.wrap_i64]; omega
          have HEQ := Lib.hid (HER.out wr _ q LA.out)
          have HFJ : Hid (f (c * 4 + n) = [((q : Int), none)]) := Lib.hid (by rw [HF.out, ← hq, ← HFS.out]; congr 2; omega)
          have HGO : Hid (runE [((q : Int), none)] (runD (seqF (c * 4 + n) f) D) = 0 → runE (seqF (c * 4 + (n + 1)) f) D = 0 ∧ runD (seqF (c * 4 + (n + 1)) f) D = runD [((q : Int), none)] (runD (seqF (c * 4 + n) f) D)) := Lib.hid fun h => by
            rw [← HFJ.out] at h ⊢
            exact seq_go (n := 8) HRZ.out h
          have HSTOP : Hid (runE [((q : Int), none)] (runD (seqF (c * 4 + n) f) D) ≠ 0 → runE (seqF 8 f) D = runE [((q : Int), none)] (runD (seqF (c * 4 + n) f) D) ∧ runD (seqF 8 f) D = runD [((q : Int), none)] (runD (seqF (c * 4 + n) f) D)) := Lib.hid fun h => by
            rw [← HFJ.out] at h ⊢
            exact seq_stop (n := 8) (i := c * 4 + n) (by omega) HRZ.out h
          generalize runE [((q : Int), none)] (runD (seqF (c * 4 + n) f) D) = E at *
          generalize runD [((q : Int), none)] (runD (seqF (c * 4 + n) f) D) = DN at *
          clear hq HFJ HC
          by_cases hez : E = 0
          · have HGO2 := Lib.hid (HGO.out hez)
            subst hez
            clear HGO HSTOP
            go_wp2_with (go_at_call 51; (with_reducible refine HEQ.out.mono ?_); rintro e u2 ⟨rfl, l2, o2⟩; have L2 := Lib.hid l2; have O2 := Lib.hid (ON.out.trans o2); clear l2 o2)
            go_roundw
            case rel => exact ⟨n + 1, by omega, by go_num, HGO2.out.1, by rw [HGO2.out.2]; exact L2.out, O2.out⟩
            case measure => simp [intOf]; omega
          · have hne1 : (E != 0) = true := bne_iff_ne.2 hez
            have HST2 := Lib.hid (HSTOP.out hez)
            clear HGO HSTOP hez
            go_wp2_with (go_at_call 51; (with_reducible refine HEQ.out.mono ?_); rintro e u2 ⟨rfl, l2, o2⟩; have L2 := Lib.hid l2; have O2 := Lib.hid (ON.out.trans o2); clear l2 o2)
            go_ret
            exact ⟨ret_int HST2.out.1.symm, by rw [HST2.out.2]; exact L2.out, O2.out⟩
        · have hne : n = 4 := by omega
          have hk2 : ¬ (n : Int) < 4 := by omega
          have HNE := Lib.hid hne
          clear hne
          go_wp2
          go_roundw
          case rel =>
            have e4 : c * 4 + n = (c + 1) * 4 := by have := HNE.out; omega
            exact ⟨c + 1, by omega, by go_num, by rw [← e4]; exact HRZ.out, by rw [← e4]; exact LA.out, ON.out⟩
          case measure => simp [intOf]; omega
    · have hce : c = 2 := by omega
      have hk1 : ¬ (c : Int) < 2 := by omega
      have HCE := Lib.hid hce
      clear hce
      go_wp2
      go_ret
      have e8 : c * 4 = 8 := by have := HCE.out; omega
      have h1 := HRZ.out
      have h2 := LA.out
      rw [e8] at h1 h2
      exact ⟨ret_int h1.symm, h2, ON.out⟩

set_option maxHeartbeats 1000000 in
theorem log_lay_any {B : Nat} {w : World} {A : LogD} {D : Dv} {V : LV} {sl : Value} (h : LogAt B w A D V sl) (a n : Nat) (ha : a < 2) (hn : n ≤ 16) (P : List UInt8) (hP : P.length = 16) :
    Calls Tryz.prog 32 #[.pointer (some ⟨A.l, 0, none⟩), .int .i64 (a : Int), .int .i64 (n : Int), .string (str P)] w fun e w' => e = .returned (.int .i64 (runE (layP A.L a n P) D)) ∧ LogAt B w' A (runD (layP A.L a n P) D) V sl ∧ Onl A.sh.S w w' := by
  obtain ⟨hL, hL2⟩ := h.isL
  have HAT : Hid (∀ (u : World) (o : List Fop) (c : Nat), c < 2 → LogAt B u A (runD o D) V sl → Calls Tryz.prog 57 #[.pointer (some ⟨A.l, 0, none⟩), .int .i64 (a : Int), .int .i64 (c : Int), .int .i64 (n : Int)] u fun e u' => e = .returned (.int .i64 ((atF A.L a c + 16 * n : Nat) : Int)) ∧ Below u.heap.size u u') := Lib.hid fun u o c hc hu => log_at_any hu a c n ha hc hn
  have HPG : Hid (∀ (u : World) (o : List Fop) (c : Nat), c < 2 → LogAt B u A (runD o D) V sl → Calls Tryz.prog 60 #[.pointer (some ⟨A.sh.b, 0, none⟩), .int .i64 ((atF A.L a c + 16 * n : Nat) : Int), .string (str P)] u fun e w' => e = .returned (.int .i64 (runE (layOp A.L a n P c) (runD o D))) ∧ LogAt B w' A (runD (layOp A.L a n P c) (runD o D)) V sl ∧ Onl A.sh.S u w') := Lib.hid fun u o c hc hu =>
    (dvx_program1 A.sh _ _ P u hu.dev (by unfold atF; omega) hP).mono fun e w' ⟨h1, h2, h3⟩ => ⟨h1, hu.run _ h3 h2, h3⟩
  have HC : Hid (∀ (u : World) (o : List Fop), LogAt B u A (runD o D) V sl → u.cell? ⟨A.l, 0, none⟩ = some (.pointer (some ⟨A.sh.b, 0, none⟩)) ∧ A.l < u.heap.size) := Lib.hid fun u o hu => ⟨hu.c0, hu.lt⟩
  have HST : Hid (∀ (u u' : World) (o : List Fop), LogAt B u A (runD o D) V sl → Below u.heap.size u u' → LogAt B u' A (runD o D) V sl) := Lib.hid fun u u' o h1 h2 => h1.step h2
  have H0 : Hid (LogAt B w A (runD (seqF 0 (layOp A.L a n P)) D) V sl) := Lib.hid h
  unfold layP
  obtain ⟨f, hf⟩ : ∃ f, layOp A.L a n P = f := ⟨_, rfl⟩
  rw [hf] at H0 HPG ⊢
  obtain ⟨S, hS⟩ : ∃ S, str P = S := ⟨_, rfl⟩
  rw [hS] at HPG ⊢
  obtain ⟨l, tb, sh, g⟩ := A
  dsimp only at HC HST H0 HPG ⊢
  obtain ⟨d, hd⟩ : ∃ d, sh.b = d := ⟨_, rfl⟩
  rw [hd] at HC HPG
  have haI : (a : Int) < 2 := by omega
  have hnI : (n : Int) ≤ 16 := by omega
  clear hd hL2 hL h hf hS hP
  go_enter Tryz.func32, Tryz.ntmps32
  go_wp2
  go_loopw [11] (fun i wr => ∃ c : Nat, c ≤ 2 ∧ i = .int .i64 c ∧ runE (seqF c f) D = 0 ∧ LogAt B wr ⟨l, tb, sh, g⟩ (runD (seqF c f) D) V sl ∧ Onl sh.S w wr) (fun i _ => 2 - (intOf i).toNat)
  case atStart => exact ⟨0, Nat.zero_le _, rfl, rfl, H0.out, Onl.refl _ _⟩
  case round =>
    clear H0
    obtain ⟨c, hc, rfl, hrz, hla, hon⟩ := hrel
    have HRZ := Lib.hid hrz
    have LA := Lib.hid hla
    have ON := Lib.hid hon
    clear hrz hla hon
    by_cases hlt : c < 2
    · have hk1 : (c : Int) < 2 := by omega
      have C03 := Lib.hid (HC.out wr _ LA.out).1
      have HLX := Lib.hid (HC.out wr _ LA.out).2
      obtain ⟨q, hq⟩ : ∃ q, atF (⟨l, tb, sh, g⟩ : LogD).L a c + 16 * n = q := ⟨_, rfl⟩
      have HATC : Hid (∀ u, Below wr.heap.size wr u → Calls Tryz.prog 57 #[.pointer (some ⟨l, 0, none⟩), .int .i64 (a : Int), .int .i64 (c : Int), .int .i64 (n : Int)] u fun e u' => e = .returned (.int .i64 (q : Int)) ∧ Below u.heap.size u u') := Lib.hid fun u hu => by rw [← hq]; exact HAT.out u _ c hlt (HST.out _ _ _ LA.out hu)
      have HPGC : Hid (∀ u, Below wr.heap.size wr u → Calls Tryz.prog 60 #[.pointer (some ⟨d, 0, none⟩), .int .i64 (q : Int), .string S] u fun e w' => e = .returned (.int .i64 (runE (f c) (runD (seqF c f) D))) ∧ LogAt B w' ⟨l, tb, sh, g⟩ (runD (f c) (runD (seqF c f) D)) V sl ∧ Onl sh.S u w') := Lib.hid fun u hu => by rw [← hq]; exact HPG.out u _ c hlt (HST.out _ _ _ LA.out hu)
      have HGO : Hid (runE (f c) (runD (seqF c f) D) = 0 → runE (seqF (c + 1) f) D = 0 ∧ runD (seqF (c + 1) f) D = runD (f c) (runD (seqF c f) D)) := Lib.hid fun h => seq_go (n := 2) HRZ.out h
      have HSTOP : Hid (runE (f c) (runD (seqF c f) D) ≠ 0 → runE (seqF 2 f) D = runE (f c) (runD (seqF c f) D) ∧ runD (seqF 2 f) D = runD (f c) (runD (seqF c f) D)) := Lib.hid fun h => seq_stop (n := 2) hlt HRZ.out h
      generalize runE (f c) (runD (seqF c f) D) = E at *
      generalize runD (f c) (runD (seqF c f) D) = DN at *
      clear hq HAT HPG HC
      go_wp2
      refine region_tail 10 [(0, 14), (1, 15), (2, 16), (3, 17), (4, 18), (5, 19), (6, 20), (7, 21), (8, 22), (9, 23)]
        (fun ii => [Is (.pointer (some ⟨l, 0, none⟩)), Is (.pointer (some ⟨l, 0, none⟩)), Is (.pointer (some ⟨l, 0, none⟩)), Is (.pointer (some ⟨d, 0, none⟩)), Is (.pointer (some ⟨l, 0, none⟩)), Is (.int .i64 (a : Int)), Is (.int .i64 (c : Int)), Is (.int .i64 (n : Int)), Is (.int .i64 (q : Int)), Is (.string S)].getD ii (Is undef))
        (fun w' => Below wr.heap.size wr w') (by kernel_rfl) (by decide) (by kernel_rfl) (by kernel_rfl) (by kernel_rfl) (by decide) (by decide) (by kernel_rfl) rfl ?monoq ((Below.refl _ _).drew) ?stepq ?finq
      case monoq =>
        intro i
        match i with
        | 0 | 1 | 2 | 3 | 4 | 5 | 6 | 7 | 8 | 9 => exact Is.monot _
        | _ + 10 => exact Is.monot _
      case stepq =>
        refine List.forall_mem_cons.2 ⟨?qs0, List.forall_mem_cons.2 ⟨?qs1, List.forall_mem_cons.2 ⟨?qs2, List.forall_mem_cons.2 ⟨?qs3, List.forall_mem_cons.2 ⟨?qs4, List.forall_mem_cons.2 ⟨?qs5, List.forall_mem_cons.2 ⟨?qs6, List.forall_mem_cons.2 ⟨?qs7, List.forall_mem_cons.2 ⟨?qs8, List.forall_mem_cons.2 ⟨?qs9, List.forall_mem_nil _⟩⟩⟩⟩⟩⟩⟩⟩⟩⟩
        case qs0 =>
          intro u wx hg hC
          clear hC
          refine wpOp_step rfl (fun K hK => ?_)
          simp only [puts, List.foldl]
          go_simp
          exact hK _ _ ⟨rfl, rfl, hg, Below.refl _ _⟩
        case qs1 =>
          intro u wx hg hC
          have hJ0 : u 0 = (.pointer (some ⟨l, 0, none⟩)) := hC.at 0 (by kernel_rfl)
          clear hC
          refine wpOp_step rfl (fun K hK => ?_)
          simp only [puts, List.foldl]
          go_simp
          exact hK _ _ ⟨rfl, rfl, hg, Below.refl _ _⟩
        case qs2 =>
          intro u wx hg hC
          have hJ1 : u 1 = (.pointer (some ⟨l, 0, none⟩)) := hC.at 1 (by kernel_rfl)
          clear hC
          refine wpOp_step rfl (fun K hK => ?_)
          simp only [puts, List.foldl]
          go_simp
          exact hK _ _ ⟨rfl, rfl, hg, Below.refl _ _⟩
        case qs3 =>
          intro u wx hg hC
          have hJ2 : u 2 = (.pointer (some ⟨l, 0, none⟩)) := hC.at 2 (by kernel_rfl)
          clear hC
          have hcl : wx.cell? ⟨l, 0, none⟩ = some (.pointer (some ⟨d, 0, none⟩)) := (hg.cell (p := ⟨l, 0, none⟩) HLX.out).trans C03.out
          refine wpOp_step rfl (fun K hK => ?_)
          simp only [puts, List.foldl]
          go_simp
          exact hK _ _ ⟨rfl, rfl, hg, Below.refl _ _⟩
        case qs4 =>
          intro u wx hg hC
          clear hC
          refine wpOp_step rfl (fun K hK => ?_)
          simp only [puts, List.foldl]
          go_simp
          exact hK _ _ ⟨rfl, rfl, hg, Below.refl _ _⟩
        case qs5 =>
          intro u wx hg hC
          clear hC
          refine wpOp_step rfl (fun K hK => ?_)
          simp only [puts, List.foldl]
          go_simp
          exact hK _ _ ⟨rfl, rfl, hg, Below.refl _ _⟩
        case qs6 =>
          intro u wx hg hC
          clear hC
          refine wpOp_step rfl (fun K hK => ?_)
          simp only [puts, List.foldl]
          go_simp
          exact hK _ _ ⟨rfl, rfl, hg, Below.refl _ _⟩
        case qs7 =>
          intro u wx hg hC
          clear hC
          refine wpOp_step rfl (fun K hK => ?_)
          simp only [puts, List.foldl]
          go_simp
          exact hK _ _ ⟨rfl, rfl, hg, Below.refl _ _⟩
        case qs8 =>
          intro u wx hg hC
          have hJ4 : u 4 = (.pointer (some ⟨l, 0, none⟩)) := hC.at 4 (by kernel_rfl)
          have hJ5 : u 5 = (.int .i64 (a : Int)) := hC.at 5 (by kernel_rfl)
          have hJ6 : u 6 = (.int .i64 (c : Int)) := hC.at 6 (by kernel_rfl)
          have hJ7 : u 7 = (.int .i64 (n : Int)) := hC.at 7 (by kernel_rfl)
          clear hC
          refine wpOp_step rfl (fun K hK => ?_)
          simp only [puts, List.foldl]
          go_simp
          refine (HATC.out wx hg).mono ?_
          rintro e w' ⟨rfl, hb'⟩
          exact hK _ _ ⟨rfl, rfl, hg.next hb', hb'⟩
        case qs9 =>
          intro u wx hg hC
          clear hC
          refine wpOp_step rfl (fun K hK => ?_)
          simp only [puts, List.foldl]
          go_simp
          exact hK _ _ ⟨rfl, rfl, hg, Below.refl _ _⟩
      case finq =>
        intro u x4 hb4 hφ
        have e17 : u 3 = .pointer (some ⟨d, 0, none⟩) := hφ (3, 17) (by decide)
        have e22 : u 8 = .int .i64 (q : Int) := hφ (8, 22) (by decide)
        have e23 : u 9 = .string S := hφ (9, 23) (by decide)
        clear hφ
        simp only [puts, List.foldl]
        rw [e17, e22, e23]
        go_simp
        have HPU := Lib.hid (HPGC.out x4 hb4)
        have O4 := Lib.hid (ON.out.step hb4)
        clear hb4 e17 e22 e23
        by_cases hez : E = 0
        · have HGO2 := Lib.hid (HGO.out hez)
          subst hez
          clear HGO HSTOP
          go_wp2_with (go_at_call 60; (with_reducible refine HPU.out.mono ?_); rintro e u2 ⟨rfl, l2, o2⟩; have L2 := Lib.hid l2; have O2 := Lib.hid (O4.out.trans o2); clear l2 o2)
          go_roundw
          case rel => exact ⟨c + 1, by omega, by go_num, HGO2.out.1, by rw [HGO2.out.2]; exact L2.out, O2.out⟩
          case measure => simp [intOf]; omega
        · have hne1 : (E != 0) = true := bne_iff_ne.2 hez
          have HST2 := Lib.hid (HSTOP.out hez)
          clear HGO HSTOP hez
          go_wp2_with (go_at_call 60; (with_reducible refine HPU.out.mono ?_); rintro e u2 ⟨rfl, l2, o2⟩; have L2 := Lib.hid l2; have O2 := Lib.hid (O4.out.trans o2); clear l2 o2)
          go_ret
          exact ⟨ret_int HST2.out.1.symm, by rw [HST2.out.2]; exact L2.out, O2.out⟩
    · have hce : c = 2 := by omega
      have hk1 : ¬ (c : Int) < 2 := by omega
      have HCE := Lib.hid hce
      clear hce
      go_wp2
      go_ret
      have h1 := HRZ.out
      have h2 := LA.out
      rw [HCE.out] at h1 h2
      exact ⟨ret_int h1.symm, h2, ON.out⟩

/-- Where both copies' next pages are blank the page fits. -/
theorem log_fits_blank {B : Nat} {w : World} {A : LogD} {D : Dv} {V : LV} {sl : Value} (h : LogAt B w A D V sl) (hdn : D.dn = false) (hn : V.next < 16) (P : List UInt8) (hP : P.length = 16) (hb : ∀ c, c < 2 → pgs D.C (atF A.L V.which c) V.next = ff) :
    Calls Tryz.prog 31 #[.pointer (some ⟨A.l, 0, none⟩), .string (str P)] w fun e w' => e = .returned (.tuple #[.bool true, .int .i64 0]) ∧ LogAt B w' A D V sl ∧ Onl A.sh.S w w' := by
  obtain ⟨hL, hL2⟩ := h.isL
  have hfit := h.fit
  have hcells := h.dev.ok.cells
  have hwh := h.wh
  have hrng : ∀ c, c < 2 → atF A.L V.which c + 16 * V.next + 16 ≤ D.C.length := fun c hc => by unfold atF; omega
  have HRD : Hid (∀ (u : World) (c : Nat), c < 2 → LogAt B u A D V sl → Calls Tryz.prog 56 #[.pointer (some ⟨A.sh.b, 0, none⟩), .int .i64 ((atF A.L V.which c + 16 * V.next : Nat) : Int), .int .i64 16] u fun e u' => e = .returned (.tuple #[.string (str ff), .int .i64 0]) ∧ LogAt B u' A D V sl ∧ Onl A.sh.S u u') := Lib.hid fun u c hc hu => by
    have hx := hrng c hc
    have e1 : readE D ((atF A.L V.which c + 16 * V.next : Nat) : Int) 16 = 0 := by
      unfold readE bey
      rw [hdn, if_neg (by decide), if_neg (by simp; omega)]
    have e2 : readS D ((atF A.L V.which c + 16 * V.next : Nat) : Int) 16 = ff := by
      unfold readS
      rw [if_pos e1]
      exact hb c hc
    have := dvx_read A.sh D ((atF A.L V.which c + 16 * V.next : Nat) : Int) 16 u hu.dev (by unfold atF at hx ⊢; omega)
    rw [e1, e2] at this
    exact this.mono fun e u' ⟨h1, h2, h3⟩ => ⟨h1, hu.go h3 h2 rfl, h3⟩
  have HAT : Hid (∀ (u : World) (c : Nat), c < 2 → LogAt B u A D V sl → Calls Tryz.prog 57 #[.pointer (some ⟨A.l, 0, none⟩), .int .i64 (V.which : Int), .int .i64 (c : Int), .int .i64 (V.next : Int)] u fun e u' => e = .returned (.int .i64 ((atF A.L V.which c + 16 * V.next : Nat) : Int)) ∧ Below u.heap.size u u') := Lib.hid fun u c hc hu => log_at_any hu V.which c V.next hwh hc (by omega)
  have HC : Hid (∀ (u : World), LogAt B u A D V sl → u.cell? ⟨A.l, 0, none⟩ = some (.pointer (some ⟨A.sh.b, 0, none⟩)) ∧ u.cell? ⟨A.l, 1, none⟩ = some (.int .i64 (V.which : Int)) ∧ u.cell? ⟨A.l, 4, none⟩ = some (.int .i64 (V.next : Int))) := Lib.hid fun u hu => ⟨hu.c0, hu.c1, hu.c4⟩
  have HSD : Hid (∀ u : World, Calls Tryz.prog 58 #[.pointer (some ⟨A.l, 0, none⟩), .string (str ff), .string (str P)] u fun e w' => e = .returned (.bool true) ∧ Below u.heap.size u w') := Lib.hid fun u => log_sound_blank _ _ u
  have HBO : Hid (∀ u : World, Calls Tryz.prog 59 #[.string (str ff), .string (str P)] u fun e w' => e = .returned (.string (str P)) ∧ Below u.heap.size u w') := Lib.hid fun u => by
    have := log_both_any (str ff) (str P) u (by rw [str_size, str_size, hP]; show 16 ≤ 16; omega) (by rw [str_size]; show 16 ≤ _; omega)
    rwa [str_list, str_list, both_blank hP] at this
  have HST : Hid (∀ (u u' : World), LogAt B u A D V sl → Below u.heap.size u u' → LogAt B u' A D V sl) := Lib.hid fun u u' h1 h2 => h1.step h2
  have LA0 := Lib.hid h
  generalize V.which = wh at *
  generalize V.next = nx at *
  generalize str ff = F at *
  obtain ⟨S, hS⟩ : ∃ S, str P = S := ⟨_, rfl⟩
  rw [hS] at HSD HBO ⊢
  have hSS : (S.toList == S.toList) = true := beq_self_eq_true _
  obtain ⟨l, tb, sh, g⟩ := A
  dsimp only at HC HST HRD HAT HSD LA0 ⊢
  obtain ⟨d, hd⟩ : ∃ d, sh.b = d := ⟨_, rfl⟩
  rw [hd] at HC HRD
  clear h hd hL hL2 hfit hcells hrng hb hS hP hdn
  go_enter Tryz.func31, Tryz.ntmps31
  go_wp2
  go_loopw [6, 10] (fun v i wr => ∃ c : Nat, c ≤ 2 ∧ i = .int .i64 c ∧ v = .bool (decide (0 < c)) ∧ LogAt B wr ⟨l, tb, sh, g⟩ D V sl ∧ Onl sh.S w wr) (fun _ i _ => 2 - (intOf i).toNat)
  case atStart => exact ⟨0, Nat.zero_le _, rfl, rfl, LA0.out, Onl.refl _ _⟩
  case round =>
    clear LA0
    obtain ⟨c, hc, rfl, rfl, hla, hon⟩ := hrel
    have LA := Lib.hid hla
    have ON := Lib.hid hon
    clear hla hon
    have HDR : Hid (Below wr.heap.size wr wr.drew) := Lib.hid (Below.refl _ _).drew
    by_cases hlt : c < 2
    · have hk1 : (c : Int) < 2 := by omega
      obtain ⟨q, hq⟩ : ∃ q, atF (⟨l, tb, sh, g⟩ : LogD).L wh c + 16 * nx = q := ⟨_, rfl⟩
      have HATC : Hid (∀ u, LogAt B u ⟨l, tb, sh, g⟩ D V sl → Calls Tryz.prog 57 #[.pointer (some ⟨l, 0, none⟩), .int .i64 (wh : Int), .int .i64 (c : Int), .int .i64 (nx : Int)] u fun e u' => e = .returned (.int .i64 (q : Int)) ∧ Below u.heap.size u u') := Lib.hid fun u hu => by rw [← hq]; exact HAT.out u c hlt hu
      have HRDC : Hid (∀ u, LogAt B u ⟨l, tb, sh, g⟩ D V sl → Calls Tryz.prog 56 #[.pointer (some ⟨d, 0, none⟩), .int .i64 (q : Int), .int .i64 16] u fun e u' => e = .returned (.tuple #[.string F, .int .i64 0]) ∧ LogAt B u' ⟨l, tb, sh, g⟩ D V sl ∧ Onl sh.S u u') := Lib.hid fun u hu => by rw [← hq]; exact HRD.out u c hlt hu
      have HC1 : Hid (decide (0 < c + 1) = true) := Lib.hid (decide_eq_true (by omega))
      have HC0 : Hid (c = 0 → decide (0 < c) = false) := Lib.hid fun h => decide_eq_false (by omega)
      have HC2 : Hid (c ≠ 0 → decide (0 < c) = true) := Lib.hid fun h => decide_eq_true (by omega)
      clear hq HAT HRD
      go_wp2
      refine region_invW [(0, 14), (1, 15), (2, 16), (3, 17), (4, 18), (5, 19), (6, 20), (7, 21), (8, 22), (9, 23), (10, 24), (11, 25), (12, 26), (13, 27), (14, 28), (15, 29), (16, 30), (17, 31), (18, 13), (19, 32), (20, 33), (21, 8), (22, 9)]
        (fun ii => [Is (.pointer (some ⟨l, 0, none⟩)), Is (.pointer (some ⟨l, 0, none⟩)), Is (.pointer (some ⟨l, 0, none⟩)), Is (.pointer (some ⟨d, 0, none⟩)), Is (.pointer (some ⟨l, 0, none⟩)), Is (.pointer (some ⟨l, 0, none⟩)), Is (.pointer (some ⟨l, 0, none⟩)), Is (.pointer (some ⟨l, 1, none⟩)), Is (.pointer (some ⟨l, 1, none⟩)), Is (.int .i64 (wh : Int)), Is (.int .i64 (c : Int)), Is (.pointer (some ⟨l, 0, none⟩)), Is (.pointer (some ⟨l, 0, none⟩)), Is (.pointer (some ⟨l, 1, none⟩)), Is (.pointer (some ⟨l, 4, none⟩)), Is (.int .i64 (nx : Int)), Is (.int .i64 (q : Int)), Is (.tuple #[.string F, .int .i64 0]), Is (.tuple #[.string F, .int .i64 0]), Is (.string F), Is (.int .i64 0), Is (.string F), Is (.int .i64 0)].getD ii (Is undef))
        (fun w' => LogAt B w' ⟨l, tb, sh, g⟩ D V sl ∧ Onl sh.S wr w') (fun _ _ => True) (by kernel_rfl) (by kernel_rfl) (by decide) (by decide) (by kernel_rfl) rfl ?monoq (⟨HST.out _ _ LA.out HDR.out, Onl.of_below HDR.out⟩) ?stepq ?finq
      case monoq =>
        intro i v w1 w2 hv _
        revert hv
        match i with
        | 0 | 1 | 2 | 3 | 4 | 5 | 6 | 7 | 8 | 9 | 10 | 11 | 12 | 13 | 14 | 15 | 16 | 17 | 18 | 19 | 20 | 21 | 22 => exact id
        | _ + 23 => exact id
      case stepq =>
        refine List.forall_mem_cons.2 ⟨?qs0, List.forall_mem_cons.2 ⟨?qs1, List.forall_mem_cons.2 ⟨?qs2, List.forall_mem_cons.2 ⟨?qs3, List.forall_mem_cons.2 ⟨?qs4, List.forall_mem_cons.2 ⟨?qs5, List.forall_mem_cons.2 ⟨?qs6, List.forall_mem_cons.2 ⟨?qs7, List.forall_mem_cons.2 ⟨?qs8, List.forall_mem_cons.2 ⟨?qs9, List.forall_mem_cons.2 ⟨?qs10, List.forall_mem_cons.2 ⟨?qs11, List.forall_mem_cons.2 ⟨?qs12, List.forall_mem_cons.2 ⟨?qs13, List.forall_mem_cons.2 ⟨?qs14, List.forall_mem_cons.2 ⟨?qs15, List.forall_mem_cons.2 ⟨?qs16, List.forall_mem_cons.2 ⟨?qs17, List.forall_mem_cons.2 ⟨?qs18, List.forall_mem_cons.2 ⟨?qs19, List.forall_mem_cons.2 ⟨?qs20, List.forall_mem_cons.2 ⟨?qs21, List.forall_mem_cons.2 ⟨?qs22, List.forall_mem_nil _⟩⟩⟩⟩⟩⟩⟩⟩⟩⟩⟩⟩⟩⟩⟩⟩⟩⟩⟩⟩⟩⟩⟩
        case qs0 =>
          intro u wx hg hC
          clear hC
          refine wpOp_step rfl (fun K hK => ?_)
          simp only [puts, List.foldl]
          go_simp
          exact hK _ _ ⟨rfl, rfl, hg, trivial⟩
        case qs1 =>
          intro u wx hg hC
          have hJ0 : u 0 = (.pointer (some ⟨l, 0, none⟩)) := hC.at 0 (by kernel_rfl)
          clear hC
          refine wpOp_step rfl (fun K hK => ?_)
          simp only [puts, List.foldl]
          go_simp
          exact hK _ _ ⟨rfl, rfl, hg, trivial⟩
        case qs2 =>
          intro u wx hg hC
          have hJ1 : u 1 = (.pointer (some ⟨l, 0, none⟩)) := hC.at 1 (by kernel_rfl)
          clear hC
          refine wpOp_step rfl (fun K hK => ?_)
          simp only [puts, List.foldl]
          go_simp
          exact hK _ _ ⟨rfl, rfl, hg, trivial⟩
        case qs3 =>
          intro u wx hg hC
          have hJ2 : u 2 = (.pointer (some ⟨l, 0, none⟩)) := hC.at 2 (by kernel_rfl)
          clear hC
          have hcl : wx.cell? ⟨l, 0, none⟩ = some (.pointer (some ⟨d, 0, none⟩)) := (HC.out wx hg.1).1
          refine wpOp_step rfl (fun K hK => ?_)
          simp only [puts, List.foldl]
          go_simp
          exact hK _ _ ⟨rfl, rfl, hg, trivial⟩
        case qs4 =>
          intro u wx hg hC
          clear hC
          refine wpOp_step rfl (fun K hK => ?_)
          simp only [puts, List.foldl]
          go_simp
          exact hK _ _ ⟨rfl, rfl, hg, trivial⟩
        case qs5 =>
          intro u wx hg hC
          clear hC
          refine wpOp_step rfl (fun K hK => ?_)
          simp only [puts, List.foldl]
          go_simp
          exact hK _ _ ⟨rfl, rfl, hg, trivial⟩
        case qs6 =>
          intro u wx hg hC
          have hJ5 : u 5 = (.pointer (some ⟨l, 0, none⟩)) := hC.at 5 (by kernel_rfl)
          clear hC
          refine wpOp_step rfl (fun K hK => ?_)
          simp only [puts, List.foldl]
          go_simp
          exact hK _ _ ⟨rfl, rfl, hg, trivial⟩
        case qs7 =>
          intro u wx hg hC
          have hJ6 : u 6 = (.pointer (some ⟨l, 0, none⟩)) := hC.at 6 (by kernel_rfl)
          clear hC
          refine wpOp_step rfl (fun K hK => ?_)
          simp only [puts, List.foldl]
          go_simp
          exact hK _ _ ⟨rfl, rfl, hg, trivial⟩
        case qs8 =>
          intro u wx hg hC
          have hJ7 : u 7 = (.pointer (some ⟨l, 1, none⟩)) := hC.at 7 (by kernel_rfl)
          clear hC
          refine wpOp_step rfl (fun K hK => ?_)
          simp only [puts, List.foldl]
          go_simp
          exact hK _ _ ⟨rfl, rfl, hg, trivial⟩
        case qs9 =>
          intro u wx hg hC
          have hJ8 : u 8 = (.pointer (some ⟨l, 1, none⟩)) := hC.at 8 (by kernel_rfl)
          clear hC
          have hcl : wx.cell? ⟨l, 1, none⟩ = some (.int .i64 (wh : Int)) := (HC.out wx hg.1).2.1
          refine wpOp_step rfl (fun K hK => ?_)
          simp only [puts, List.foldl]
          go_simp
          exact hK _ _ ⟨rfl, rfl, hg, trivial⟩
        case qs10 =>
          intro u wx hg hC
          clear hC
          refine wpOp_step rfl (fun K hK => ?_)
          simp only [puts, List.foldl]
          go_simp
          exact hK _ _ ⟨rfl, rfl, hg, trivial⟩
        case qs11 =>
          intro u wx hg hC
          clear hC
          refine wpOp_step rfl (fun K hK => ?_)
          simp only [puts, List.foldl]
          go_simp
          exact hK _ _ ⟨rfl, rfl, hg, trivial⟩
        case qs12 =>
          intro u wx hg hC
          have hJ11 : u 11 = (.pointer (some ⟨l, 0, none⟩)) := hC.at 11 (by kernel_rfl)
          clear hC
          refine wpOp_step rfl (fun K hK => ?_)
          simp only [puts, List.foldl]
          go_simp
          exact hK _ _ ⟨rfl, rfl, hg, trivial⟩
        case qs13 =>
          intro u wx hg hC
          have hJ12 : u 12 = (.pointer (some ⟨l, 0, none⟩)) := hC.at 12 (by kernel_rfl)
          clear hC
          refine wpOp_step rfl (fun K hK => ?_)
          simp only [puts, List.foldl]
          go_simp
          exact hK _ _ ⟨rfl, rfl, hg, trivial⟩
        case qs14 =>
          intro u wx hg hC
          have hJ13 : u 13 = (.pointer (some ⟨l, 1, none⟩)) := hC.at 13 (by kernel_rfl)
          clear hC
          refine wpOp_step rfl (fun K hK => ?_)
          simp only [puts, List.foldl]
          go_simp
          exact hK _ _ ⟨rfl, rfl, hg, trivial⟩
        case qs15 =>
          intro u wx hg hC
          have hJ14 : u 14 = (.pointer (some ⟨l, 4, none⟩)) := hC.at 14 (by kernel_rfl)
          clear hC
          have hcl : wx.cell? ⟨l, 4, none⟩ = some (.int .i64 (nx : Int)) := (HC.out wx hg.1).2.2
          refine wpOp_step rfl (fun K hK => ?_)
          simp only [puts, List.foldl]
          go_simp
          exact hK _ _ ⟨rfl, rfl, hg, trivial⟩
        case qs16 =>
          intro u wx hg hC
          have hJ4 : u 4 = (.pointer (some ⟨l, 0, none⟩)) := hC.at 4 (by kernel_rfl)
          have hJ9 : u 9 = (.int .i64 (wh : Int)) := hC.at 9 (by kernel_rfl)
          have hJ10 : u 10 = (.int .i64 (c : Int)) := hC.at 10 (by kernel_rfl)
          have hJ15 : u 15 = (.int .i64 (nx : Int)) := hC.at 15 (by kernel_rfl)
          clear hC
          refine wpOp_step rfl (fun K hK => ?_)
          simp only [puts, List.foldl]
          go_simp
          refine (HATC.out wx hg.1).mono ?_
          rintro e w' ⟨rfl, hb'⟩
          exact hK _ _ ⟨rfl, rfl, ⟨HST.out _ _ hg.1 hb', hg.2.step hb'⟩, trivial⟩
        case qs17 =>
          intro u wx hg hC
          have hJ3 : u 3 = (.pointer (some ⟨d, 0, none⟩)) := hC.at 3 (by kernel_rfl)
          have hJ16 : u 16 = (.int .i64 (q : Int)) := hC.at 16 (by kernel_rfl)
          clear hC
          refine wpOp_step rfl (fun K hK => ?_)
          simp only [puts, List.foldl]
          go_simp
          refine (HRDC.out wx hg.1).mono ?_
          rintro e w' ⟨rfl, l5, o5⟩
          exact hK _ _ ⟨rfl, rfl, ⟨l5, hg.2.trans o5⟩, trivial⟩
        case qs18 =>
          intro u wx hg hC
          have hJ17 : u 17 = (.tuple #[.string F, .int .i64 0]) := hC.at 17 (by kernel_rfl)
          clear hC
          refine wpOp_step rfl (fun K hK => ?_)
          simp only [puts, List.foldl]
          go_simp
          exact hK _ _ ⟨rfl, rfl, hg, trivial⟩
        case qs19 =>
          intro u wx hg hC
          have hJ18 : u 18 = (.tuple #[.string F, .int .i64 0]) := hC.at 18 (by kernel_rfl)
          clear hC
          refine wpOp_step rfl (fun K hK => ?_)
          simp only [puts, List.foldl]
          go_simp
          exact hK _ _ ⟨rfl, rfl, hg, trivial⟩
        case qs20 =>
          intro u wx hg hC
          have hJ18 : u 18 = (.tuple #[.string F, .int .i64 0]) := hC.at 18 (by kernel_rfl)
          clear hC
          refine wpOp_step rfl (fun K hK => ?_)
          simp only [puts, List.foldl]
          go_simp
          exact hK _ _ ⟨rfl, rfl, hg, trivial⟩
        case qs21 =>
          intro u wx hg hC
          have hJ19 : u 19 = (.string F) := hC.at 19 (by kernel_rfl)
          clear hC
          refine wpOp_step rfl (fun K hK => ?_)
          simp only [puts, List.foldl]
          go_simp
          exact hK _ _ ⟨rfl, rfl, hg, trivial⟩
        case qs22 =>
          intro u wx hg hC
          have hJ20 : u 20 = (.int .i64 0) := hC.at 20 (by kernel_rfl)
          clear hC
          refine wpOp_step rfl (fun K hK => ?_)
          simp only [puts, List.foldl]
          go_simp
          exact hK _ _ ⟨rfl, rfl, hg, trivial⟩
      case finq =>
        intro u ux hg hφ
        have e8 : u 21 = .string F := hφ (21, 8) (by decide)
        have e9 : u 22 = .int .i64 0 := hφ (22, 9) (by decide)
        clear hφ
        simp only [puts, List.foldl]
        rw [e8, e9]
        go_simp
        obtain ⟨l5, o5⟩ := hg
        have L5 := Lib.hid l5
        have O5 := Lib.hid (ON.out.trans o5)
        clear e8 e9 l5 o5 LA ON
        by_cases h0 : c = 0
        · rw [HC0.out h0]
          clear HC0 HC2 h0
          go_wp2_with (first
            | (go_at_call 58; (with_reducible refine (HSD.out ux).mono ?_); rintro e u6 ⟨rfl, b6⟩; have L6 := Lib.hid (HST.out _ _ L5.out b6); have O6 := Lib.hid (O5.out.step b6); clear b6)
            | (go_at_call 59; (with_reducible refine (HBO.out u6).mono ?_); rintro e u7 ⟨rfl, b7⟩; have L7 := Lib.hid (HST.out _ _ L6.out b7); have O7 := Lib.hid (O6.out.step b7); clear b7))
          go_roundw
          case rel => exact ⟨c + 1, by omega, by go_num, by rw [HC1.out], L7.out, O7.out⟩
          case measure => simp [intOf]; omega
        · rw [HC2.out h0]
          clear HC0 HC2 h0
          go_wp2_with (go_at_call 58; (with_reducible refine (HSD.out ux).mono ?_); rintro e u6 ⟨rfl, b6⟩; have L6 := Lib.hid (HST.out _ _ L5.out b6); have O6 := Lib.hid (O5.out.step b6); clear b6)
          go_roundw
          case rel => exact ⟨c + 1, by omega, by go_num, by rw [HC1.out], L6.out, O6.out⟩
          case measure => simp [intOf]; omega
    · have hce : c = 2 := by omega
      have hk1 : ¬ (c : Int) < 2 := by omega
      have HCE : Hid (decide (0 < c) = true) := Lib.hid (decide_eq_true (by omega))
      rw [HCE.out]
      clear hce
      go_wp2
      go_ret2
      exact ⟨rfl, LA.out, ON.out⟩
end Go.Proofs.YtbnjenbhpaknbaaGreat

/- A region that draws its order, of which one operation turns what is old, and whose last ones come one by one. -/
namespace Go.Proofs.YtbnjenbhpaknbaaGreat
open Go.RowKit
set_option linter.unusedVariables false
section
variable {P : Program} {ops : Array Oper} {Q : Exit → Act → World → Prop}
/-- As region_tail, where operation s among the first n turns what is old, and those of X, which only move values, may come behind it. -/
theorem region_tailS {id : Nat} {a : Act} {w : World} (n s : Nat) (X : List Nat) (D : List (Nat × Nat)) (φ : Nat → Value → World → Prop) (ψ : Nat → Value → Prop) (G : World → Prop) (H : Value → World → Prop) (hm : P.follows .mixedOrders = true) (hn : n ≤ ops.size)
    (hord : ordB ops = true) (hcl : closeB ops n ops.size = true) (hseq : Region.seqB .any ops (ops.size - n) n ((Array.range ops.size).map (Nat.blt · n)) = true)
    (hD1 : D.map (·.1) = List.range n) (hD2 : (D.map (·.2)).Nodup) (hD3 : (D.all fun p => (ops[p.1]?.bind (·.dst)) == some p.2) = true) (hD4 : (D.all fun p => Nat.blt p.2 a.tmps.size) = true)
    (hsn : s < n) (hsX : s ∉ X) (hclS : ((List.range n).all fun j => (j == s) || X.contains j || reachB ops ops.size s j) = true)
    (hmono : ∀ i v w w', φ i v w → Below w.heap.size w w' → φ i v w') (hG : G w.drew)
    (step : ∀ p ∈ D, p.1 ≠ s → p.1 ∉ X → ∀ u w, G w → Came ops (fun i v w => i ∉ X → φ i v w) u w p.1 →
      wpOp P ops Q p.1 (fun a' w' => a'.defers = (puts D a u).defers ∧ φ p.1 (a'.tmps.getD p.2 undef) w' ∧ G w' ∧ Below w.heap.size w w') (puts D a u) w)
    (stepX : ∀ p ∈ D, p.1 ∈ X → ∀ u w, wpOp P ops Q p.1 (fun a' w' => a'.defers = (puts D a u).defers ∧ ψ p.1 (a'.tmps.getD p.2 undef) ∧ w' = w) (puts D a u) w)
    (stepS : ∀ p ∈ D, p.1 = s → ∀ u w, G w → Came ops (fun i v w => i ∉ X → φ i v w) u w p.1 →
      wpOp P ops Q p.1 (fun a' w' => a'.defers = (puts D a u).defers ∧ H (a'.tmps.getD p.2 undef) w') (puts D a u) w)
    (fin : ∀ u w, H (u s) w → (∀ p ∈ D, p.1 ∈ X → ψ p.1 (u p.1)) → wpList P ops Q (ops.toList.drop n) (puts D a u) w) : (Code.region id ops true).wp P Q a w := by
  refine wp_region_any hm ?_
  have hnd1 : (D.map (·.1)).Nodup := by rw [hD1]; exact List.nodup_range
  have hclose : ∀ i, n ≤ i → i < ops.size → ∀ j, j < n → reachB ops ops.size i j = true := by
    intro i h1 h2 j hj
    have := List.all_eq_true.1 hcl i (List.mem_range.2 h2)
    rw [Bool.or_eq_true] at this
    rcases this with h | h
    · simp [Nat.blt] at h; omega
    · exact List.all_eq_true.1 h j (List.mem_range.2 hj)
  have hclX : ∀ j, j < n → j ≠ s → j ∉ X → reachB ops ops.size s j = true := fun j hj hne hx => by
    have := List.all_eq_true.1 hclS j (List.mem_range.2 hj)
    rw [Bool.or_eq_true, Bool.or_eq_true] at this
    rcases this with (h | h) | h
    · exact absurd (by simpa using h) hne
    · exact absurd (by simpa using h) hx
    · exact h
  let Inv : Array Bool → (Nat → Value) → World → Prop := fun listed u w => (∀ i ∈ X, i < n → listed.getD i false = true → ψ i (u i)) ∧
    ((listed.getD s false = false ∧ G w ∧ ∀ i, i < n → i ∉ X → listed.getD i false = true → φ i (u i) w) ∨ (listed.getD s false = true ∧ H (u s) w))
  have key : ∀ (m : Nat) (L : List Nat) (listed : Array Bool) (w : World) (u : Nat → Value), L.length = m → L.Nodup → listed.size = ops.size → (∀ i, i < n → (listed.getD i false = false ↔ i ∈ L)) → (∀ i ∈ L, i < n) →
      (∀ i, n ≤ i → listed.getD i false = false) → Anc ops listed → Inv listed u w → wpAny P .any ops Q (m + (ops.size - n)) listed (puts D a u) w := by
    intro m
    induction m with
    | zero =>
      intro L listed w u hL _ hs hin _ hout _ hinv
      have hLe : L = [] := List.length_eq_zero_iff.1 hL
      subst hLe
      have hall : ∀ i, i < n → listed.getD i false = true := fun i hi => by
        cases h : listed.getD i false with
        | true => rfl
        | false => have := (hin i hi).1 h; cases this
      have el : listed = (Array.range ops.size).map (Nat.blt · n) := by
        apply Array.ext
        · simp [hs]
        · intro i h1 h2
          rw [Array.getElem_map, Array.getElem_range]
          have e1 : listed.getD i false = listed[i] := by simp [Array.getD, h1]
          rw [← e1]
          have hb : Nat.blt i n = decide (i < n) := by
            rw [Bool.eq_iff_iff, decide_eq_true_eq]
            exact Iff.of_eq Nat.ble_eq
          rw [hb]
          by_cases hi : i < n
          · rw [hall i hi, decide_eq_true hi]
          · rw [hout i (by omega), decide_eq_false hi]
      have hlen : (ops.toList.drop n).length = ops.size - n := by simp
      rw [Nat.zero_add, ← hlen]
      refine wpAny_of_seq (ops.toList.drop n) n listed _ w (fun j => by simp) (by rw [hlen, el]; exact hseq) (fin u w ?_ fun p hp hx => hinv.1 p.1 hx ?_ ?_)
      · rcases hinv.2 with ⟨h1, _⟩ | ⟨_, h1⟩
        · rw [hall s hsn] at h1; cases h1
        · exact h1
      · have : p.1 ∈ D.map (·.1) := List.mem_map.2 ⟨p, hp, rfl⟩
        rw [hD1] at this
        exact List.mem_range.1 this
      · have : p.1 ∈ D.map (·.1) := List.mem_map.2 ⟨p, hp, rfl⟩
        rw [hD1] at this
        exact hall _ (List.mem_range.1 this)
    | succ m ih =>
      intro L listed w u hL hnd hs hin hLn hout hanc hinv
      have hne : ∃ i0, i0 ∈ L := by
        cases L with
        | nil => cases hL
        | cons i0 L => exact ⟨i0, List.mem_cons_self ..⟩
      obtain ⟨i0, hi0⟩ := hne
      have hi0n := hLn i0 hi0
      have hi0f := (hin i0 hi0n).2 hi0
      rw [Nat.succ_add]
      refine ⟨fun hr => ?_, fun i hi => ?_⟩
      · have := all_listed hord hs hr i0
        have hl : i0 < listed.size := by omega
        simp [Array.getD, hl] at this hi0f
        rw [this] at hi0f
        cases hi0f
      · obtain ⟨h1, h2, o, ho, h3⟩ := mem_ready.1 hi
        have hin' : i < n := by
          by_cases hlt : i < n
          · exact hlt
          · have := reach_listed hanc ops.size i i0 (fun o' ho' e he hb => by
              obtain rfl := Option.some.inj (ho'.symm.trans ho)
              exact h3 e he hb) (hclose i (by omega) h1 i0 hi0n)
            rw [hi0f] at this
            cases this
        have hil : i < listed.size := by omega
        have h2f : listed.getD i false = false := by simp [Array.getD, hil] at h2 ⊢; exact h2
        have hiL := (hin i hin').1 h2f
        have hiD : i ∈ D.map (·.1) := by rw [hD1]; exact List.mem_range.2 hin'
        obtain ⟨⟨i', d⟩, hp, rfl⟩ := List.mem_map.1 hiD
        simp only at h1 h2 ho h3 hin' hil h2f hiL
        have hd3 := List.all_eq_true.1 hD3 _ hp
        have hd4 := List.all_eq_true.1 hD4 _ hp
        simp only [ho, Option.bind_some, beq_iff_eq] at hd3
        have hd5 : d < a.tmps.size := by simp [Nat.blt] at hd4; omega
        have hcame : ∀ (hg : G w) (hφ : ∀ i, i < n → i ∉ X → listed.getD i false = true → φ i (u i) w), Came ops (fun i v w => i ∉ X → φ i v w) u w i' := fun hg hφ o' ho' e he hb hx => by
          obtain rfl := Option.some.inj (ho'.symm.trans ho)
          have hl := h3 e he hb
          have hen : e.on < n := by
            by_cases hlt : e.on < n
            · exact hlt
            · rw [hout e.on (by omega)] at hl; cases hl
          exact hφ e.on hen hx hl
        have hallS : i' = s → ∀ j, j < n → j ≠ s → j ∉ X → listed.getD j false = true := fun e j hj hne hx =>
          reach_listed hanc ops.size i' j (fun o' ho' e he hb => by
            obtain rfl := Option.some.inj (ho'.symm.trans ho)
            exact h3 e he hb) (by rw [e]; exact hclX j hj hne hx)
        have hafter : listed.getD s false = true → i' ∈ X := fun hls => Classical.byContradiction fun hx => by
          have hne : i' ≠ s := fun e => by rw [e] at h2f; rw [h2f] at hls; cases hls
          have hos : ∃ os, ops[s]? = some os := ⟨_, Array.getElem?_eq_getElem (by omega)⟩
          obtain ⟨os, hos⟩ := hos
          have := reach_listed hanc ops.size s i' (fun o' ho' e he hb => hanc s o' ho' hls e he hb) (hclX i' hin' hne hx)
          rw [h2f] at this
          cases this
        have hst2 : wpOp P ops Q i' (fun a' w' => ∃ v, a' = (puts D a u).put (some d) v ∧ Inv (listed.setIfInBounds i' true) (upd u i' v) w') (puts D a u) w := by
          have hself : (listed.setIfInBounds i' true).getD i' false = true := getD_set_self hil
          have hother : ∀ j, j ≠ i' → (listed.setIfInBounds i' true).getD j false = listed.getD j false := fun j hj => getD_set_other (Ne.symm hj)
          have uself : ∀ v, upd u i' v i' = v := fun v => by simp [upd]
          have uother : ∀ v j, j ≠ i' → upd u i' v j = u j := fun v j hj => by simp [upd, hj]
          by_cases hx : i' ∈ X
          · refine wpOp_mono ?_ (wpOp_value (R := fun v w' => ψ i' v ∧ w' = w) ho hd3 (by rw [puts_size]; exact hd5) (stepX _ hp hx u w))
            rintro a' w' ⟨v, rfl, hv, rfl⟩
            have hne : s ≠ i' := fun e => hsX (e ▸ hx)
            refine ⟨v, rfl, fun j hj hjn hl => ?_, ?_⟩
            · by_cases e : j = i'
              · rw [e, uself]; exact hv
              · rw [uother _ _ e]; rw [hother j e] at hl; exact hinv.1 j hj hjn hl
            · rcases hinv.2 with ⟨g1, g2, g3⟩ | ⟨g1, g2⟩
              · left
                refine ⟨by rw [hother s hne]; exact g1, g2, fun j hjn hj hl => ?_⟩
                have e : j ≠ i' := fun e => hj (e ▸ hx)
                rw [uother _ _ e]; rw [hother j e] at hl; exact g3 j hjn hj hl
              · right
                exact ⟨by rw [hother s hne]; exact g1, by rw [uother _ _ hne]; exact g2⟩
          · rcases hinv.2 with ⟨g1, g2, g3⟩ | ⟨g1, g2⟩
            · by_cases hes : i' = s
              · refine wpOp_mono ?_ (wpOp_value (R := fun v w' => H v w') ho hd3 (by rw [puts_size]; exact hd5) (stepS _ hp hes u w g2 (hcame g2 g3)))
                rintro a' w' ⟨v, rfl, hv⟩
                refine ⟨v, rfl, fun j hj hjn hl => ?_, .inr ⟨by rw [← hes]; exact hself, by rw [← hes, uself]; exact hv⟩⟩
                have e : j ≠ i' := fun e => hx (e ▸ hj)
                rw [uother _ _ e]; rw [hother j e] at hl; exact hinv.1 j hj hjn hl
              · refine wpOp_mono ?_ (wpOp_value (R := fun v w' => φ i' v w' ∧ G w' ∧ Below w.heap.size w w') ho hd3 (by rw [puts_size]; exact hd5) (step _ hp hes hx u w g2 (hcame g2 g3)))
                rintro a' w' ⟨v, rfl, hv, hg', hb'⟩
                refine ⟨v, rfl, fun j hj hjn hl => ?_, .inl ⟨by rw [hother s (Ne.symm hes)]; exact g1, hg', fun j hjn hj hl => ?_⟩⟩
                · have e : j ≠ i' := fun e => hx (e ▸ hj)
                  rw [uother _ _ e]; rw [hother j e] at hl; exact hinv.1 j hj hjn hl
                · by_cases e : j = i'
                  · rw [e, uself]; exact hv
                  · rw [uother _ _ e]; rw [hother j e] at hl; exact hmono j _ w w' (g3 j hjn hj hl) hb'
            · exact absurd (hafter g1) hx
        refine wpOp_mono ?_ hst2
        rintro a' w' ⟨v, rfl, hinv'⟩
        rw [puts_put u i' d v D a hnd1 hD2 hp]
        refine ih (L.erase i') _ w' (upd u i' v) (by rw [List.length_erase_of_mem hiL]; omega) (hnd.erase i') (by simpa using hs) ?_ (fun j hj => hLn j (List.mem_of_mem_erase hj)) ?_ ?_ hinv'
        · intro j hj
          by_cases e : i' = j
          · subst e
            rw [getD_set_self hil]
            constructor
            · intro h; cases h
            · intro h; exact absurd h (hnd.not_mem_erase)
          · rw [getD_set_other e, hin j hj]
            exact (List.mem_erase_of_ne (Ne.symm e)).symm
        · intro j hj
          rw [getD_set_other (by omega)]
          exact hout j hj
        · intro j o' ho' hl e he hb
          by_cases ej : i' = j
          · subst ej
            obtain rfl := Option.some.inj (ho'.symm.trans ho)
            have := h3 e he hb
            by_cases e2 : i' = e.on
            · rw [← e2, getD_set_self hil]
            · rw [getD_set_other e2]; exact this
          · rw [getD_set_other ej] at hl
            have := hanc j o' ho' hl e he hb
            by_cases e2 : i' = e.on
            · rw [← e2, getD_set_self hil]
            · rw [getD_set_other e2]; exact this
  have hu : ∃ u : Nat → Value, puts D a u = a := by
    refine ⟨fun i => ((D.find? fun p => p.1 == i).map fun p => a.tmps.getD p.2 undef).getD undef, puts_self _ _ _ fun p hp => ?_⟩
    have : D.find? (fun q => q.1 == p.1) = some p := by
      clear fin step stepS stepX hD2 hD1 hD3 hD4 key
      induction D with
      | nil => cases hp
      | cons q D ih =>
        rw [List.map_cons, List.nodup_cons] at hnd1
        rcases List.mem_cons.1 hp with rfl | hp
        · simp
        · have hne : (q.1 == p.1) = false := by
            rw [beq_eq_false_iff_ne]
            intro e
            exact hnd1.1 (List.mem_map.2 ⟨p, hp, e.symm⟩)
          rw [List.find?_cons, hne]
          exact ih hnd1.2 hp
    simp only [this, Option.map_some, Option.getD_some]
  obtain ⟨u, hu⟩ := hu
  have hf : ∀ i, (Array.replicate ops.size false).getD i false = false := fun i => by
    by_cases h : i < ops.size <;> simp [Array.getD, h]
  have := key n (List.range n) (Array.replicate ops.size false) w.drew u (by simp) List.nodup_range (by simp) (fun i hi => by rw [hf]; simpa using hi) (fun i hi => List.mem_range.1 hi) (fun i _ => hf i)
    (fun i o _ hl => by rw [hf] at hl; cases hl) ⟨(fun i _ _ hl => by rw [hf] at hl; cases hl), Or.inl ⟨hf s, hG, (fun i _ _ hl => by rw [hf] at hl; cases hl)⟩⟩
  rw [hu, show n + (ops.size - n) = ops.size by omega] at this
  exact this
end
end Go.Proofs.YtbnjenbhpaknbaaGreat

/- Append (gen_log_m.py). -/
namespace Go.Proofs.YtbnjenbhpaknbaaGreat
open Go.RowKit CrcMath NumMath FlaMath GeoMath
set_option linter.unusedVariables false
set_option maxRecDepth 100000

/-- A slice literal of one element, in a region that draws its order. -/
def LstM (m : Nat) (xs : List Value) : Value → World → Prop := fun v w => ∃ g, v = .slice (some ⟨g, 0, none⟩) m m ∧ Lies w w.heap.size (some ⟨g, 0, none⟩) xs
theorem LstM.monot (m : Nat) (xs : List Value) : Monot (LstM m xs) := fun _ _ _ ⟨g, h1, h2⟩ hb => ⟨g, h1, h2.step hb⟩
theorem grown_onl {w w' : World} {v : Value} (h : w.grownBy w' v.ownBlock) : Onl (ob v) w w' := ⟨h.os, h.tape, h.output, h.size, fun k hk hn => h.block k hk fun e => hn (mem_ob.2 e.symm)⟩
section
variable {P : Program}
/-- append at an operation. -/
theorem opAppendN {o : Oper} {A : Act} {w : World} {K : Act → World → Prop} {Q : Exit → Act → World → Prop} {base n m s : Nat} {T e : TypeId} {v : Value} {xs news : List Value} {p : Option Addr} (c : Nat)
    (hown : w.ownsRow base e s v n xs) (hT : P.underlying T = some (.slice e)) (he : Many P e s) (hs : Lies w w.heap.size p news) (hl : news.length = m * s) (hm : 0 < m) (hs0 : 0 < s) (h1 : news.all (·.oneCell') = true) (hn : Big (n + m ≤ 1099511627776)) (hbase : base ≤ w.heap.size)
    (x y : Operand) (hop : o.op = .call { callee := .builtin .append, args := #[x, y], argTypes := #[T, T] }) (hx : A.eval x = v) (hy : A.eval y = .slice p m c)
    (k : ∀ v' w', w'.ownsRow base e s v' (n + m) (xs ++ news) → w.grownBy w' v.ownBlock → (v'.ownBlock = v.ownBlock ∨ v'.ownBlock = some w.heap.size) → K (A.put o.dst v') w') : o.wp P A w K Q := by
  obtain ⟨i, z, hi, hz, h2, h3, h4⟩ := he.row
  obtain ⟨b, off, rfl, hb, hc⟩ := hs (by rw [hl]; exact Nat.mul_pos hm hs0)
  obtain ⟨v', w', hr, g1, g2, _, g4⟩ := run_append_own_at (P := P) w base T o.type e i z s i.bytes hT hi hz h2 rfl h3 hs0 v n xs hown ⟨b, off, none⟩ m c news hl (fun j u hj => by rw [Addr.add_mid]; exact hc j u hj) (fun u hu => (List.all_eq_true.1 h1) u hu) (by have := hn.out; unfold maxLen; omega) (Nat.le_trans (Nat.mul_le_mul hn.out h4) (by omega)) hbase
  unfold Oper.wp execOp
  simp only [hop, resolve, invoke, builtin, Sem.run_bind, Sem.run_pure, Result.andThen_ok, List.map_toArray, List.map_cons, List.map_nil, hx, hy, hr]
  exact k v' w' g1 g2 g4
end
theorem log_append_nil (k s n v : Int) (w : World) : Calls Tryz.prog 9 #[.pointer none, .agg (rcv k s n v).toArray] w fun e w' => e = .returned (.int .i64 1) ∧ Below w.heap.size w w' := by
  obtain ⟨V, hV⟩ : ∃ V, rcv k s n v = V := ⟨_, rfl⟩
  rw [hV]
  clear hV
  go_enter Tryz.func9, Tryz.ntmps9
  go_wp2_with (first
    | ((with_reducible refine wpBoxK (w := w) V 36 ?_ ?_); rfl; intro u1 r1 b1 s1; have B1 := Lib.hid b1; clear r1 b1 s1)
    | (go_at_call 27; (with_reducible refine (log_none_nil u1).mono ?_); rintro e _ ⟨rfl, rfl⟩))
  go_ret
  exact ⟨rfl, B1.out⟩
theorem log_append_bad {B : Nat} {w : World} {A : LogD} {D : Dv} {V : LV} {sl : Value} (h : LogAt B w A D V sl) (r : Rc) (hr : r.may = false) : Calls Tryz.prog 9 #[.pointer (some ⟨A.l, 0, none⟩), .agg r.cells.toArray] w fun e w' => e = .returned (.int .i64 1) ∧ Below w.heap.size w w' := by
  have HN : Hid (∀ u, Below w.heap.size w u → Calls Tryz.prog 27 #[.pointer (some ⟨A.l, 0, none⟩)] u fun e w' => e = .returned (.bool false) ∧ u = w') := Lib.hid fun u hu => log_none_any (h.step hu)
  have HM : Hid (∀ u, Calls Tryz.prog 28 #[.agg r.cells.toArray] u fun e w' => e = .returned (.bool false) ∧ Below u.heap.size u w') := Lib.hid fun u => by have := log_may_any r u; rwa [hr] at this
  have LV : Hid (r.cells.length = 4) := Lib.hid rfl
  generalize r.cells = V1 at *
  clear h
  go_enter Tryz.func9, Tryz.ntmps9
  go_wp2_with (first
    | ((with_reducible refine wpBoxK (w := w) V1 36 ?_ ?_); rfl; intro u1 r1 b1 s1; have R1 := Lib.hid r1; have B1 := Lib.hid b1; clear r1 b1 s1)
    | (go_at_call 27; (with_reducible refine (HN.out u1 B1.out).mono ?_); rintro e _ ⟨rfl, rfl⟩)
    | ((with_reducible refine R1.out.wpLoadG 36 fits_rec LV.out ?_ ?_); rfl)
    | (go_at_call 28; (with_reducible refine (HM.out u1).mono ?_); rintro e u2 ⟨rfl, b2⟩; have B2 := Lib.hid (B1.out.next b2); clear b2))
  go_ret
  exact ⟨rfl, B2.out⟩
theorem log_append_full {B : Nat} {w : World} {A : LogD} {D : Dv} {V : LV} {sl : Value} (h : LogAt B w A D V sl) (r : Rc) (hr : r.may = true) (hn : V.next = 16) : Calls Tryz.prog 9 #[.pointer (some ⟨A.l, 0, none⟩), .agg r.cells.toArray] w fun e w' => e = .returned (.int .i64 9) ∧ Below w.heap.size w w' := by
  have HN : Hid (∀ u, Below w.heap.size w u → Calls Tryz.prog 27 #[.pointer (some ⟨A.l, 0, none⟩)] u fun e w' => e = .returned (.bool false) ∧ u = w') := Lib.hid fun u hu => log_none_any (h.step hu)
  have HRM : Hid (∀ u, Below w.heap.size w u → Calls Tryz.prog 29 #[.pointer (some ⟨A.l, 0, none⟩)] u fun e w' => e = .returned (.int .i64 0) ∧ u = w') := Lib.hid fun u hu => by have := log_room_any (h.step hu); rw [hn] at this; exact this
  have HM : Hid (∀ u, Calls Tryz.prog 28 #[.agg r.cells.toArray] u fun e w' => e = .returned (.bool true) ∧ Below u.heap.size u w') := Lib.hid fun u => by have := log_may_any r u; rwa [hr] at this
  have LV : Hid (r.cells.length = 4) := Lib.hid rfl
  generalize r.cells = V1 at *
  clear h
  go_enter Tryz.func9, Tryz.ntmps9
  go_wp2_with (first
    | ((with_reducible refine wpBoxK (w := w) V1 36 ?_ ?_); rfl; intro u1 r1 b1 s1; have R1 := Lib.hid r1; have B1 := Lib.hid b1; clear r1 b1 s1)
    | (go_at_call 27; (with_reducible refine (HN.out u1 B1.out).mono ?_); rintro e _ ⟨rfl, rfl⟩)
    | ((with_reducible refine R1.out.wpLoadG 36 fits_rec LV.out ?_ ?_); rfl)
    | (go_at_call 28; (with_reducible refine (HM.out u1).mono ?_); rintro e u2 ⟨rfl, b2⟩; have B2 := Lib.hid (B1.out.next b2); clear b2)
    | (go_at_call 29; (with_reducible refine (HRM.out u2 B2.out).mono ?_); rintro e _ ⟨rfl, rfl⟩))
  go_ret
  exact ⟨rfl, B2.out⟩

theorem logL_lt {A : LogD} {V : LV} {v : Value} (i : Nat) (h : i < 10) : i < (logL A V v).length := h
/-- The log behind an append. -/
def LV.app (V : LV) (r : Rc) : LV := ⟨V.which, V.gen, V.recs ++ [r.bare], V.next + 1, V.clean⟩
def LV.foul (V : LV) : LV := ⟨V.which, V.gen, V.recs, V.next, false⟩
set_option maxHeartbeats 2000000 in
theorem log_append_go {B : Nat} {w : World} {A : LogD} {D : Dv} {V : LV} {sl : Value} (h : LogAt B w A D V sl) (hBw : B ≤ w.heap.size) (r : Rc) (hr : r.may = true) (hnx : V.next < 16) (hdn : D.dn = false) (hb : ∀ c, c < 2 → pgs D.C (atF A.L V.which c) V.next = ff) (hlen : V.recs.length ≤ 1000) :
    Calls Tryz.prog 9 #[.pointer (some ⟨A.l, 0, none⟩), .agg r.cells.toArray] w fun e w' => e = .returned (.int .i64 (runE (layP A.L V.which V.next (r.page V.next)) D)) ∧ Onl (A.S sl) w w' ∧
      (runE (layP A.L V.which V.next (r.page V.next)) D = 0 → ∃ sl', LogAt B w' A (runD (layP A.L V.which V.next (r.page V.next)) D) (V.app r) sl' ∧ ∀ k ∈ ob sl', k ∈ ob sl ∨ w.heap.size ≤ k) ∧
      (runE (layP A.L V.which V.next (r.page V.next)) D ≠ 0 → LogAt B w' A (runD (layP A.L V.which V.next (r.page V.next)) D) V.foul sl) := by
  have hfine := Rc.may_fine hr
  have HN : Hid (∀ u, LogAt B u A D V sl → Calls Tryz.prog 27 #[.pointer (some ⟨A.l, 0, none⟩)] u fun e w' => e = .returned (.bool false) ∧ u = w') := Lib.hid fun u hu => log_none_any hu
  have HRM : Hid (∀ u, LogAt B u A D V sl → Calls Tryz.prog 29 #[.pointer (some ⟨A.l, 0, none⟩)] u fun e w' => e = .returned (.int .i64 (16 - (V.next : Int))) ∧ u = w') := Lib.hid fun u hu => log_room_any hu
  have HM : Hid (∀ u, Calls Tryz.prog 28 #[.agg r.cells.toArray] u fun e w' => e = .returned (.bool true) ∧ Below u.heap.size u w') := Lib.hid fun u => by have := log_may_any r u; rwa [hr] at this
  have HPA : Hid (∀ u, LogAt B u A D V sl → Calls Tryz.prog 30 #[.pointer (some ⟨A.l, 0, none⟩), .int .i64 (V.next : Int), .agg r.cells.toArray] u fun e w' => e = .returned (.string (str (r.page V.next))) ∧ Below u.heap.size u w') := Lib.hid fun u hu => log_page_any hu r V.next hfine (by omega)
  have HFT : Hid (∀ u, LogAt B u A D V sl → Calls Tryz.prog 31 #[.pointer (some ⟨A.l, 0, none⟩), .string (str (r.page V.next))] u fun e w' => e = .returned (.tuple #[.bool true, .int .i64 0]) ∧ LogAt B w' A D V sl ∧ Onl A.sh.S u w') := Lib.hid fun u hu => log_fits_blank hu hdn hnx (r.page V.next) (Rc.page_length _ _) hb
  have hwh := h.wh
  have HLY : Hid (∀ u, LogAt B u A D V sl → Calls Tryz.prog 32 #[.pointer (some ⟨A.l, 0, none⟩), .int .i64 (V.which : Int), .int .i64 (V.next : Int), .string (str (r.page V.next))] u fun e w' => e = .returned (.int .i64 (runE (layP A.L V.which V.next (r.page V.next)) D)) ∧ LogAt B w' A (runD (layP A.L V.which V.next (r.page V.next)) D) V sl ∧ Onl A.sh.S u w') := Lib.hid fun u hu => log_lay_any hu V.which V.next hwh (by omega) (r.page V.next) (Rc.page_length _ _)
  have HBA : Hid (∀ u v, LstM 1 r.cells v u → Calls Tryz.prog 33 #[v] u fun e w' => (∃ v', e = .returned v' ∧ OwR u.heap.size 1 (rcs [r.bare]) v' w') ∧ Below u.heap.size u w') := Lib.hid fun u v hv => by
    obtain ⟨g, rfl, hl⟩ := hv
    exact log_bare (some ⟨g, 0, none⟩) 1 1 [r] u rfl (by omega) (by rw [rcs_one]; exact hl)
  have HL0 := Lib.hid h
  have HLOW := Lib.hid h.low
  have HC : Hid (∀ u, LogAt B u A D V sl → u.cell? ⟨A.l, 1, none⟩ = some (.int .i64 (V.which : Int)) ∧ u.cell? ⟨A.l, 4, none⟩ = some (.int .i64 (V.next : Int)) ∧ A.l < u.heap.size) := Lib.hid fun u hu => ⟨hu.c1, hu.c4, hu.lt⟩
  generalize runE (layP A.L V.which V.next (r.page V.next)) D = E at *
  generalize runD (layP A.L V.which V.next (r.page V.next)) D = D' at *
  have HC2 : Hid (∀ u, LogAt B u A D' V sl → u.cell? ⟨A.l, 3, none⟩ = some sl ∧ A.l < u.heap.size) := Lib.hid fun u hu => ⟨hu.c3, hu.lt⟩
  have HRB : Hid (rcs (V.recs ++ [r.bare]) = rcs V.recs ++ rcs [r.bare]) := Lib.hid (rcs_append _ _)
  generalize str (r.page V.next) = S at *
  have HSTEP : Hid (∀ u u' E2, LogAt B u A E2 V sl → Below u.heap.size u u' → LogAt B u' A E2 V sl) := Lib.hid fun u u' E2 h1 h2 => h1.step h2
  have hnxI : (V.next : Int) < 16 := by omega
  have hrm0 : ((16 : Int) - (V.next : Int) == 0) = false := by rw [beq_eq_false_iff_ne]; omega
  have HNXL := Lib.hid hnx
  obtain ⟨l, hl⟩ : ∃ l, A.l = l := ⟨_, rfl⟩
  have HAL := Lib.hid hl
  have H1B : Hid (rcs [r.bare] = r.bare.cells) := Lib.hid (rcs_one _)
  obtain ⟨k, s, n, v⟩ := r
  obtain ⟨XB, hXB⟩ : ∃ X, rcs [(⟨k, s, n, v⟩ : Rc).bare] = X := ⟨_, rfl⟩
  have HXB := Lib.hid hXB
  have HXL : Hid (XB.length = 1 * 4) := Lib.hid (by rw [← hXB]; rfl)
  have HX1 : Hid (XB.all (·.oneCell') = true) := Lib.hid (by rw [← hXB]; rfl)
  have LV4 : Hid ((rcv k s n v).length = 4) := Lib.hid rfl
  rw [hXB] at HBA HRB
  have HBW := Lib.hid hBw
  have HRL := Lib.hid hlen
  obtain ⟨wh, hwhe⟩ : ∃ x, V.which = x := ⟨_, rfl⟩
  obtain ⟨nx, hnxe⟩ : ∃ x, V.next = x := ⟨_, rfl⟩
  rw [hl] at HN HRM HPA HFT HLY HC HC2 ⊢
  rw [hwhe] at HLY HC
  rw [hnxe] at HRM HPA HLY HC hnxI hrm0
  have HNXE := Lib.hid hnxe
  clear h hr hfine hb hwh hnx hl hXB hBw hlen hwhe hnxe H1B hdn
  show Calls Tryz.prog 9 #[.pointer (some ⟨l, 0, none⟩), .agg (rcv k s n v).toArray] w _
  have HPA2 : Hid (∀ u, LogAt B u A D V sl → Calls Tryz.prog 30 #[.pointer (some ⟨l, 0, none⟩), .int .i64 (nx : Int), .agg (rcv k s n v).toArray] u fun e w' => e = .returned (.string S) ∧ Below u.heap.size u w') := HPA
  have HM2 : Hid (∀ u, Calls Tryz.prog 28 #[.agg (rcv k s n v).toArray] u fun e w' => e = .returned (.bool true) ∧ Below u.heap.size u w') := HM
  have HBA2 : Hid (∀ u v', LstM 1 (rcv k s n v) v' u → Calls Tryz.prog 33 #[v'] u fun e w' => (∃ v'', e = .returned v'' ∧ OwR u.heap.size 1 XB v'' w') ∧ Below u.heap.size u w') := HBA
  clear HPA HM HBA
  go_enter Tryz.func9, Tryz.ntmps9
  go_wp2_with (first
    | ((with_reducible refine wpBoxK (w := w) (rcv k s n v) 36 ?_ ?_); rfl; intro u1 r1 b1 s1; have R1 := Lib.hid r1; have B1 := Lib.hid b1; have L1 := Lib.hid (HL0.out.step b1); clear r1 b1 s1)
    | (go_at_call 27; (with_reducible refine (HN.out u1 L1.out).mono ?_); rintro e _ ⟨rfl, rfl⟩)
    | ((with_reducible refine R1.out.wpLoadG 36 fits_rec LV4.out ?_ ?_); rfl)
    | (go_at_call 28; (with_reducible refine (HM2.out u1).mono ?_); rintro e u2 ⟨rfl, b2⟩; have R2 := Lib.hid (R1.out.step b2); have L2 := Lib.hid (L1.out.step b2); have B2 := Lib.hid (B1.out.next b2); clear b2)
    | (go_at_call 29; (with_reducible refine (HRM.out u2 L2.out).mono ?_); rintro e _ ⟨rfl, rfl⟩))
  have C24 : Hid (u2.cell? ⟨l, 4, none⟩ = some (.int .i64 (nx : Int))) := Lib.hid (HC.out u2 L2.out).2.1
  have HLX2 : Hid (l < u2.heap.size) := Lib.hid (HC.out u2 L2.out).2.2
  clear R1 B1 L1
  refine region_invX [(0, 18), (1, 19), (2, 20), (3, 21), (4, 22), (5, 23), (6, 24), (7, 25), (8, 5)]
    (fun ii => [Is (.pointer (some ⟨l, 0, none⟩)), Is (.pointer (some ⟨l, 0, none⟩)), Is (.pointer (some ⟨l, 0, none⟩)), Is (.pointer (some ⟨l, 1, none⟩)), Is (.pointer (some ⟨l, 4, none⟩)), Is (.int .i64 (nx : Int)), Is (.agg ((rcv k s n v)).toArray), Is (.string S), Is (.string S)].getD ii (Is undef))
    (fun w' => Below u2.heap.size u2 w') (by kernel_rfl) (by kernel_rfl) (by decide) (by decide) (by kernel_rfl) rfl ?monoP ((Below.refl _ _).drew) ?stepP ?finP
  case monoP =>
    intro i
    match i with
    | 0 | 1 | 2 | 3 | 4 | 5 | 6 | 7 | 8 => exact Is.monot _
    | _ + 9 => exact Is.monot _
  case stepP =>
    refine List.forall_mem_cons.2 ⟨?Ps0, List.forall_mem_cons.2 ⟨?Ps1, List.forall_mem_cons.2 ⟨?Ps2, List.forall_mem_cons.2 ⟨?Ps3, List.forall_mem_cons.2 ⟨?Ps4, List.forall_mem_cons.2 ⟨?Ps5, List.forall_mem_cons.2 ⟨?Ps6, List.forall_mem_cons.2 ⟨?Ps7, List.forall_mem_cons.2 ⟨?Ps8, List.forall_mem_nil _⟩⟩⟩⟩⟩⟩⟩⟩⟩
    case Ps0 =>
      intro u wx hg hC
      clear hC
      refine wpOp_step rfl (fun K hK => ?_)
      simp only [puts, List.foldl]
      go_simp
      exact hK _ _ ⟨rfl, rfl, hg, Below.refl _ _⟩
    case Ps1 =>
      intro u wx hg hC
      clear hC
      refine wpOp_step rfl (fun K hK => ?_)
      simp only [puts, List.foldl]
      go_simp
      exact hK _ _ ⟨rfl, rfl, hg, Below.refl _ _⟩
    case Ps2 =>
      intro u wx hg hC
      have hJ1 : u 1 = (.pointer (some ⟨l, 0, none⟩)) := hC.at 1 (by kernel_rfl)
      clear hC
      refine wpOp_step rfl (fun K hK => ?_)
      simp only [puts, List.foldl]
      go_simp
      exact hK _ _ ⟨rfl, rfl, hg, Below.refl _ _⟩
    case Ps3 =>
      intro u wx hg hC
      have hJ2 : u 2 = (.pointer (some ⟨l, 0, none⟩)) := hC.at 2 (by kernel_rfl)
      clear hC
      refine wpOp_step rfl (fun K hK => ?_)
      simp only [puts, List.foldl]
      go_simp
      exact hK _ _ ⟨rfl, rfl, hg, Below.refl _ _⟩
    case Ps4 =>
      intro u wx hg hC
      have hJ3 : u 3 = (.pointer (some ⟨l, 1, none⟩)) := hC.at 3 (by kernel_rfl)
      clear hC
      refine wpOp_step rfl (fun K hK => ?_)
      simp only [puts, List.foldl]
      go_simp
      exact hK _ _ ⟨rfl, rfl, hg, Below.refl _ _⟩
    case Ps5 =>
      intro u wx hg hC
      have hJ4 : u 4 = (.pointer (some ⟨l, 4, none⟩)) := hC.at 4 (by kernel_rfl)
      clear hC
      have hcl : wx.cell? ⟨l, 4, none⟩ = some (.int .i64 (nx : Int)) := (hg.cell (p := ⟨l, 4, none⟩) HLX2.out).trans C24.out
      refine wpOp_step rfl (fun K hK => ?_)
      simp only [puts, List.foldl]
      go_simp
      exact hK _ _ ⟨rfl, rfl, hg, Below.refl _ _⟩
    case Ps6 =>
      intro u wx hg hC
      clear hC
      generalize hA : puts [(0, 18), (1, 19), (2, 20), (3, 21), (4, 22), (5, 23), (6, 24), (7, 25), (8, 5)] _ u = A
      have hp : A.tmps.getD 3 undef = (.pointer (some ⟨w.heap.size, 0, none⟩)) := by rw [← hA]; exact (puts_get_out u _ _ 3 (by decide)).trans (by rfl)
      have hsz : 24 < A.tmps.size := by rw [← hA]; exact puts_room u (by kernel_rfl)
      refine wpOp_step rfl (fun K hK => ?_)
      clear hA
      exact opLoadK (φ := Is (.agg ((rcv k s n v)).toArray)) ((R2.out.step hg)) _ (fits_rec) (rfl) 24 rfl hsz hK (.tmp 3) rfl hp rfl hg
    case Ps7 =>
      intro u wx hg hC
      have hJ0 : u 0 = (.pointer (some ⟨l, 0, none⟩)) := hC.at 0 (by kernel_rfl)
      have hJ5 : u 5 = (.int .i64 (nx : Int)) := hC.at 5 (by kernel_rfl)
      have hJ6 : u 6 = (.agg ((rcv k s n v)).toArray) := hC.at 6 (by kernel_rfl)
      clear hC
      refine wpOp_step rfl (fun K hK => ?_)
      simp only [puts, List.foldl]
      go_simp
      refine (HPA2.out wx (L2.out.step hg)).mono ?_
      rintro e w' ⟨rfl, hb'⟩
      exact hK _ _ ⟨rfl, rfl, hg.next hb', hb'⟩
    case Ps8 =>
      intro u wx hg hC
      have hJ7 : u 7 = (.string S) := hC.at 7 (by kernel_rfl)
      clear hC
      refine wpOp_step rfl (fun K hK => ?_)
      simp only [puts, List.foldl]
      go_simp
      exact hK _ _ ⟨rfl, rfl, hg, Below.refl _ _⟩
  case finP =>
    intro u ux hux hφ
    have e5 : u 8 = .string S := hφ (8, 5) (by decide)
    clear hφ
    simp only [puts, List.foldl]
    rw [e5]
    go_simp
    have R3 := Lib.hid (R2.out.step hux)
    have L3 := Lib.hid (L2.out.step hux)
    have B3 := Lib.hid (B2.out.next hux)
    have NSR : Hid (w.heap.size ∉ A.sh.S) := Lib.hid (fun h => by have := HLOW.out.1 _ (show w.heap.size ∈ A.S sl by simp [LogD.S, h]); omega)
    clear e5 hux R2 L2 B2 C24 HLX2
    go_wp2_with (go_at_call 31; (with_reducible refine (HFT.out ux L3.out).mono ?_); rintro e u6 ⟨rfl, l6, o6⟩; have L6 := Lib.hid l6; have R6 := Lib.hid (R3.out.onl o6 NSR.out); have O6 : Hid (Onl A.sh.S w u6) := Lib.hid ((Onl.of_below B3.out).trans o6); clear l6 o6)
    have C61 : Hid (u6.cell? ⟨l, 1, none⟩ = some (.int .i64 (wh : Int))) := Lib.hid (HC.out u6 L6.out).1
    have C64 : Hid (u6.cell? ⟨l, 4, none⟩ = some (.int .i64 (nx : Int))) := Lib.hid (HC.out u6 L6.out).2.1
    have HLX6 : Hid (l < u6.heap.size) := Lib.hid (HC.out u6 L6.out).2.2
    clear R3 L3 B3
    refine region_tail 12 [(0, 40), (1, 41), (2, 42), (3, 43), (4, 44), (5, 45), (6, 46), (7, 47), (8, 48), (9, 49), (10, 50), (11, 51)]
      (fun ii => [Is (.pointer (some ⟨l, 0, none⟩)), Is (.pointer (some ⟨l, 0, none⟩)), Is (.pointer (some ⟨l, 0, none⟩)), Is (.pointer (some ⟨l, 1, none⟩)), Is (.pointer (some ⟨l, 1, none⟩)), Is (.int .i64 (wh : Int)), Is (.pointer (some ⟨l, 0, none⟩)), Is (.pointer (some ⟨l, 0, none⟩)), Is (.pointer (some ⟨l, 1, none⟩)), Is (.pointer (some ⟨l, 4, none⟩)), Is (.int .i64 (nx : Int)), Is (.string S)].getD ii (Is undef))
      (fun w' => Below u6.heap.size u6 w') (by kernel_rfl) (by decide) (by kernel_rfl) (by kernel_rfl) (by kernel_rfl) (by decide) (by decide) (by kernel_rfl) rfl ?monoq ((Below.refl _ _).drew) ?stepq ?finq
    case monoq =>
      intro i
      match i with
      | 0 | 1 | 2 | 3 | 4 | 5 | 6 | 7 | 8 | 9 | 10 | 11 => exact Is.monot _
      | _ + 12 => exact Is.monot _
    case stepq =>
      refine List.forall_mem_cons.2 ⟨?qs0, List.forall_mem_cons.2 ⟨?qs1, List.forall_mem_cons.2 ⟨?qs2, List.forall_mem_cons.2 ⟨?qs3, List.forall_mem_cons.2 ⟨?qs4, List.forall_mem_cons.2 ⟨?qs5, List.forall_mem_cons.2 ⟨?qs6, List.forall_mem_cons.2 ⟨?qs7, List.forall_mem_cons.2 ⟨?qs8, List.forall_mem_cons.2 ⟨?qs9, List.forall_mem_cons.2 ⟨?qs10, List.forall_mem_cons.2 ⟨?qs11, List.forall_mem_nil _⟩⟩⟩⟩⟩⟩⟩⟩⟩⟩⟩⟩
      case qs0 =>
        intro u wx hg hC
        clear hC
        refine wpOp_step rfl (fun K hK => ?_)
        simp only [puts, List.foldl]
        go_simp
        exact hK _ _ ⟨rfl, rfl, hg, Below.refl _ _⟩
      case qs1 =>
        intro u wx hg hC
        clear hC
        refine wpOp_step rfl (fun K hK => ?_)
        simp only [puts, List.foldl]
        go_simp
        exact hK _ _ ⟨rfl, rfl, hg, Below.refl _ _⟩
      case qs2 =>
        intro u wx hg hC
        have hJ1 : u 1 = (.pointer (some ⟨l, 0, none⟩)) := hC.at 1 (by kernel_rfl)
        clear hC
        refine wpOp_step rfl (fun K hK => ?_)
        simp only [puts, List.foldl]
        go_simp
        exact hK _ _ ⟨rfl, rfl, hg, Below.refl _ _⟩
      case qs3 =>
        intro u wx hg hC
        have hJ2 : u 2 = (.pointer (some ⟨l, 0, none⟩)) := hC.at 2 (by kernel_rfl)
        clear hC
        refine wpOp_step rfl (fun K hK => ?_)
        simp only [puts, List.foldl]
        go_simp
        exact hK _ _ ⟨rfl, rfl, hg, Below.refl _ _⟩
      case qs4 =>
        intro u wx hg hC
        have hJ3 : u 3 = (.pointer (some ⟨l, 1, none⟩)) := hC.at 3 (by kernel_rfl)
        clear hC
        refine wpOp_step rfl (fun K hK => ?_)
        simp only [puts, List.foldl]
        go_simp
        exact hK _ _ ⟨rfl, rfl, hg, Below.refl _ _⟩
      case qs5 =>
        intro u wx hg hC
        have hJ4 : u 4 = (.pointer (some ⟨l, 1, none⟩)) := hC.at 4 (by kernel_rfl)
        clear hC
        have hcl : wx.cell? ⟨l, 1, none⟩ = some (.int .i64 (wh : Int)) := (hg.cell (p := ⟨l, 1, none⟩) HLX6.out).trans C61.out
        refine wpOp_step rfl (fun K hK => ?_)
        simp only [puts, List.foldl]
        go_simp
        exact hK _ _ ⟨rfl, rfl, hg, Below.refl _ _⟩
      case qs6 =>
        intro u wx hg hC
        clear hC
        refine wpOp_step rfl (fun K hK => ?_)
        simp only [puts, List.foldl]
        go_simp
        exact hK _ _ ⟨rfl, rfl, hg, Below.refl _ _⟩
      case qs7 =>
        intro u wx hg hC
        have hJ6 : u 6 = (.pointer (some ⟨l, 0, none⟩)) := hC.at 6 (by kernel_rfl)
        clear hC
        refine wpOp_step rfl (fun K hK => ?_)
        simp only [puts, List.foldl]
        go_simp
        exact hK _ _ ⟨rfl, rfl, hg, Below.refl _ _⟩
      case qs8 =>
        intro u wx hg hC
        have hJ7 : u 7 = (.pointer (some ⟨l, 0, none⟩)) := hC.at 7 (by kernel_rfl)
        clear hC
        refine wpOp_step rfl (fun K hK => ?_)
        simp only [puts, List.foldl]
        go_simp
        exact hK _ _ ⟨rfl, rfl, hg, Below.refl _ _⟩
      case qs9 =>
        intro u wx hg hC
        have hJ8 : u 8 = (.pointer (some ⟨l, 1, none⟩)) := hC.at 8 (by kernel_rfl)
        clear hC
        refine wpOp_step rfl (fun K hK => ?_)
        simp only [puts, List.foldl]
        go_simp
        exact hK _ _ ⟨rfl, rfl, hg, Below.refl _ _⟩
      case qs10 =>
        intro u wx hg hC
        have hJ9 : u 9 = (.pointer (some ⟨l, 4, none⟩)) := hC.at 9 (by kernel_rfl)
        clear hC
        have hcl : wx.cell? ⟨l, 4, none⟩ = some (.int .i64 (nx : Int)) := (hg.cell (p := ⟨l, 4, none⟩) HLX6.out).trans C64.out
        refine wpOp_step rfl (fun K hK => ?_)
        simp only [puts, List.foldl]
        go_simp
        exact hK _ _ ⟨rfl, rfl, hg, Below.refl _ _⟩
      case qs11 =>
        intro u wx hg hC
        clear hC
        refine wpOp_step rfl (fun K hK => ?_)
        simp only [puts, List.foldl]
        go_simp
        exact hK _ _ ⟨rfl, rfl, hg, Below.refl _ _⟩
    case finq =>
      intro u x7 hb7 hφ
      have e40 : u 0 = .pointer (some ⟨l, 0, none⟩) := hφ (0, 40) (by decide)
      have e45 : u 5 = .int .i64 (wh : Int) := hφ (5, 45) (by decide)
      have e50 : u 10 = .int .i64 (nx : Int) := hφ (10, 50) (by decide)
      have e51 : u 11 = .string S := hφ (11, 51) (by decide)
      clear hφ
      simp only [puts, List.foldl]
      rw [e40, e45, e50, e51]
      go_simp
      have L7 := Lib.hid (L6.out.step hb7)
      have R7 := Lib.hid (R6.out.step hb7)
      have O7 := Lib.hid (O6.out.step hb7)
      clear e40 e45 e50 e51 hb7 L6 R6 O6 C61 C64 HLX6
      by_cases hez : E = 0
      · subst hez
        go_wp2_with (go_at_call 32; (with_reducible refine (HLY.out x7 L7.out).mono ?_); rintro e u8 ⟨rfl, l8, o8⟩; have L8 := Lib.hid l8; have R8 := Lib.hid (R7.out.onl o8 NSR.out); have O8 : Hid (Onl A.sh.S w u8) := Lib.hid (O7.out.trans o8); clear l8 o8)
        have C83 : Hid (u8.cell? ⟨l, 3, none⟩ = some sl) := Lib.hid (HC2.out u8 L8.out).1
        have HLX8 : Hid (l < u8.heap.size) := Lib.hid (HC2.out u8 L8.out).2
        have HBW8 : Hid (B ≤ u8.heap.size) := Lib.hid (Nat.le_trans HBW.out O8.out.size)
        have OW8 := Lib.hid L8.out.own
        have HBG : Big (V.recs.length + 1 ≤ 1099511627776) := ⟨by have := HRL.out; omega⟩
        have HP4 : Hid (0 < 4) := Lib.hid (by omega)
        have HP1 : Hid (0 < 1) := Lib.hid (by omega)
        clear L7 R7 O7
        refine region_tailS 10 9 [0] [(0, 60), (1, 61), (2, 62), (3, 63), (4, 64), (5, 65), (6, 66), (7, 67), (8, 68), (9, 69)]
          (fun ii => [Is (.pointer (some ⟨l, 0, none⟩)), Is (.pointer (some ⟨l, 0, none⟩)), Is (.pointer (some ⟨l, 0, none⟩)), Is (.pointer (some ⟨l, 1, none⟩)), Is (.pointer (some ⟨l, 3, none⟩)), Is sl, Is (.agg ((rcv k s n v)).toArray), LstM 1 (rcv k s n v), OwR u8.heap.size 1 XB, Is undef].getD ii (Is undef))
          (fun _ v => v = .pointer (some ⟨l, 0, none⟩))
          (fun w' => Below u8.heap.size u8 w') (fun zv w' => w'.ownsRow B 36 4 zv (V.recs.length + 1) (rcs V.recs ++ XB) ∧ (∀ j ∈ ob zv, j ∈ ob sl ∨ u8.heap.size ≤ j) ∧ (∃ a m c, zv = .slice a m c) ∧ Onl (ob sl) u8 w')
          (by kernel_rfl) (by decide) (by kernel_rfl) (by kernel_rfl) (by kernel_rfl) (by decide) (by decide) (by kernel_rfl) rfl (by decide) (by decide) (by kernel_rfl) ?monoZ ((Below.refl _ _).drew) ?stepZ ?stepXZ ?stepSZ ?finZ
        case monoZ =>
          intro i
          match i with
          | 0 | 1 | 2 | 3 | 4 | 5 | 6 => exact Is.monot _
          | 7 => exact LstM.monot _ _
          | 8 => exact OwR.monot _ _ _
          | 9 => exact Is.monot _
          | _ + 10 => exact Is.monot _
        case stepZ =>
          refine List.forall_mem_cons.2 ⟨?Zs0, List.forall_mem_cons.2 ⟨?Zs1, List.forall_mem_cons.2 ⟨?Zs2, List.forall_mem_cons.2 ⟨?Zs3, List.forall_mem_cons.2 ⟨?Zs4, List.forall_mem_cons.2 ⟨?Zs5, List.forall_mem_cons.2 ⟨?Zs6, List.forall_mem_cons.2 ⟨?Zs7, List.forall_mem_cons.2 ⟨?Zs8, List.forall_mem_cons.2 ⟨?Zs9, List.forall_mem_nil _⟩⟩⟩⟩⟩⟩⟩⟩⟩⟩
          case Zs0 =>
            intro _ hx; exact absurd (by decide) hx
          case Zs1 =>
            intro _ _
            intro u wx hg hC
            clear hC
            refine wpOp_step rfl (fun K hK => ?_)
            simp only [puts, List.foldl]
            go_simp
            exact hK _ _ ⟨rfl, rfl, hg, Below.refl _ _⟩
          case Zs2 =>
            intro _ _
            intro u wx hg hC
            have hJ1 : u 1 = (.pointer (some ⟨l, 0, none⟩)) := hC.at 1 (by kernel_rfl) (by decide)
            clear hC
            refine wpOp_step rfl (fun K hK => ?_)
            simp only [puts, List.foldl]
            go_simp
            exact hK _ _ ⟨rfl, rfl, hg, Below.refl _ _⟩
          case Zs3 =>
            intro _ _
            intro u wx hg hC
            have hJ2 : u 2 = (.pointer (some ⟨l, 0, none⟩)) := hC.at 2 (by kernel_rfl) (by decide)
            clear hC
            refine wpOp_step rfl (fun K hK => ?_)
            simp only [puts, List.foldl]
            go_simp
            exact hK _ _ ⟨rfl, rfl, hg, Below.refl _ _⟩
          case Zs4 =>
            intro _ _
            intro u wx hg hC
            have hJ3 : u 3 = (.pointer (some ⟨l, 1, none⟩)) := hC.at 3 (by kernel_rfl) (by decide)
            clear hC
            refine wpOp_step rfl (fun K hK => ?_)
            simp only [puts, List.foldl]
            go_simp
            exact hK _ _ ⟨rfl, rfl, hg, Below.refl _ _⟩
          case Zs5 =>
            intro _ _
            intro u wx hg hC
            have hJ4 : u 4 = (.pointer (some ⟨l, 3, none⟩)) := hC.at 4 (by kernel_rfl) (by decide)
            clear hC
            have hcl : wx.cell? ⟨l, 3, none⟩ = some sl := (hg.cell (p := ⟨l, 3, none⟩) HLX8.out).trans C83.out
            refine wpOp_step rfl (fun K hK => ?_)
            simp only [puts, List.foldl]
            go_simp
            exact hK _ _ ⟨rfl, rfl, hg, Below.refl _ _⟩
          case Zs6 =>
            intro _ _
            intro u wx hg hC
            clear hC
            generalize hA : puts [(0, 60), (1, 61), (2, 62), (3, 63), (4, 64), (5, 65), (6, 66), (7, 67), (8, 68), (9, 69)] _ u = A
            have hp : A.tmps.getD 3 undef = (.pointer (some ⟨w.heap.size, 0, none⟩)) := by rw [← hA]; exact (puts_get_out u _ _ 3 (by decide)).trans (by rfl)
            have hsz : 66 < A.tmps.size := by rw [← hA]; exact puts_room u (by kernel_rfl)
            refine wpOp_step rfl (fun K hK => ?_)
            clear hA
            exact opLoadK (φ := Is (.agg ((rcv k s n v)).toArray)) ((R8.out.step hg)) _ (fits_rec) (rfl) 66 rfl hsz hK (.tmp 3) rfl hp rfl hg
          case Zs7 =>
            intro _ _
            intro u wx hg hC
            have hJ6 : u 6 = (.agg ((rcv k s n v)).toArray) := hC.at 6 (by kernel_rfl) (by decide)
            clear hC
            refine wpOp_step rfl (fun K hK => ?_)
            simp only [puts, List.foldl]
            go_simp
            exact hK _ _ ⟨rfl, ⟨wx.heap.size, rfl, Lies.new _ wx _⟩, hg.next (alloc_below _ _), alloc_below _ _⟩
          case Zs8 =>
            intro _ _
            intro u wx hg hC
            have hJ7 : (LstM 1 (rcv k s n v)) (u 7) wx := hC.at 7 (by kernel_rfl) (by decide)
            clear hC
            refine wpOp_step rfl (fun K hK => ?_)
            simp only [puts, List.foldl]
            go_simp
            refine (HBA2.out wx _ hJ7).mono ?_
            rintro e w' ⟨⟨v', rfl, ho'⟩, hb'⟩
            exact hK _ _ ⟨rfl, (own_mono ho' hg.size), hg.next hb', hb'⟩
          case Zs9 =>
            intro hx; exact absurd rfl hx
        case stepXZ =>
          refine List.forall_mem_cons.2 ⟨?Zx0, List.forall_mem_cons.2 ⟨?Zx1, List.forall_mem_cons.2 ⟨?Zx2, List.forall_mem_cons.2 ⟨?Zx3, List.forall_mem_cons.2 ⟨?Zx4, List.forall_mem_cons.2 ⟨?Zx5, List.forall_mem_cons.2 ⟨?Zx6, List.forall_mem_cons.2 ⟨?Zx7, List.forall_mem_cons.2 ⟨?Zx8, List.forall_mem_cons.2 ⟨?Zx9, List.forall_mem_nil _⟩⟩⟩⟩⟩⟩⟩⟩⟩⟩
          case Zx0 =>
            intro _ u wx
            refine wpOp_step rfl (fun K hK => ?_)
            simp only [puts, List.foldl]
            go_simp
            exact hK _ _ ⟨rfl, rfl, rfl⟩
          case Zx1 =>
            intro hx; exact absurd hx (by decide)
          case Zx2 =>
            intro hx; exact absurd hx (by decide)
          case Zx3 =>
            intro hx; exact absurd hx (by decide)
          case Zx4 =>
            intro hx; exact absurd hx (by decide)
          case Zx5 =>
            intro hx; exact absurd hx (by decide)
          case Zx6 =>
            intro hx; exact absurd hx (by decide)
          case Zx7 =>
            intro hx; exact absurd hx (by decide)
          case Zx8 =>
            intro hx; exact absurd hx (by decide)
          case Zx9 =>
            intro hx; exact absurd hx (by decide)
        case stepSZ =>
          refine List.forall_mem_cons.2 ⟨?Zt0, List.forall_mem_cons.2 ⟨?Zt1, List.forall_mem_cons.2 ⟨?Zt2, List.forall_mem_cons.2 ⟨?Zt3, List.forall_mem_cons.2 ⟨?Zt4, List.forall_mem_cons.2 ⟨?Zt5, List.forall_mem_cons.2 ⟨?Zt6, List.forall_mem_cons.2 ⟨?Zt7, List.forall_mem_cons.2 ⟨?Zt8, List.forall_mem_cons.2 ⟨?Zt9, List.forall_mem_nil _⟩⟩⟩⟩⟩⟩⟩⟩⟩⟩
          case Zt0 =>
            intro hx; exact absurd hx (by decide)
          case Zt1 =>
            intro hx; exact absurd hx (by decide)
          case Zt2 =>
            intro hx; exact absurd hx (by decide)
          case Zt3 =>
            intro hx; exact absurd hx (by decide)
          case Zt4 =>
            intro hx; exact absurd hx (by decide)
          case Zt5 =>
            intro hx; exact absurd hx (by decide)
          case Zt6 =>
            intro hx; exact absurd hx (by decide)
          case Zt7 =>
            intro hx; exact absurd hx (by decide)
          case Zt8 =>
            intro hx; exact absurd hx (by decide)
          case Zt9 =>
            intro _ u wx hg hC
            have hJ5 : u 5 = sl := hC.at 5 (by kernel_rfl) (by decide)
            have hJ8 : OwR u8.heap.size 1 XB (u 8) wx := hC.at 8 (by kernel_rfl) (by decide)
            clear hC
            obtain ⟨pa, pc, hv8, hl8⟩ := own_formM hJ8
            generalize hA : puts [(0, 60), (1, 61), (2, 62), (3, 63), (4, 64), (5, 65), (6, 66), (7, 67), (8, 68), (9, 69)] _ u = A2
            have hp : A2.tmps.getD 65 undef = sl := by rw [← hA]; exact (puts_get u 5 65 _ _ (by decide) (by decide) (by kernel_rfl)).trans hJ5
            have hq : A2.tmps.getD 68 undef = .slice pa 1 pc := by rw [← hA]; exact ((puts_get u 8 68 _ _ (by decide) (by decide) (by kernel_rfl)).trans hv8)
            have hsz : 69 < A2.tmps.size := by rw [← hA]; exact puts_room u (by kernel_rfl)
            refine wpOp_step rfl (fun K hK => ?_)
            clear hA
            refine opAppendN pc (owns_step OW8.out hg) Tryz.underlying22 many_rec hl8 HXL.out HP1.out HP4.out HX1.out HBG (Nat.le_trans HBW8.out hg.size) (.tmp 65) (.tmp 68) rfl hp hq fun v' w' g1 g2 g3 => hK _ _ ⟨put_defers _ _ _, ?_⟩
            have hval : (A2.put (some 69) v').tmps.getD 69 undef = v' := put_get A2 69 _ hsz
            suffices hall : ∀ z, z = v' → (fun zv w' => w'.ownsRow B 36 4 zv (V.recs.length + 1) (rcs V.recs ++ XB) ∧ (∀ j ∈ ob zv, j ∈ ob sl ∨ u8.heap.size ≤ j) ∧ (∃ a m c, zv = .slice a m c) ∧ Onl (ob sl) u8 w') z w' from hall _ hval
            intro z hz
            rw [hz]
            refine ⟨g1, fun j hj => ?_, ?_, (Onl.of_below hg).trans (grown_onl g2)⟩
            · rcases g3 with g3 | g3
              · left; rw [mem_ob] at hj ⊢; rw [← g3]; exact hj
              · right; rw [mem_ob, g3] at hj; cases hj; exact hg.size
            · obtain ⟨a3, c3, h3, _⟩ := own_formM g1; exact ⟨a3, _, c3, h3⟩
        case finZ =>
          intro u w9 hh hx
          have e0 : u 0 = .pointer (some ⟨l, 0, none⟩) := hx (0, 60) (by decide) (by decide)
          obtain ⟨g1, g2, ⟨a3, m3, c3, g3⟩, g4⟩ := hh
          clear hx
          simp only [puts, List.foldl]
          rw [e0, g3]
          rw [g3] at g1 g2
          go_simp
          have NL : Hid (l ∉ ob sl) := Lib.hid (fun h => L8.out.o_l l h HAL.out.symm)
          have NT : Hid (A.tb ∉ ob sl) := Lib.hid L8.out.tow
          have DV9 : Hid (Dvx w9 A.sh D') := Lib.hid (L8.out.dev.onl g4 (fun j hj h => L8.out.o_dev j h hj))
          have RL9 : Hid (Row w9 l 63 (logL A V sl)) := Lib.hid ((by rw [← HAL.out]; exact L8.out.row : Row u8 l 63 (logL A V sl)).onl g4 NL.out)
          have TB9 : Hid (TabAt w9 A.tb) := Lib.hid (L8.out.tab.onl g4 NT.out)
          have G1 := Lib.hid g1
          have G2 := Lib.hid g2
          have O9 := Lib.hid g4
          clear e0 g1 g2 g3 g4
          go_wp2_with (first
            | ((with_reducible refine RL9.out.wpStore1K 3 22 (.slice a3 m3 c3) finfo_recs (logL_lt 3 (by decide)) (slice_cells _ _ _) (slice_one _ _ _) ?_ ?_); rfl; intro x1 r1 o1 s1; have RL10 : Hid (Row x1 l 63 (logL A V (.slice a3 m3 c3))) := Lib.hid r1; have c4 : x1.cell? ⟨l, 4, none⟩ = some (.int .i64 (nx : Int)) := (by rw [← HNXE.out]; exact r1.cell 4); have HO1 := Lib.hid o1; clear r1 o1 s1)
            | ((with_reducible refine RL10.out.wpStore1K 4 3 (.int .i64 ((nx : Int) + 1)) finfo_int (logL_lt 4 (by decide)) (int_cells _ _) (int_one _ _) ?_ ?_); rfl; intro x2 r2 o2 s2; have RX := Lib.hid r2; have HO2 := Lib.hid o2; clear r2 o2 s2))
          go_ret
          have ho : Only A.l w9 x2 := by rw [HAL.out]; exact HO1.out.trans HO2.out
          have hrow : Row x2 A.l 63 (logL A (V.app ⟨k, s, n, v⟩) (.slice a3 m3 c3)) := by
            rw [HAL.out]
            have := RX.out
            have e : (logL A V (.slice a3 m3 c3)).set 4 (.int .i64 ((nx : Int) + 1)) = logL A (V.app ⟨k, s, n, v⟩) (.slice a3 m3 c3) := by
              have h1 : ((V.app ⟨k, s, n, v⟩).next : Int) = (nx : Int) + 1 := by show ((V.next + 1 : Nat) : Int) = _; rw [HNXE.out]; omega
              unfold logL
              rw [h1]
              rfl
            rw [e] at this
            exact this
          refine ⟨rfl, ?_, ⟨.slice a3 m3 c3, ?_, fun j hj => ?_⟩⟩
          · refine (O8.out.mono (fun j hj => by simp [LogD.S, hj])).trans ((O9.out.mono (fun j hj => by simp [LogD.S, hj])).trans (Onl.of_only ho (by simp [LogD.S])))
          · have hol : Onl [A.l] w9 x2 := Onl.of_only ho (by simp)
            refine ⟨DV9.out.onl hol (fun j hj h => L8.out.l_dev (by rw [← List.mem_singleton.1 h]; exact hj)), hrow, TB9.out.only ho L8.out.tl, ?_, L8.out.geo, L8.out.fit, L8.out.wh, ?_, L8.out.bs, L8.out.bl, L8.out.tl, L8.out.ts, fun h => ?_⟩
            · have h1 := owns_only G1.out ho (fun j hj => by
                rcases G2.out j (mem_ob.2 hj) with h | h
                · exact L8.out.o_l j h
                · have := L8.out.lt; omega)
              show World.ownsRow _ _ _ _ _ (V.recs ++ [_]).length (rcs (V.recs ++ [_]))
              rw [HRB.out, List.length_append]
              exact h1
            · show V.next + 1 ≤ 16
              have := HNXL.out
              omega
            · rcases G2.out _ h with h | h
              · exact NT.out h
              · have := L8.out.tab.lt; omega
          · rcases G2.out j hj with h | h
            · exact .inl h
            · exact .inr (Nat.le_trans O8.out.size h)
      · have hne1 : (E != 0) = true := bne_iff_ne.2 hez
        have HEZ := Lib.hid hez
        clear hez
        go_wp2_with (first
          | (go_at_call 32; (with_reducible refine (HLY.out x7 L7.out).mono ?_); rintro e u8 ⟨rfl, l8, o8⟩; have L8 := Lib.hid l8; have RL8 : Hid (Row u8 l 63 (logL A V sl)) := Lib.hid (by rw [← HAL.out]; exact l8.row); have O8 : Hid (Onl A.sh.S w u8) := Lib.hid (O7.out.trans o8); clear l8 o8)
          | ((with_reducible refine RL8.out.wpStore1K 5 4 (.bool false) finfo_bool (logL_lt 5 (by decide)) (bool_cells _) (bool_one _) ?_ ?_); rfl; intro u9 r9 o9 s9; have R9 : Hid (Row u9 l 63 (logL A V.foul sl)) := Lib.hid r9; have O9 := Lib.hid o9; clear r9 o9 s9))
        go_ret
        refine ⟨rfl, (O8.out.mono (fun k hk => by simp [LogD.S, hk])).trans (Onl.of_only O9.out (by rw [← HAL.out]; simp [LogD.S])), fun h => absurd h HEZ.out, fun _ => ?_⟩
        have hr9 := R9.out
        have ho9 := O9.out
        rw [← HAL.out] at hr9 ho9
        exact L8.out.setHalf hr9 ho9 L8.out.own L8.out.wh L8.out.nx L8.out.tow
end Go.Proofs.YtbnjenbhpaknbaaGreat

/- fill, ask. -/
namespace Go.Proofs.YtbnjenbhpaknbaaGreat
open Go.RowKit CrcMath NumMath FlaMath GeoMath
set_option linter.unusedVariables false
set_option maxRecDepth 100000

theorem fill_go {W : List Fop} {g : Nat → List Fop} {k : Nat} {D : Dv} (h : runE (W ++ seqF k g) D = 0) (h2 : runE (g k) (runD (W ++ seqF k g) D) = 0) : runE (W ++ seqF (k + 1) g) D = 0 ∧ runD (W ++ seqF (k + 1) g) D = runD (g k) (runD (W ++ seqF k g) D) := by
  rw [seqF_succ, ← List.append_assoc]; exact run_go h h2
theorem fill_stop {W : List Fop} {g : Nat → List Fop} {n k : Nat} {D : Dv} (hk : k < n) (h : runE (W ++ seqF k g) D = 0) (h2 : runE (g k) (runD (W ++ seqF k g) D) ≠ 0) : runE (W ++ seqF n g) D = runE (g k) (runD (W ++ seqF k g) D) ∧ runD (W ++ seqF n g) D = runD (g k) (runD (W ++ seqF k g) D) := by
  obtain ⟨r, hr⟩ := seqF_split g hk
  rw [hr, ← List.append_assoc, ← List.append_assoc]
  exact run_stop r h h2
set_option maxHeartbeats 1000000 in
theorem log_fill_any {B : Nat} {w : World} {A : LogD} {D : Dv} {V : LV} {sl : Value} (h : LogAt B w A D V sl) (a : Nat) (ha : a < 2) (p : Option Addr) (n cap : Nat) (l : List Rc) (hn : l.length = n) (hn2 : n ≤ 16) (hf : ∀ r ∈ l, r.fine = true) (hr : ∀ u, Onl A.sh.S w u → Lies u u.heap.size p (rcs l)) :
    Calls Tryz.prog 53 #[.pointer (some ⟨A.l, 0, none⟩), .int .i64 (a : Int), .slice p n cap] w fun e w' => e = .returned (.int .i64 (runE (fillF A.L a l) D)) ∧ LogAt B w' A (runD (fillF A.L a l) D) V sl ∧ Onl A.sh.S w w' := by
  have HWP := Lib.hid (log_wipe_any h a ha)
  have HPA : Hid (∀ (u : World) (o : List Fop) (r : Rc) (k : Nat), r.fine = true → k < 16 → LogAt B u A (runD o D) V sl → Calls Tryz.prog 30 #[.pointer (some ⟨A.l, 0, none⟩), .int .i64 (k : Int), .agg r.cells.toArray] u fun e w' => e = .returned (.string (str (r.page k))) ∧ Below u.heap.size u w') := Lib.hid fun u o r k h1 h2 hu => log_page_any hu r k h1 (by omega)
  have HLY : Hid (∀ (u : World) (o : List Fop) (r : Rc) (k : Nat), k < 16 → LogAt B u A (runD o D) V sl → Calls Tryz.prog 32 #[.pointer (some ⟨A.l, 0, none⟩), .int .i64 (a : Int), .int .i64 (k : Int), .string (str (r.page k))] u fun e w' => e = .returned (.int .i64 (runE (layP A.L a k (r.page k)) (runD o D))) ∧ LogAt B w' A (runD (layP A.L a k (r.page k)) (runD o D)) V sl ∧ Onl A.sh.S u w') := Lib.hid fun u o r k h1 hu => log_lay_any hu a k ha (by omega) (r.page k) (Rc.page_length _ _)
  have HST : Hid (∀ (u u' : World) (o : List Fop), LogAt B u A (runD o D) V sl → Below u.heap.size u u' → LogAt B u' A (runD o D) V sl) := Lib.hid fun u u' o h1 h2 => h1.step h2
  have HR := Lib.hid hr
  have HNL := Lib.hid hn
  have HFI := Lib.hid hf
  have haI : (a : Int) < 2 := by omega
  have hnI : (n : Int) ≤ 16 := by omega
  have HFL : Hid (fillF A.L a l = wipeF A.L a ++ seqF n (fillP A.L a l)) := Lib.hid (by unfold fillF; rw [hn])
  have HGK : Hid (∀ k (hk : k < l.length), fillP A.L a l k = layP A.L a k ((l[k]).page k)) := Lib.hid fun k hk => by unfold fillP; rw [List.getD_eq_getElem?_getD, List.getElem?_eq_getElem hk]; rfl
  have H16 := Lib.hid hn2
  rw [HFL.out]
  generalize fillP A.L a l = g at *
  generalize wipeF A.L a = W at *
  obtain ⟨b, hbl⟩ : ∃ b, A.l = b := ⟨_, rfl⟩
  rw [hbl] at HWP HPA HLY ⊢
  clear h hr hn hf hn2 hbl HFL
  go_enter Tryz.func53, Tryz.ntmps53
  by_cases he0 : runE W D = 0
  · have H0 : Hid (runE (W ++ seqF 0 g) D = 0 ∧ runD W D = runD (W ++ seqF 0 g) D) := Lib.hid (by rw [seqF_zero, List.append_nil]; exact ⟨he0, rfl⟩)
    rw [he0, H0.out.2] at HWP
    clear he0
    go_wp2_with (go_at_call 25; (with_reducible refine HWP.out.mono ?_); rintro e u1 ⟨rfl, l1, o1⟩; have L1 := Lib.hid l1; have O1 := Lib.hid o1; clear l1 o1)
    go_loopw [19] (fun i wr => ∃ k : Nat, k ≤ n ∧ i = .int .i64 k ∧ runE (W ++ seqF k g) D = 0 ∧ LogAt B wr A (runD (W ++ seqF k g) D) V sl ∧ Onl A.sh.S w wr) (fun i _ => n - (intOf i).toNat)
    case atStart => exact ⟨0, Nat.zero_le _, rfl, H0.out.1, L1.out, O1.out⟩
    case round =>
      clear L1 O1 H0 HWP
      obtain ⟨k, hk, rfl, hrz, hla, hon⟩ := hrel
      have HRZ := Lib.hid hrz
      have LA := Lib.hid hla
      have ON := Lib.hid hon
      clear hrz hla hon
      by_cases hlt : k < n
      · have hk1 : (k : Int) < (n : Int) := by omega
        have hkl : Hid (k < l.length) := Lib.hid (by rw [HNL.out]; exact hlt)
        obtain ⟨bl, off, hp, hbb, hc⟩ := HR.out wr ON.out (by rw [rcs_length, HNL.out]; omega)
        have HRG : Hid (wr.rangeAt bl (off + k * 4) (l[k]'hkl.out).cells) := Lib.hid (rcs_at hc k hkl.out)
        have hk16 : k < 16 := by have := H16.out; omega
        have HPK : Hid (∀ u, LogAt B u A (runD (W ++ seqF k g) D) V sl → Calls Tryz.prog 30 #[.pointer (some ⟨b, 0, none⟩), .int .i64 (k : Int), .agg (l[k]'hkl.out).cells.toArray] u fun e w' => e = .returned (.string (str ((l[k]'hkl.out).page k))) ∧ Below u.heap.size u w') := Lib.hid fun u hu => HPA.out u _ _ k (HFI.out _ (List.getElem_mem hkl.out)) hk16 hu
        have HLK : Hid (∀ u, LogAt B u A (runD (W ++ seqF k g) D) V sl → Calls Tryz.prog 32 #[.pointer (some ⟨b, 0, none⟩), .int .i64 (a : Int), .int .i64 (k : Int), .string (str ((l[k]'hkl.out).page k))] u fun e w' => e = .returned (.int .i64 (runE (g k) (runD (W ++ seqF k g) D))) ∧ LogAt B w' A (runD (g k) (runD (W ++ seqF k g) D)) V sl ∧ Onl A.sh.S u w') := Lib.hid fun u hu => by
          rw [HGK.out k hkl.out]
          exact HLY.out u _ _ k hk16 hu
        have HGO : Hid (runE (g k) (runD (W ++ seqF k g) D) = 0 → runE (W ++ seqF (k + 1) g) D = 0 ∧ runD (W ++ seqF (k + 1) g) D = runD (g k) (runD (W ++ seqF k g) D)) := Lib.hid fun h => fill_go HRZ.out h
        have HSTOP : Hid (runE (g k) (runD (W ++ seqF k g) D) ≠ 0 → runE (W ++ seqF n g) D = runE (g k) (runD (W ++ seqF k g) D) ∧ runD (W ++ seqF n g) D = runD (g k) (runD (W ++ seqF k g) D)) := Lib.hid fun h => fill_stop hlt HRZ.out h
        have LW : Hid ((l[k]'hkl.out).cells.length = 4) := Lib.hid rfl
        have W1 : Hid ((l[k]'hkl.out).cells.all (·.oneCell') = true) := Lib.hid rfl
        generalize runE (g k) (runD (W ++ seqF k g) D) = E at *
        generalize runD (g k) (runD (W ++ seqF k g) D) = DN at *
        generalize (l[k]'hkl.out).cells = V1 at *
        generalize str ((l[k]'hkl.out).page k) = S at *
        subst hp
        clear hc HPA HLY HGK HR
        have HNX : Hid (∀ h : w.heap.size ≤ w.heap.size, True) := Lib.hid fun _ => trivial
        by_cases hez : E = 0
        · have HGO2 := Lib.hid (HGO.out hez)
          subst hez
          clear HGO HSTOP
          go_wp2_with (first
            | ((with_reducible refine wpLoadRK HRG.out 36 fits_rec LW.out ?_ ?_); rfl)
            | ((with_reducible refine wpAllocK (w := wr) (rcv 0 0 0 0) 36 zero_rec ?_ ?_); rfl; intro x1 r1 b1 s1; have R1 := Lib.hid r1; have L1 := Lib.hid (HST.out _ _ _ LA.out b1); have O1 := Lib.hid (ON.out.step b1); have B1 := Lib.hid b1; clear r1 b1 s1)
            | ((with_reducible refine R1.out.wpStoreK 36 V1 fits_rec rfl LW.out W1.out ?_ ?_); rfl; intro x2 r2 o2 s2; have R2 := Lib.hid r2; have BX2 : Hid (Below wr.heap.size x1 x2) := Lib.hid (o2.below (Nat.le_refl _) B1.out.size); have L2 := Lib.hid (LogAt.keep LA.out L1.out BX2.out); have O2 := Lib.hid (O1.out.belowB (BX2.out.mono ON.out.size)); clear r2 o2 s2)
            | ((with_reducible refine R2.out.wpLoadK 36 fits_rec LW.out ?_ ?_); rfl)
            | (go_at_call 30; (with_reducible refine (HPK.out x2 L2.out).mono ?_); rintro e x3 ⟨rfl, b3⟩; have L3 := Lib.hid (HST.out _ _ _ L2.out b3); have O3 := Lib.hid (O2.out.step b3); clear b3)
            | (go_at_call 32; (with_reducible refine (HLK.out x3 L3.out).mono ?_); rintro e x4 ⟨rfl, l4, o4⟩; have L4 := Lib.hid l4; have O4 := Lib.hid (O3.out.trans o4); clear l4 o4))
          go_roundw
          case rel => exact ⟨k + 1, by omega, by go_num, HGO2.out.1, by rw [HGO2.out.2]; exact L4.out, O4.out⟩
          case measure => simp [intOf]; omega
        · have hne1 : (E != 0) = true := bne_iff_ne.2 hez
          have HST2 := Lib.hid (HSTOP.out hez)
          clear HGO HSTOP hez
          go_wp2_with (first
            | ((with_reducible refine wpLoadRK HRG.out 36 fits_rec LW.out ?_ ?_); rfl)
            | ((with_reducible refine wpAllocK (w := wr) (rcv 0 0 0 0) 36 zero_rec ?_ ?_); rfl; intro x1 r1 b1 s1; have R1 := Lib.hid r1; have L1 := Lib.hid (HST.out _ _ _ LA.out b1); have O1 := Lib.hid (ON.out.step b1); have B1 := Lib.hid b1; clear r1 b1 s1)
            | ((with_reducible refine R1.out.wpStoreK 36 V1 fits_rec rfl LW.out W1.out ?_ ?_); rfl; intro x2 r2 o2 s2; have R2 := Lib.hid r2; have BX2 : Hid (Below wr.heap.size x1 x2) := Lib.hid (o2.below (Nat.le_refl _) B1.out.size); have L2 := Lib.hid (LogAt.keep LA.out L1.out BX2.out); have O2 := Lib.hid (O1.out.belowB (BX2.out.mono ON.out.size)); clear r2 o2 s2)
            | ((with_reducible refine R2.out.wpLoadK 36 fits_rec LW.out ?_ ?_); rfl)
            | (go_at_call 30; (with_reducible refine (HPK.out x2 L2.out).mono ?_); rintro e x3 ⟨rfl, b3⟩; have L3 := Lib.hid (HST.out _ _ _ L2.out b3); have O3 := Lib.hid (O2.out.step b3); clear b3)
            | (go_at_call 32; (with_reducible refine (HLK.out x3 L3.out).mono ?_); rintro e x4 ⟨rfl, l4, o4⟩; have L4 := Lib.hid l4; have O4 := Lib.hid (O3.out.trans o4); clear l4 o4))
          go_ret
          exact ⟨ret_int HST2.out.1.symm, by rw [HST2.out.2]; exact L4.out, O4.out⟩
      · have hke : k = n := by omega
        have hk2 : ¬ (k : Int) < (n : Int) := by omega
        have HKE := Lib.hid hke
        clear hke
        go_wp2
        go_ret
        have h1 := HRZ.out
        have h2 := LA.out
        rw [HKE.out] at h1 h2
        exact ⟨ret_int h1.symm, h2, ON.out⟩
  · have hne1 : (runE W D != 0) = true := bne_iff_ne.2 he0
    have HS : Hid (runE (W ++ seqF n g) D = runE W D ∧ runD (W ++ seqF n g) D = runD W D) := Lib.hid (by
      have := run_append W (seqF n g) D
      rw [if_neg he0, if_neg he0] at this
      exact this)
    generalize runE W D = E at *
    clear he0
    go_wp2_with (go_at_call 25; (with_reducible refine HWP.out.mono ?_); rintro e u1 ⟨rfl, l1, o1⟩; have L1 := Lib.hid l1; have O1 := Lib.hid o1; clear l1 o1)
    go_ret
    exact ⟨ret_int HS.out.1.symm, by rw [HS.out.2]; exact L1.out, O1.out⟩

/-- Why a base isn't laid. -/
def askE (g : Int) (l : List Rc) : Int := if l.all Rc.may = true then (if 12 < l.length ∨ 281474976710655 ≤ g then 9 else 0) else 1
theorem log_ask_nil (s : Value) (w : World) : Calls Tryz.prog 24 #[.pointer none, s] w fun e w' => e = .returned (.int .i64 1) ∧ w = w' := by
  go_enter Tryz.func24, Tryz.ntmps24
  go_wp2_with (go_at_call 27; (with_reducible refine (log_none_nil w).mono ?_); rintro e _ ⟨rfl, rfl⟩)
  go_ret
  exact ⟨rfl, rfl⟩
theorem log_ask_any {B : Nat} {w : World} {A : LogD} {D : Dv} {V : LV} {sl : Value} (h : LogAt B w A D V sl) (a : Option Addr) (n cap : Nat) (l : List Rc) (hn : l.length = n) (hn2 : n ≤ 1000000) (hr : Lies w w.heap.size a (rcs l)) :
    Calls Tryz.prog 24 #[.pointer (some ⟨A.l, 0, none⟩), .slice a n cap] w fun e w' => e = .returned (.int .i64 (askE V.gen l)) ∧ Below w.heap.size w w' := by
  have HN := Lib.hid (log_none_any h)
  have HCF := Lib.hid (log_contains a n cap l w hn hn2 hr)
  have HC2 : Hid (∀ u, Below w.heap.size w u → u.cell? ⟨A.l, 2, none⟩ = some (.int .i64 V.gen)) := Lib.hid fun u hu => (h.step hu).c2
  have HA0 : Hid (l.all Rc.may = false → askE V.gen l = 1) := Lib.hid fun h => by unfold askE; rw [h]; rfl
  have HA1 : Hid (l.all Rc.may = true → askE V.gen l = if 12 < n ∨ 281474976710655 ≤ V.gen then 9 else 0) := Lib.hid fun h => by unfold askE; rw [h, hn]; rfl
  generalize askE V.gen l = E at *
  generalize V.gen = g at *
  generalize l.all Rc.may = q at *
  generalize A.l = lb at *
  clear h hr hn
  cases q with
  | false =>
    obtain rfl := HA0.out rfl
    clear HA0 HA1
    go_enter Tryz.func24, Tryz.ntmps24
    go_wp2_with (first
      | (go_at_call 27; (with_reducible refine HN.out.mono ?_); rintro e _ ⟨rfl, rfl⟩)
      | (go_at_call 49; (with_reducible refine HCF.out.mono ?_); rintro e u1 ⟨rfl, b1⟩; have B1 := Lib.hid b1; clear b1))
    go_ret
    exact ⟨rfl, B1.out⟩
  | true =>
    have HE := Lib.hid (HA1.out rfl)
    clear HA0 HA1
    by_cases h12 : 12 < n
    · have h12I : (12 : Int) < (n : Int) := by omega
      obtain rfl : E = 9 := by rw [HE.out, if_pos (.inl h12)]
      clear HE
      go_enter Tryz.func24, Tryz.ntmps24
      go_wp2_with (first
        | (go_at_call 27; (with_reducible refine HN.out.mono ?_); rintro e _ ⟨rfl, rfl⟩)
        | (go_at_call 49; (with_reducible refine HCF.out.mono ?_); rintro e u1 ⟨rfl, b1⟩; have B1 := Lib.hid b1; clear b1))
      go_ret
      exact ⟨rfl, B1.out⟩
    · have h12I : ¬ (12 : Int) < (n : Int) := by omega
      by_cases hg : 281474976710655 ≤ g
      · have hgd : decide (281474976710655 ≤ g) = true := decide_eq_true hg
        have hgp : (281474976710655 ≤ g) = True := eq_true hg
        obtain rfl : E = 9 := by rw [HE.out, if_pos (.inr hg)]
        clear HE hg
        go_enter Tryz.func24, Tryz.ntmps24
        go_wp2_with (first
          | (go_at_call 27; (with_reducible refine HN.out.mono ?_); rintro e _ ⟨rfl, rfl⟩)
          | (go_at_call 49; (with_reducible refine HCF.out.mono ?_); rintro e u1 ⟨rfl, b1⟩; have B1 := Lib.hid b1; have c2 := HC2.out u1 b1; clear b1))
        go_ret
        exact ⟨rfl, B1.out⟩
      · have hgd : decide (281474976710655 ≤ g) = false := decide_eq_false hg
        have hgp : (281474976710655 ≤ g) = False := eq_false hg
        obtain rfl : E = 0 := by rw [HE.out, if_neg (by intro h; rcases h with h | h; exact h12 h; exact hg h)]
        clear HE hg
        go_enter Tryz.func24, Tryz.ntmps24
        go_wp2_with (first
          | (go_at_call 27; (with_reducible refine HN.out.mono ?_); rintro e _ ⟨rfl, rfl⟩)
          | (go_at_call 49; (with_reducible refine HCF.out.mono ?_); rintro e u1 ⟨rfl, b1⟩; have B1 := Lib.hid b1; have c2 := HC2.out u1 b1; clear b1))
        go_ret
        exact ⟨rfl, B1.out⟩
end Go.Proofs.YtbnjenbhpaknbaaGreat

/- Compact (gen_log_o.py). -/
namespace Go.Proofs.YtbnjenbhpaknbaaGreat
open Go.RowKit CrcMath NumMath FlaMath GeoMath
set_option linter.unusedVariables false
set_option maxRecDepth 100000

/-- A half's value whose records are a list of the call's own. -/
def HfO (B n : Nat) (xs : List Value) (a g : Int) : Value → World → Prop := fun v w => ∃ p m c, v = .agg (hfL a g (.slice p m c) 0 true).toArray ∧ w.ownsRow B 36 4 (.slice p m c) n xs
theorem HfO.monot (B n : Nat) (xs : List Value) (a g : Int) : Monot (HfO B n xs a g) := fun _ _ _ ⟨p, m, c, h1, h2⟩ hb => ⟨p, m, c, h1, owns_step h2 hb⟩
theorem built_half3 (a g : Int) (p : Option Addr) (m c : Nat) : Tryz.prog.built 60 [(0, .int .i64 a), (1, .int .i64 g), (2, .slice p m c), (4, .bool true)] = some (hfL a g (.slice p m c) 0 true).toArray := by kernel_rfl
theorem built_rec2 (k v : Int) : Tryz.prog.built 36 [(0, .int .i64 k), (3, .int .i64 v)] = some (rcv k 0 0 v).toArray := by kernel_rfl
theorem log_compact_nil (s : Value) (w : World) : Calls Tryz.prog 26 #[.pointer none, s] w fun e w' => e = .returned (.int .i64 1) ∧ Below w.heap.size w w' := by
  go_enter Tryz.func26, Tryz.ntmps26
  go_wp2_with (go_at_call 24; (with_reducible refine (log_ask_nil s w).mono ?_); rintro e _ ⟨rfl, rfl⟩)
  go_ret
  exact ⟨rfl, Below.refl _ _⟩
theorem log_compact_bad {B : Nat} {w : World} {A : LogD} {D : Dv} {V : LV} {sl : Value} (h : LogAt B w A D V sl) (a : Option Addr) (n cap : Nat) (l : List Rc) (hn : l.length = n) (hn2 : n ≤ 1000000) (hr : Lies w w.heap.size a (rcs l)) (he : askE V.gen l ≠ 0) :
    Calls Tryz.prog 26 #[.pointer (some ⟨A.l, 0, none⟩), .slice a n cap] w fun e w' => e = .returned (.int .i64 (askE V.gen l)) ∧ Below w.heap.size w w' := by
  have HA := Lib.hid (log_ask_any h a n cap l hn hn2 hr)
  generalize askE V.gen l = E at *
  have hne1 : (E != 0) = true := bne_iff_ne.2 he
  generalize A.l = lb at *
  clear h hr hn he
  go_enter Tryz.func26, Tryz.ntmps26
  go_wp2_with (go_at_call 24; (with_reducible refine HA.out.mono ?_); rintro e u1 ⟨rfl, b1⟩; have B1 := Lib.hid b1; clear b1)
  go_ret
  exact ⟨rfl, B1.out⟩
/-- The log behind Compact. -/
def LV.cmp (V : LV) (l : List Rc) : LV := ⟨1 - V.which, V.gen + 1, bares l, l.length + 2, true⟩
def cmpF (L : Nat) (V : LV) (l : List Rc) : List Fop := fillF L (1 - V.which) (allR (V.gen + 1) (bares l) [])
theorem sl_three {w : World} {gl : Nat} {l1 l2 l3 : List Rc} {a1 a2 a3 : Option Addr} {c1 c2 c3 : Nat} {t : TypeId} (hr : Row w gl t [.slice a1 l1.length c1, .slice a2 l2.length c2, .slice a3 l3.length c3]) (h1 : Lies w w.heap.size a1 (rcs l1)) (h2 : Lies w w.heap.size a2 (rcs l2)) (h3 : Lies w w.heap.size a3 (rcs l3)) : SlAt w gl [l1, l2, l3] := fun j hj => by
  match j, hj with
  | 0, _ => exact ⟨a1, c1, hr.cell 0, h1⟩
  | 1, _ => exact ⟨a2, c2, hr.cell 1, h2⟩
  | 2, _ => exact ⟨a3, c3, hr.cell 2, h3⟩
set_option maxHeartbeats 2000000 in
theorem log_compact_go {B : Nat} {w : World} {A : LogD} {D : Dv} {V : LV} {sl : Value} (h : LogAt B w A D V sl) (hBw : B ≤ w.heap.size) (a : Option Addr) (n cap : Nat) (l : List Rc) (hn : l.length = n) (hr : Lies w w.heap.size a (rcs l)) (he : askE V.gen l = 0) (hg0 : 0 ≤ V.gen) :
    Calls Tryz.prog 26 #[.pointer (some ⟨A.l, 0, none⟩), .slice a n cap] w fun e w' => e = .returned (.int .i64 (runE (cmpF A.L V l) D)) ∧ Onl (A.S sl) w w' ∧
      (runE (cmpF A.L V l) D = 0 → ∃ sl', LogAt B w' A (runD (cmpF A.L V l) D) (V.cmp l) sl' ∧ ∀ k ∈ ob sl', w.heap.size ≤ k) ∧
      (runE (cmpF A.L V l) D ≠ 0 → LogAt B w' A (runD (cmpF A.L V l) D) V.foul sl) := by
  have hask : l.all Rc.may = true ∧ l.length ≤ 12 ∧ V.gen < 281474976710655 := by
    unfold askE at he
    cases hq : l.all Rc.may with
    | false => rw [hq] at he; simp at he
    | true =>
      rw [hq, if_pos rfl] at he
      by_cases hx : 12 < l.length ∨ 281474976710655 ≤ V.gen
      · rw [if_pos hx] at he; cases he
      · refine ⟨rfl, ?_, ?_⟩
        · exact Nat.not_lt.1 fun h => hx (.inl h)
        · exact Int.not_le.1 fun h => hx (.inr h)
  obtain ⟨hmay, h12, hgm⟩ := hask
  have hmayB : ∀ r ∈ bares l, r.may = true := fun r hr => by
    obtain ⟨q, hq, rfl⟩ := List.mem_map.1 hr
    rw [Rc.bare_may]
    exact (List.all_eq_true.1 hmay) q hq
  have hfine := allR_fine (g := V.gen + 1) (base := bares l) (later := []) (by unfold gOk; omega) hmayB (by simp)
  have hlen : (allR (V.gen + 1) (bares l) []).length = n + 2 := by rw [allR_length, bares_length, hn]; rfl
  have hn12 : n ≤ 12 := by omega
  have HA : Hid (Calls Tryz.prog 24 #[.pointer (some ⟨A.l, 0, none⟩), .slice a n cap] w fun e w' => e = .returned (.int .i64 0) ∧ Below w.heap.size w w') := Lib.hid (by have := log_ask_any h a n cap l hn (by omega) hr; rwa [he] at this)
  have HBA : Hid (∀ u, Below w.heap.size w u → Calls Tryz.prog 33 #[.slice a n cap] u fun e w' => (∃ v, e = .returned v ∧ OwR w.heap.size n (rcs (bares l)) v w') ∧ Below u.heap.size u w') := Lib.hid fun u hu => by
    refine (log_bare a n cap l u hn (by omega) (hr.step hu)).mono ?_
    rintro e w' ⟨⟨v, rfl, h1⟩, h2⟩
    exact ⟨⟨v, rfl, own_mono h1 hu.size⟩, h2⟩
  have hlen3 : [[begR (V.gen + 1)], bares l, [endR (V.gen + 1)]].flatten = allR (V.gen + 1) (bares l) [] := by simp [allR]
  have HCC : Hid (∀ (u : World) (p1 p2 p3 : Option Addr) (m c1 c2 c3 : Nat), m = n → Lies u u.heap.size p1 (rcs [begR (V.gen + 1)]) → Lies u u.heap.size p2 (rcs (bares l)) → Lies u u.heap.size p3 (rcs [endR (V.gen + 1)]) →
      Calls Tryz.prog 52 #[.slice (some ⟨u.heap.size, 0, none⟩) 3 3] (u.alloc (.cells #[.slice p1 1 c1, .slice p2 m c2, .slice p3 1 c3] 22)) fun e u' =>
        (∃ q c, e = .returned (.slice q (n + 2) c) ∧ u'.ownsRow u.heap.size 36 4 (.slice q (n + 2) c) (n + 2) (rcs (allR (V.gen + 1) (bares l) []))) ∧ Below u.heap.size u u') := Lib.hid fun u p1 p2 p3 m c1 c2 c3 hm h1 h2 h3 => by
    have hb2 := alloc_below u (.cells #[.slice p1 1 c1, .slice p2 m c2, .slice p3 1 c3] 22)
    have hrow := Row.new u 22 [.slice p1 1 c1, .slice p2 m c2, .slice p3 1 c3]
    have hm2 : m = (bares l).length := by rw [hm, bares_length, hn]
    rw [hm2] at hrow hb2 ⊢
    have hs : SlAt _ u.heap.size [[begR (V.gen + 1)], bares l, [endR (V.gen + 1)]] := sl_three hrow (h1.step hb2) (h2.step hb2) (h3.step hb2)
    have := log_concat u.heap.size 3 3 [[begR (V.gen + 1)], bares l, [endR (V.gen + 1)]] _ rfl (by omega) hrow.lt hs (by rw [hlen3, hlen]; omega)
    rw [hlen3, hlen] at this
    refine this.mono ?_
    rintro e u' ⟨⟨v, rfl, g1⟩, g2⟩
    obtain ⟨q, c, rfl, _⟩ := own_formM g1
    exact ⟨⟨q, c, rfl, own_mono g1 hb2.size⟩, hb2.next g2⟩
  have hwh := h.wh
  have HFI : Hid (∀ (u : World) (q : Option Addr) (c : Nat) (B2 : Nat), LogAt B u A D V sl → u.ownsRow B2 36 4 (.slice q (n + 2) c) (n + 2) (rcs (allR (V.gen + 1) (bares l) [])) → Calls Tryz.prog 53 #[.pointer (some ⟨A.l, 0, none⟩), .int .i64 (1 - (V.which : Int)), .slice q (n + 2) c] u fun e w' => e = .returned (.int .i64 (runE (cmpF A.L V l) D)) ∧ LogAt B w' A (runD (cmpF A.L V l) D) V sl ∧ Onl A.sh.S u w') := Lib.hid fun u q c B2 hu ho => by
    have e1 : (1 - (V.which : Int)) = ((1 - V.which : Nat) : Int) := by omega
    rw [e1]
    refine log_fill_any hu (1 - V.which) (by omega) q (n + 2) c (allR (V.gen + 1) (bares l) []) hlen (by omega) hfine fun u' hu' => ?_
    have h1 := owns_onl ho hu' fun k hk => by
      obtain ⟨l2, hl2⟩ := owns_row ho hk
      exact hl2.offD hu.dev (by decide) (by decide) (by decide) (by decide)
    obtain ⟨a2, c2, h2, h3⟩ := own_formM h1
    cases h2
    exact h3
  have HC : Hid (∀ u, LogAt B u A D V sl → u.cell? ⟨A.l, 1, none⟩ = some (.int .i64 (V.which : Int)) ∧ u.cell? ⟨A.l, 2, none⟩ = some (.int .i64 V.gen) ∧ A.l < u.heap.size) := Lib.hid fun u hu => ⟨hu.c1, hu.c2, hu.lt⟩
  have HRD : Hid (∀ u E2, LogAt B u A E2 V sl → Row u A.l 63 (logL A V sl)) := Lib.hid fun u E2 hu => hu.row
  have HNC : Hid (V.cmp l = ⟨1 - V.which, V.gen + 1, bares l, n + 2, true⟩) := Lib.hid (by unfold LV.cmp; rw [hn])
  have HBN : Hid ((bares l).length = n) := Lib.hid (by rw [bares_length, hn])
  have HR1 : Hid (rcs [begR (V.gen + 1)] = rcv 126 0 0 (V.gen + 1)) := Lib.hid (rcs_one _)
  have HR2 : Hid (rcs [endR (V.gen + 1)] = rcv 127 0 0 (V.gen + 1)) := Lib.hid (rcs_one _)
  rw [HR1.out, HR2.out] at HCC
  generalize runE (cmpF A.L V l) D = E at *
  generalize runD (cmpF A.L V l) D = D' at *
  generalize rcs (allR (V.gen + 1) (bares l) []) = XA at *
  obtain ⟨XB, hXB⟩ : ∃ X, rcs (bares l) = X := ⟨_, rfl⟩
  rw [hXB] at HBA HCC
  have HXB := Lib.hid hXB
  have HL0 := Lib.hid h
  have HBW := Lib.hid hBw
  have HLOW := Lib.hid h.low
  have hwI : (V.which : Int) < 2 := by omega
  obtain ⟨wh, hwhe⟩ : ∃ x, V.which = x := ⟨_, rfl⟩
  obtain ⟨g, hge⟩ : ∃ x, V.gen = x := ⟨_, rfl⟩
  have HWE := Lib.hid hwhe
  have HGE := Lib.hid hge
  rw [hwhe] at HC HFI hwI
  rw [hge] at HC HCC hgm hg0
  obtain ⟨lb, hlb⟩ : ∃ x, A.l = x := ⟨_, rfl⟩
  have HAL := Lib.hid hlb
  rw [hlb] at HA HFI HC HRD ⊢
  obtain ⟨g1, hg1e⟩ : ∃ x, g + 1 = x := ⟨_, rfl⟩
  have HG1 := Lib.hid hg1e
  rw [hg1e] at HCC
  obtain ⟨w1, hw1e⟩ : ∃ x, 1 - (wh : Int) = x := ⟨_, rfl⟩
  have HW1 := Lib.hid hw1e
  rw [hw1e] at HFI
  have hgw : IntKind.i64.wrap g1 = g1 := by rw [IntKind.wrap_i64]; omega
  have hww : IntKind.i64.wrap w1 = w1 := by rw [IntKind.wrap_i64]; omega
  have hnI : (n : Int) ≤ 12 := by omega
  have HN12 : Hid (n ≤ 12) := Lib.hid hn12
  have HSTEP : Hid (∀ u u' E2, LogAt B u A E2 V sl → Below u.heap.size u u' → LogAt B u' A E2 V sl) := Lib.hid fun u u' E2 h1 h2 => h1.step h2
  clear h hr he hmay h12 hmayB hfine hlen hlen3 hn hXB hwhe hge hlb hg1e hw1e hwh hBw HR1 HR2 hn12 hgm hg0
  go_enter Tryz.func26, Tryz.ntmps26
  go_wp2_with (go_at_call 24; (with_reducible refine HA.out.mono ?_); rintro e u1 ⟨rfl, b1⟩; have B1 := Lib.hid b1; have L1 := Lib.hid (HSTEP.out _ _ _ HL0.out b1); clear b1)
  have C1 := Lib.hid (HC.out u1 L1.out).1
  have C2 := Lib.hid (HC.out u1 L1.out).2.1
  have HLX := Lib.hid (HC.out u1 L1.out).2.2
  have hw1x : (1 : Int) - (wh : Int) = w1 := HW1.out
  have hg1x : g + 1 = g1 := HG1.out
  refine region_storeT 16 15 [] (by decide) [(0, 15), (1, 16), (2, 17), (3, 18), (4, 19), (5, 20), (6, 21), (7, 22), (8, 23), (9, 24), (10, 25), (11, 26), (12, 27), (13, 28), (14, 29), (15, 6)]
    (fun ii => [Is (.pointer (some ⟨lb, 0, none⟩)), Is (.pointer (some ⟨lb, 0, none⟩)), Is (.pointer (some ⟨lb, 1, none⟩)), Is (.pointer (some ⟨lb, 1, none⟩)), Is (.int .i64 (wh : Int)), Is (.int .i64 w1), Is (.pointer (some ⟨lb, 0, none⟩)), Is (.pointer (some ⟨lb, 0, none⟩)), Is (.pointer (some ⟨lb, 1, none⟩)), Is (.pointer (some ⟨lb, 2, none⟩)), Is (.int .i64 g), Is (.int .i64 g1), Is (.slice a n cap), OwR w.heap.size n XB, HfO w.heap.size n XB w1 g1, Nb u1 60 (hfL 0 0 (.slice none 0 0) 0 false), Is undef].getD ii (Is undef))
    (fun w' => Below u1.heap.size u1 w') (fun zz w' => ∃ g2 pa pc, zz = .pointer (some ⟨g2, 0, none⟩) ∧ u1.heap.size ≤ g2 ∧ Row w' g2 60 (hfL w1 g1 (.slice pa n pc) 0 true) ∧ w'.ownsRow w.heap.size 36 4 (.slice pa n pc) n XB ∧ Below u1.heap.size u1 w') (by kernel_rfl) (by decide) (by kernel_rfl) (by kernel_rfl) (by decide) (by decide) (by kernel_rfl) rfl (by kernel_rfl) ?monoA ((Below.refl _ _).drew) ?stepA ?stepXA ?stepSA ?finA
  case monoA =>
    intro i
    match i with
    | 0 | 1 | 2 | 3 | 4 | 5 | 6 | 7 | 8 | 9 | 10 | 11 | 12 | 16 => exact Is.monot _
    | 13 => exact OwR.monot _ _ _
    | 14 => exact HfO.monot _ _ _ _ _
    | 15 => exact Nb.monot _ _ _
    | _ + 17 => exact Is.monot _
  case stepA =>
    refine List.forall_mem_cons.2 ⟨?As0, List.forall_mem_cons.2 ⟨?As1, List.forall_mem_cons.2 ⟨?As2, List.forall_mem_cons.2 ⟨?As3, List.forall_mem_cons.2 ⟨?As4, List.forall_mem_cons.2 ⟨?As5, List.forall_mem_cons.2 ⟨?As6, List.forall_mem_cons.2 ⟨?As7, List.forall_mem_cons.2 ⟨?As8, List.forall_mem_cons.2 ⟨?As9, List.forall_mem_cons.2 ⟨?As10, List.forall_mem_cons.2 ⟨?As11, List.forall_mem_cons.2 ⟨?As12, List.forall_mem_cons.2 ⟨?As13, List.forall_mem_cons.2 ⟨?As14, List.forall_mem_cons.2 ⟨?As15, List.forall_mem_nil _⟩⟩⟩⟩⟩⟩⟩⟩⟩⟩⟩⟩⟩⟩⟩⟩
    case As0 =>
      intro _
      intro u wx hg hC
      clear hC
      refine wpOp_step rfl (fun K hK => ?_)
      simp only [puts, List.foldl]
      go_simp
      exact hK _ _ ⟨rfl, rfl, hg, Below.refl _ _⟩
    case As1 =>
      intro _
      intro u wx hg hC
      have hJ0 : u 0 = (.pointer (some ⟨lb, 0, none⟩)) := hC.at 0 (by kernel_rfl)
      clear hC
      refine wpOp_step rfl (fun K hK => ?_)
      simp only [puts, List.foldl]
      go_simp
      exact hK _ _ ⟨rfl, rfl, hg, Below.refl _ _⟩
    case As2 =>
      intro _
      intro u wx hg hC
      have hJ1 : u 1 = (.pointer (some ⟨lb, 0, none⟩)) := hC.at 1 (by kernel_rfl)
      clear hC
      refine wpOp_step rfl (fun K hK => ?_)
      simp only [puts, List.foldl]
      go_simp
      exact hK _ _ ⟨rfl, rfl, hg, Below.refl _ _⟩
    case As3 =>
      intro _
      intro u wx hg hC
      have hJ2 : u 2 = (.pointer (some ⟨lb, 1, none⟩)) := hC.at 2 (by kernel_rfl)
      clear hC
      refine wpOp_step rfl (fun K hK => ?_)
      simp only [puts, List.foldl]
      go_simp
      exact hK _ _ ⟨rfl, rfl, hg, Below.refl _ _⟩
    case As4 =>
      intro _
      intro u wx hg hC
      have hJ3 : u 3 = (.pointer (some ⟨lb, 1, none⟩)) := hC.at 3 (by kernel_rfl)
      clear hC
      have hcl : wx.cell? ⟨lb, 1, none⟩ = some (.int .i64 (wh : Int)) := (hg.cell (p := ⟨lb, 1, none⟩) HLX.out).trans C1.out
      refine wpOp_step rfl (fun K hK => ?_)
      simp only [puts, List.foldl]
      go_simp
      exact hK _ _ ⟨rfl, rfl, hg, Below.refl _ _⟩
    case As5 =>
      intro _
      intro u wx hg hC
      have hJ4 : u 4 = (.int .i64 (wh : Int)) := hC.at 4 (by kernel_rfl)
      clear hC
      refine wpOp_step rfl (fun K hK => ?_)
      simp only [puts, List.foldl]
      go_simp
      exact hK _ _ ⟨rfl, rfl, hg, Below.refl _ _⟩
    case As6 =>
      intro _
      intro u wx hg hC
      clear hC
      refine wpOp_step rfl (fun K hK => ?_)
      simp only [puts, List.foldl]
      go_simp
      exact hK _ _ ⟨rfl, rfl, hg, Below.refl _ _⟩
    case As7 =>
      intro _
      intro u wx hg hC
      have hJ6 : u 6 = (.pointer (some ⟨lb, 0, none⟩)) := hC.at 6 (by kernel_rfl)
      clear hC
      refine wpOp_step rfl (fun K hK => ?_)
      simp only [puts, List.foldl]
      go_simp
      exact hK _ _ ⟨rfl, rfl, hg, Below.refl _ _⟩
    case As8 =>
      intro _
      intro u wx hg hC
      have hJ7 : u 7 = (.pointer (some ⟨lb, 0, none⟩)) := hC.at 7 (by kernel_rfl)
      clear hC
      refine wpOp_step rfl (fun K hK => ?_)
      simp only [puts, List.foldl]
      go_simp
      exact hK _ _ ⟨rfl, rfl, hg, Below.refl _ _⟩
    case As9 =>
      intro _
      intro u wx hg hC
      have hJ8 : u 8 = (.pointer (some ⟨lb, 1, none⟩)) := hC.at 8 (by kernel_rfl)
      clear hC
      refine wpOp_step rfl (fun K hK => ?_)
      simp only [puts, List.foldl]
      go_simp
      exact hK _ _ ⟨rfl, rfl, hg, Below.refl _ _⟩
    case As10 =>
      intro _
      intro u wx hg hC
      have hJ9 : u 9 = (.pointer (some ⟨lb, 2, none⟩)) := hC.at 9 (by kernel_rfl)
      clear hC
      have hcl : wx.cell? ⟨lb, 2, none⟩ = some (.int .i64 g) := (hg.cell (p := ⟨lb, 2, none⟩) HLX.out).trans C2.out
      refine wpOp_step rfl (fun K hK => ?_)
      simp only [puts, List.foldl]
      go_simp
      exact hK _ _ ⟨rfl, rfl, hg, Below.refl _ _⟩
    case As11 =>
      intro _
      intro u wx hg hC
      have hJ10 : u 10 = (.int .i64 g) := hC.at 10 (by kernel_rfl)
      clear hC
      refine wpOp_step rfl (fun K hK => ?_)
      simp only [puts, List.foldl]
      go_simp
      exact hK _ _ ⟨rfl, rfl, hg, Below.refl _ _⟩
    case As12 =>
      intro _
      intro u wx hg hC
      clear hC
      refine wpOp_step rfl (fun K hK => ?_)
      simp only [puts, List.foldl]
      go_simp
      exact hK _ _ ⟨rfl, rfl, hg, Below.refl _ _⟩
    case As13 =>
      intro _
      intro u wx hg hC
      have hJ12 : u 12 = (.slice a n cap) := hC.at 12 (by kernel_rfl)
      clear hC
      refine wpOp_step rfl (fun K hK => ?_)
      simp only [puts, List.foldl]
      go_simp
      refine (HBA.out wx (B1.out.next hg)).mono ?_
      rintro e w' ⟨⟨v', rfl, ho'⟩, hb'⟩
      exact hK _ _ ⟨rfl, ho', hg.next hb', hb'⟩
    case As14 =>
      intro _
      intro u wx hg hC
      have hJ5 : u 5 = (.int .i64 w1) := hC.at 5 (by kernel_rfl)
      have hJ11 : u 11 = (.int .i64 g1) := hC.at 11 (by kernel_rfl)
      have hJ13 : (OwR w.heap.size n XB) (u 13) wx := hC.at 13 (by kernel_rfl)
      clear hC
      obtain ⟨pa, pc, hv13, _⟩ := own_formM hJ13
      have hJ13' : OwR w.heap.size n XB (.slice pa n pc) wx := by rw [← hv13]; exact hJ13
      generalize hA : puts [(0, 15), (1, 16), (2, 17), (3, 18), (4, 19), (5, 20), (6, 21), (7, 22), (8, 23), (9, 24), (10, 25), (11, 26), (12, 27), (13, 28), (14, 29), (15, 6)] _ u = A2
      have q0 : A2.tmps.getD 20 undef = .int .i64 w1 := by rw [← hA]; exact (puts_get u 5 20 _ _ (by decide) (by decide) (by kernel_rfl)).trans hJ5
      have q1 : A2.tmps.getD 26 undef = .int .i64 g1 := by rw [← hA]; exact (puts_get u 11 26 _ _ (by decide) (by decide) (by kernel_rfl)).trans hJ11
      have q2 : A2.tmps.getD 28 undef = .slice pa n pc := by rw [← hA]; exact (puts_get u 13 28 _ _ (by decide) (by decide) (by kernel_rfl)).trans hv13
      have hsz : 29 < A2.tmps.size := by rw [← hA]; exact puts_room u (by kernel_rfl)
      refine wpOp_step rfl (fun K hK => ?_)
      clear hA
      exact opBuildK (φ := HfO w.heap.size n XB w1 g1) _ _ _ (built_half3 w1 g1 pa n pc) 29 rfl hsz hK _ rfl (by rw [Array.toList_map]; show [(0, A2.tmps.getD 20 undef), (1, A2.tmps.getD 26 undef), (2, A2.tmps.getD 28 undef), (4, .bool true)] = _; rw [q0, q1, q2]) ⟨pa, n, pc, rfl, hJ13'⟩ hg
    case As15 =>
      intro _
      intro u wx hg hC
      clear hC
      generalize hA : puts [(0, 15), (1, 16), (2, 17), (3, 18), (4, 19), (5, 20), (6, 21), (7, 22), (8, 23), (9, 24), (10, 25), (11, 26), (12, 27), (13, 28), (14, 29), (15, 6)] _ u = A
      have hsz : 6 < A.tmps.size := by rw [← hA]; exact puts_room u (by kernel_rfl)
      refine wpOp_step rfl (fun K hK => ?_)
      clear hA
      exact opAllocK (φ := Nb u1 60 (hfL 0 0 (.slice none 0 0) 0 false)) ((hfL 0 0 (.slice none 0 0) 0 false)) _ (zero_half) 6 rfl hsz hK rfl fun w' hr hb => ⟨⟨_, rfl, hg.size, hr⟩, hg.next hb⟩
  case stepXA =>
    refine List.forall_mem_cons.2 ⟨?Ax0, List.forall_mem_cons.2 ⟨?Ax1, List.forall_mem_cons.2 ⟨?Ax2, List.forall_mem_cons.2 ⟨?Ax3, List.forall_mem_cons.2 ⟨?Ax4, List.forall_mem_cons.2 ⟨?Ax5, List.forall_mem_cons.2 ⟨?Ax6, List.forall_mem_cons.2 ⟨?Ax7, List.forall_mem_cons.2 ⟨?Ax8, List.forall_mem_cons.2 ⟨?Ax9, List.forall_mem_cons.2 ⟨?Ax10, List.forall_mem_cons.2 ⟨?Ax11, List.forall_mem_cons.2 ⟨?Ax12, List.forall_mem_cons.2 ⟨?Ax13, List.forall_mem_cons.2 ⟨?Ax14, List.forall_mem_cons.2 ⟨?Ax15, List.forall_mem_nil _⟩⟩⟩⟩⟩⟩⟩⟩⟩⟩⟩⟩⟩⟩⟩⟩
    case Ax0 =>
      intro hx; exact absurd hx (by decide)
    case Ax1 =>
      intro hx; exact absurd hx (by decide)
    case Ax2 =>
      intro hx; exact absurd hx (by decide)
    case Ax3 =>
      intro hx; exact absurd hx (by decide)
    case Ax4 =>
      intro hx; exact absurd hx (by decide)
    case Ax5 =>
      intro hx; exact absurd hx (by decide)
    case Ax6 =>
      intro hx; exact absurd hx (by decide)
    case Ax7 =>
      intro hx; exact absurd hx (by decide)
    case Ax8 =>
      intro hx; exact absurd hx (by decide)
    case Ax9 =>
      intro hx; exact absurd hx (by decide)
    case Ax10 =>
      intro hx; exact absurd hx (by decide)
    case Ax11 =>
      intro hx; exact absurd hx (by decide)
    case Ax12 =>
      intro hx; exact absurd hx (by decide)
    case Ax13 =>
      intro hx; exact absurd hx (by decide)
    case Ax14 =>
      intro hx; exact absurd hx (by decide)
    case Ax15 =>
      intro hx; exact absurd hx (by decide)
  case stepSA =>
    intro u wx hg hC
    obtain ⟨pa, pm, pc, hJ14, hown⟩ : HfO w.heap.size n XB w1 g1 (u 14) wx := hC (14, 29) (by decide) (by decide)
    obtain ⟨g2, hJ15, hge, hr15⟩ : Nb u1 60 (hfL 0 0 (.slice none 0 0) 0 false) (u 15) wx := hC (15, 6) (by decide) (by decide)
    clear hC
    obtain ⟨a9, c9, hsl, _⟩ := own_formM hown
    cases hsl
    generalize hA : puts [(0, 15), (1, 16), (2, 17), (3, 18), (4, 19), (5, 20), (6, 21), (7, 22), (8, 23), (9, 24), (10, 25), (11, 26), (12, 27), (13, 28), (14, 29), (15, 6)] _ u = A2
    have hp : A2.tmps.getD 6 undef = .pointer (some ⟨g2, 0, none⟩) := by rw [← hA]; exact (puts_get u 15 6 _ _ (by decide) (by decide) (by kernel_rfl)).trans hJ15
    have hq : A2.tmps.getD 29 undef = .agg (hfL w1 g1 (.slice pa n pc) 0 true).toArray := by rw [← hA]; exact (puts_get u 14 29 _ _ (by decide) (by decide) (by kernel_rfl)).trans hJ14
    refine wpOp_step rfl (fun K hK => ?_)
    clear hA
    exact opStoreK (H := fun w' => (fun zz w' => ∃ g2 pa pc, zz = .pointer (some ⟨g2, 0, none⟩) ∧ u1.heap.size ≤ g2 ∧ Row w' g2 60 (hfL w1 g1 (.slice pa n pc) 0 true) ∧ w'.ownsRow w.heap.size 36 4 (.slice pa n pc) n XB ∧ Below u1.heap.size u1 w') (u 15) w') hr15 _ (hfL w1 g1 (.slice pa n pc) 0 true) fits_half rfl rfl rfl hK (.tmp 6) (.tmp 29) rfl hp hq fun w' h1 h2 h3 => ⟨g2, pa, pc, hJ15, hge, h1, owns_only hown h2 (fun k hk => by obtain ⟨l2, hl2⟩ := owns_row hown (mem_ob.2 hk); exact row_ne hl2 hr15 (by decide)), hg.trans (h2.below hge hg.size)⟩
  case finA =>
    intro u u2 hh hφ
    obtain ⟨g2, pa, pc, e6, hge2, r2, ow2, b2⟩ := hh
    clear hφ
    simp only [puts, List.foldl]
    rw [e6]
    go_simp
    have R2 := Lib.hid r2
    have OW2 := Lib.hid ow2
    have B2 := Lib.hid (B1.out.next b2)
    have L2 := Lib.hid (HSTEP.out _ _ _ L1.out b2)
    have LP2 : Hid (Lies u2 u2.heap.size pa XB) := Lib.hid (by obtain ⟨a9, c9, h9, hl9⟩ := own_formM ow2; cases h9; exact hl9)
    have HGE2 : Hid (w.heap.size ≤ g2) := Lib.hid (Nat.le_trans B1.out.size hge2)
    have k1 : u2.cell? ⟨g2, 1, none⟩ = some (.int .i64 g1) := r2.cell 1
    have k2 : u2.cell? ⟨g2, 2, none⟩ = some (.slice pa n pc) := r2.cell 2
    have HG2L : Hid (g2 < u2.heap.size) := Lib.hid r2.lt
    have HOG : Hid (∀ k, (Value.slice pa n pc).ownBlock = some k → w.heap.size ≤ k ∧ k ≠ g2) := Lib.hid fun k hk => ⟨owns_ge ow2 k hk, by obtain ⟨l2, hl2⟩ := owns_row ow2 (mem_ob.2 hk); exact row_ne hl2 r2 (by decide)⟩
    have HKK : Hid (∀ u, Below u2.heap.size u2 u → u.cell? ⟨g2, 1, none⟩ = some (.int .i64 g1) ∧ u.cell? ⟨g2, 2, none⟩ = some (.slice pa n pc)) := Lib.hid fun u hu => ⟨(r2.step hu).cell 1, (r2.step hu).cell 2⟩
    have HVA : Hid (∀ l ∈ [rcv 126 0 0 g1], l.length = 4) := Lib.hid fun l hl => by rw [List.mem_singleton.1 hl]; rfl
    have HVB : Hid (∀ l ∈ [rcv 127 0 0 g1], l.length = 4) := Lib.hid fun l hl => by rw [List.mem_singleton.1 hl]; rfl
    have HP4 : Hid (0 < 4) := Lib.hid (by omega)
    have HPA : Hid (0 < [rcv 126 0 0 g1].length) := Lib.hid (by show 0 < 1; omega)
    have HPB : Hid (0 < [rcv 127 0 0 g1].length) := Lib.hid (by show 0 < 1; omega)
    have HMA : Hid ([rcv 126 0 0 g1].length * 4 ≤ 2 ^ 24) := Lib.hid (by show 1 * 4 ≤ _; omega)
    have HMB : Hid ([rcv 127 0 0 g1].length * 4 ≤ 2 ^ 24) := Lib.hid (by show 1 * 4 ≤ _; omega)
    have HBR := Lib.hid (built_rec2 126 g1)
    have HBR2 := Lib.hid (built_rec2 127 g1)
    clear e6 r2 ow2 b2 hge2 C1 C2 HLX L1 HA HBA B1
    go_wp2_with (first
      | ((with_reducible refine wpBuildK (rcv 126 0 0 g1) 36 [(0, .int .i64 126), (3, .int .i64 g1)] HBR.out ?_ ?_); rfl)
      | ((with_reducible refine wpBuildBK (w := u2) [rcv 126 0 0 g1] 4 22 36 Tryz.underlying22 rec_built_size HP4.out HVA.out HPA.out HMA.out ?_ ?_); rfl; intro u3 r_ b_ s_; have RA3 : Hid (Lies u3 u3.heap.size (some ⟨u2.heap.size, 0, none⟩) (rcv 126 0 0 g1)) := Lib.hid (fun _ => ⟨_, 0, rfl, r_.lt, fun j q hj => by rw [Nat.zero_add, r_.cell]; simpa using hj⟩); have BB3 := Lib.hid b_; have j1 := (HKK.out u3 b_).1; have j2 := (HKK.out u3 b_).2; clear r_ b_ s_ k1 k2)
      | ((with_reducible refine wpBuildK (rcv 127 0 0 g1) 36 [(0, .int .i64 127), (3, .int .i64 g1)] HBR2.out ?_ ?_); rfl)
      | ((with_reducible refine wpBuildBK (w := u3) [rcv 127 0 0 g1] 4 22 36 Tryz.underlying22 rec_built_size HP4.out HVB.out HPB.out HMB.out ?_ ?_); rfl; intro u4 r_ b_ s_; have RC4 : Hid (Lies u4 u4.heap.size (some ⟨u3.heap.size, 0, none⟩) (rcv 127 0 0 g1)) := Lib.hid (fun _ => ⟨_, 0, rfl, r_.lt, fun j q hj => by rw [Nat.zero_add, r_.cell]; simpa using hj⟩); have RA4 := Lib.hid (RA3.out.step b_); have BB4 := Lib.hid (BB3.out.next b_); have LP4 := Lib.hid (LP2.out.step (BB3.out.next b_)); clear r_ b_ s_)
      | (go_at_call 52; (with_reducible refine (HCC.out u4 _ _ _ n 1 pc 1 rfl RA4.out LP4.out RC4.out).mono ?_); rintro e u5 ⟨⟨q, c, rfl, ho⟩, b5⟩; have OA5 := Lib.hid ho; have BB5 := Lib.hid (BB4.out.next b5); have R5 := Lib.hid (R2.out.step BB5.out); have OG5 : Hid (∀ k, (Value.slice q (n + 2) c).ownBlock = some k → u4.heap.size ≤ k) := Lib.hid (owns_ge ho); clear ho b5)
      | ((with_reducible refine R5.out.wpStore1K 3 3 (.int .i64 ((n + 2 : Nat) : Int)) finfo_int (hfL_lt 3 (by decide)) (int_cells _ _) (int_one _ _) ?_ ?_); rfl; intro u6 r6 o6 s6; have R6 : Hid (Row u6 g2 60 (hfL w1 g1 (.slice pa n pc) ((n + 2 : Nat) : Int) true)) := Lib.hid r6; have i0 : u6.cell? ⟨g2, 0, none⟩ = some (.int .i64 w1) := r6.cell 0; have O6 := Lib.hid o6; clear r6 o6 s6))
    
    have BB6 : Hid (Below w.heap.size u5 u6) := Lib.hid (O6.out.below HGE2.out (Nat.le_trans B2.out.size BB5.out.size))
    have L6 := Lib.hid (LogAt.keep HL0.out (HSTEP.out _ _ _ L2.out BB5.out) BB6.out)
    have OA6 := Lib.hid (owns_only OA5.out O6.out (fun k hk => by have := OG5.out k hk; have := HG2L.out; have := BB4.out.size; omega))
    have OW6 := Lib.hid (owns_only (owns_step OW2.out BB5.out) O6.out (fun k hk => (HOG.out k hk).2))
    have B6 : Hid (Below w.heap.size w u6) := Lib.hid ((B2.out.next BB5.out).trans BB6.out)
    have NSG : Hid (g2 ∉ A.sh.S) := Lib.hid fun h => by have := HLOW.out.1 _ (show g2 ∈ A.S sl by simp [LogD.S, h]); have := HGE2.out; omega
    have NSO : Hid (∀ k ∈ ob (Value.slice pa n pc), k ∉ A.sh.S) := Lib.hid fun k hk h => by have := HLOW.out.1 _ (show k ∈ A.S sl by simp [LogD.S, h]); have := (HOG.out k (mem_ob.1 hk)).1; omega
    clear BB3 RA3 RA4 RC4 LP4 LP2 R5 OW2 OA5 O6 BB4
    by_cases hez : E = 0
    · subst hez
      have H5V : Hid ((halfL V sl).length = 5) := Lib.hid (halfL_len _ _)
      go_wp2_with (first
        | (go_at_call 53; (with_reducible refine (HFI.out u6 _ _ _ L6.out OA6.out).mono ?_); rintro e u7 ⟨rfl, l7, o7⟩; have L7 := Lib.hid l7; have R7 := Lib.hid (R6.out.onl o7 NSG.out); have OW7 := Lib.hid (owns_onl OW6.out o7 NSO.out); have O7 : Hid (Onl A.sh.S w u7) := Lib.hid ((Onl.of_below B6.out).trans o7); have RL7 : Hid (Row u7 lb 63 ([.pointer (some ⟨A.sh.b, 0, none⟩)] ++ halfL V sl ++ [.int .i64 A.g.d, .int .i64 A.g.p, .int .i64 A.g.s, .pointer (some ⟨A.tb, 0, none⟩)])) := Lib.hid (HRD.out u7 _ l7); clear l7 o7)
        | ((with_reducible refine R7.out.wpLoadK 60 fits_half rfl ?_ ?_); rfl)
        | ((with_reducible refine RL7.out.wpStoreMidK 1 rfl 60 (hfL w1 g1 (.slice pa n pc) ((n + 2 : Nat) : Int) true) fits_half H5V.out rfl rfl ?_ ?_); rfl; intro u8 r8 o8 s8; have R8 := Lib.hid r8; have O8 := Lib.hid o8; clear r8 o8 s8))
      go_ret
      have hrow : Row u8 A.l 63 (logL A (V.cmp l) (.slice pa n pc)) := by
        rw [HAL.out]
        have := R8.out
        have e : [Value.pointer (some ⟨A.sh.b, 0, none⟩)] ++ hfL w1 g1 (.slice pa n pc) ((n + 2 : Nat) : Int) true ++ [.int .i64 A.g.d, .int .i64 A.g.p, .int .i64 A.g.s, .pointer (some ⟨A.tb, 0, none⟩)] = logL A (V.cmp l) (.slice pa n pc) := by
          rw [HNC.out, logL_parts]
          have h1 : ((1 - V.which : Nat) : Int) = w1 := by rw [HWE.out, ← HW1.out]; omega
          have h2 : V.gen + 1 = g1 := by rw [HGE.out, HG1.out]
          unfold halfL hfL
          dsimp only
          rw [h1, h2]
        rw [e] at this
        exact this
      have ho : Only A.l u7 u8 := by rw [HAL.out]; exact O8.out
      refine ⟨rfl, ?_, ⟨.slice pa n pc, ?_, fun k hk => (HOG.out k (mem_ob.1 hk)).1⟩⟩
      · exact (O7.out.mono (fun j hj => by simp [LogD.S, hj])).trans (Onl.of_only ho (by simp [LogD.S]))
      · refine L7.out.setHalf hrow ho ?_ ?_ ?_ ?_
        · rw [HNC.out]
          show World.ownsRow _ _ _ _ _ (bares l).length (rcs (bares l))
          rw [HBN.out, HXB.out]
          exact own_mono OW7.out HBW.out
        · rw [HNC.out]; show 1 - V.which < 2; omega
        · rw [HNC.out]; show n + 2 ≤ 16; have := HN12.out; omega
        · intro hm
          have h1 := (HOG.out _ (mem_ob.1 hm)).1
          have h2 := HLOW.out.2
          omega
    · have hne1 : (E != 0) = true := bne_iff_ne.2 hez
      have HEZ := Lib.hid hez
      clear hez
      go_wp2_with (first
        | (go_at_call 53; (with_reducible refine (HFI.out u6 _ _ _ L6.out OA6.out).mono ?_); rintro e u7 ⟨rfl, l7, o7⟩; have L7 := Lib.hid l7; have O7 : Hid (Onl A.sh.S w u7) := Lib.hid ((Onl.of_below B6.out).trans o7); have RL7 : Hid (Row u7 lb 63 (logL A V sl)) := Lib.hid (HRD.out u7 _ l7); clear l7 o7)
        | ((with_reducible refine RL7.out.wpStore1K 5 4 (.bool false) finfo_bool (logL_lt 5 (by decide)) (bool_cells _) (bool_one _) ?_ ?_); rfl; intro u9 r9 o9 s9; have R9 : Hid (Row u9 lb 63 (logL A V.foul sl)) := Lib.hid r9; have O9 := Lib.hid o9; clear r9 o9 s9))
      go_ret
      have hr9 := R9.out
      have ho9 := O9.out
      rw [← HAL.out] at hr9 ho9
      refine ⟨rfl, (O7.out.mono (fun k hk => by simp [LogD.S, hk])).trans (Onl.of_only ho9 (by simp [LogD.S])), fun h => absurd h HEZ.out, fun _ => ?_⟩
      exact L7.out.setHalf hr9 ho9 L7.out.own L7.out.wh L7.out.nx L7.out.tow
end Go.Proofs.YtbnjenbhpaknbaaGreat

/- Format. -/
namespace Go.Proofs.YtbnjenbhpaknbaaGreat
open Go.RowKit CrcMath NumMath FlaMath GeoMath
set_option linter.unusedVariables false
set_option maxRecDepth 100000

theorem logformat_bad (dp : Option Addr) (g : Gm) (n : Int) (sv : Value) (w : World) (hs : ∀ u, Below w.heap.size w u → Calls Tryz.prog 40 #[.pointer dp] u fun e u' => e = .returned (.int .i64 n) ∧ u = u') (hb : right g = false ∨ n < all g) :
    Calls Tryz.prog 7 #[.pointer dp, geoV g, sv] w fun e w' => e = .returned (.tuple #[.pointer none, .int .i64 1]) ∧ Below w.heap.size w w' := by
  have HOV : Hid (∀ u, Below w.heap.size w u → Calls Tryz.prog 23 #[.pointer dp, geoV g] u fun e w' => e = .returned (.tuple #[.pointer none, .int .i64 1]) ∧ Below u.heap.size u w') := Lib.hid fun u hu => log_over_bad dp g n u (fun x hx => hs x (hu.next hx)) hb
  obtain ⟨d, p, s⟩ := g
  dsimp only [geoV] at HOV ⊢
  clear hs hb
  go_enter Tryz.func7, Tryz.ntmps7
  go_wp2_with (first
    | ((with_reducible refine wpBoxK (w := w) [Value.int .i64 d, .int .i64 p, .int .i64 s] 33 ?_ ?_); rfl; intro u1 r1 b1 s1; have R1 := Lib.hid r1; have B1 := Lib.hid b1; clear r1 b1 s1)
    | ((with_reducible refine R1.out.wpLoadK 33 fits_geo rfl ?_ ?_); rfl)
    | (go_at_call 23; (with_reducible refine (HOV.out u1 B1.out).mono ?_); rintro e u2 ⟨rfl, b2⟩; have B2 := Lib.hid (B1.out.next b2); clear b2))
  go_ret2
  exact ⟨rfl, B2.out⟩
/-- A log ahead of its first Compact. -/
def v1 : LV := ⟨1, 0, [], 0, false⟩
/-- over, and half 1 named. -/
theorem over_log (B : Nat) (sh : Sh) (D : Dv) (g : Gm) (w u : World) (h : Dvx w sh D) (hr : right g = true) (hn : all g ≤ D.L.length) (hB : ∀ k ∈ sh.S, B ≤ k) (hBw : B ≤ w.heap.size) (hu : Below w.heap.size w u) :
    Calls Tryz.prog 23 #[.pointer (some ⟨sh.b, 0, none⟩), geoV g] u fun e w' => ∃ l tb, e = .returned (.tuple #[.pointer (some ⟨l, 0, none⟩), .int .i64 0]) ∧ w.heap.size ≤ l ∧ LogAt B w' ⟨l, tb, sh, g⟩ D v0 (.slice none 0 0) ∧ Below u.heap.size u w' := by
  have hfit : GeoMath.log g + 18 ≤ D.L.length := by
    have : all g = GeoMath.log g + 18 := by unfold all tal; rw [if_pos hr]; omega
    omega
  have hus := h.step hu
  refine (log_over_good (some ⟨sh.b, 0, none⟩) g (D.L.length : Int) u (fun x hx => let ⟨o, hd⟩ := hus.step hx; sectors_any sh { D with ops := o } x hd) hr hn).mono ?_
  rintro e w' ⟨l, tb, rfl, h1, h2, h3, h4⟩
  have hd := hus.step h4
  exact ⟨l, tb, rfl, Nat.le_trans hu.size h3, ⟨hd, h1, h2, World.ownsRow_nil _ _ _ _, hr, hfit, by show 0 < 2; omega, by show 0 ≤ 16; omega, hB, Nat.le_trans hBw (Nat.le_trans hu.size h3), h2.ne_log h1, h2.offD hd, by simp [ob, Value.ownBlock]⟩, h4⟩
set_option maxHeartbeats 2000000 in
theorem logformat_good (B : Nat) (sh : Sh) (D : Dv) (g : Gm) (w : World) (h : Dvx w sh D) (hr : right g = true) (hn : all g ≤ D.L.length) (hB : ∀ k ∈ sh.S, B ≤ k) (hBw : B ≤ w.heap.size)
    (a : Option Addr) (n cap : Nat) (l : List Rc) (hln : l.length = n) (hn2 : n ≤ 1000000) (hl : ∀ u, Onl sh.S w u → Lies u u.heap.size a (rcs l))
    (he1 : runE (wipeF (GeoMath.log g).toNat 1) D = 0) (he2 : runE (cmpF (GeoMath.log g).toNat v1 l) (runD (wipeF (GeoMath.log g).toNat 1) D) = 0) :
    Calls Tryz.prog 7 #[.pointer (some ⟨sh.b, 0, none⟩), geoV g, .slice a n cap] w fun e w' => Onl sh.S w w' ∧
      (askE 0 l ≠ 0 → e = .returned (.tuple #[.pointer none, .int .i64 (askE 0 l)]) ∧ Dvx w' sh D) ∧
      (askE 0 l = 0 → ∃ lb tb sl, e = .returned (.tuple #[.pointer (some ⟨lb, 0, none⟩), .int .i64 0]) ∧ LogAt B w' ⟨lb, tb, sh, g⟩ (runD (cmpF (GeoMath.log g).toNat v1 l) (runD (wipeF (GeoMath.log g).toNat 1) D)) (v1.cmp l) sl ∧ w.heap.size ≤ lb ∧ ∀ k ∈ ob sl, w.heap.size ≤ k) := by
  have HOV : Hid (∀ u, Below w.heap.size w u → Calls Tryz.prog 23 #[.pointer (some ⟨sh.b, 0, none⟩), geoV g] u fun e w' => ∃ lb tb, e = .returned (.tuple #[.pointer (some ⟨lb, 0, none⟩), .int .i64 0]) ∧ w.heap.size ≤ lb ∧ LogAt B w' ⟨lb, tb, sh, g⟩ D v0 (.slice none 0 0) ∧ Below u.heap.size u w') := Lib.hid fun u hu => over_log B sh D g w u h hr hn hB hBw hu
  have HSN : Hid (∀ k ∈ sh.S, k < w.heap.size) := Lib.hid h.lt
  obtain ⟨L, hL⟩ : ∃ L, (GeoMath.log g).toNat = L := ⟨_, rfl⟩
  have HLE : Hid (∀ lb tb, (⟨lb, tb, sh, g⟩ : LogD).L = L) := Lib.hid fun lb tb => hL
  rw [hL] at he1 he2 ⊢
  have HASK : Hid (∀ (u : World) (lb tb : Nat) (sl : Value), LogAt B u ⟨lb, tb, sh, g⟩ D v1 sl → Onl sh.S w u → Calls Tryz.prog 24 #[.pointer (some ⟨lb, 0, none⟩), .slice a n cap] u fun e w' => e = .returned (.int .i64 (askE 0 l)) ∧ Below u.heap.size u w') := Lib.hid fun u lb tb sl hu ho => log_ask_any hu a n cap l hln hn2 (hl u ho)
  have HWP : Hid (∀ (u : World) (lb tb : Nat) (sl : Value), LogAt B u ⟨lb, tb, sh, g⟩ D v1 sl → Calls Tryz.prog 25 #[.pointer (some ⟨lb, 0, none⟩), .int .i64 1] u fun e w' => e = .returned (.int .i64 0) ∧ LogAt B w' ⟨lb, tb, sh, g⟩ (runD (wipeF L 1) D) v1 sl ∧ Onl sh.S u w') := Lib.hid fun u lb tb sl hu => by
    have := log_wipe_any hu 1 (by omega)
    rw [HLE.out, he1] at this
    exact this
  have HCP : Hid (∀ (u : World) (lb tb : Nat) (sl : Value), askE 0 l = 0 → LogAt B u ⟨lb, tb, sh, g⟩ (runD (wipeF L 1) D) v1 sl → Onl sh.S w u → B ≤ u.heap.size → Calls Tryz.prog 26 #[.pointer (some ⟨lb, 0, none⟩), .slice a n cap] u fun e w' => e = .returned (.int .i64 0) ∧ Onl ((⟨lb, tb, sh, g⟩ : LogD).S sl) u w' ∧ ∃ sl', LogAt B w' ⟨lb, tb, sh, g⟩ (runD (cmpF L v1 l) (runD (wipeF L 1) D)) (v1.cmp l) sl' ∧ ∀ k ∈ ob sl', u.heap.size ≤ k) := Lib.hid fun u lb tb sl ha hu ho hBu => by
    have := log_compact_go hu hBu a n cap l hln (hl u ho) ha (by show (0 : Int) ≤ 0; omega)
    rw [HLE.out, he2] at this
    exact this.mono fun e w' ⟨h1, h2, h3, _⟩ => ⟨h1, h2, h3 rfl⟩
  have HBW := Lib.hid hBw
  generalize runD (cmpF L v1 l) (runD (wipeF L 1) D) = D2 at *
  generalize runD (wipeF L 1) D = D1 at *
  generalize v1.cmp l = V2 at *
  generalize askE 0 l = E at *
  have HR0 : Hid (∀ (lb tb : Nat), (logL ⟨lb, tb, sh, g⟩ v0 (.slice none 0 0)).set 1 (.int .i64 1) = logL ⟨lb, tb, sh, g⟩ v1 (.slice none 0 0)) := Lib.hid fun _ _ => rfl
  clear h hr hn hB hBw hL he1 he2 hl hln
  obtain ⟨g0, hgg⟩ : ∃ g0, g = g0 := ⟨_, rfl⟩
  obtain ⟨gd, gp, gs⟩ := g0
  have HGV : Hid (geoV g = .agg #[.int .i64 gd, .int .i64 gp, .int .i64 gs]) := Lib.hid (by rw [hgg]; rfl)
  rw [HGV.out] at HOV ⊢
  clear hgg
  go_enter Tryz.func7, Tryz.ntmps7
  by_cases hez : E = 0
  · have HEZ := Lib.hid hez
    subst hez
    go_wp2_with (first
      | ((with_reducible refine wpBoxK (w := w) [Value.int .i64 gd, .int .i64 gp, .int .i64 gs] 33 ?_ ?_); rfl; intro u1 r1 b1 s1; have R1 := Lib.hid r1; have B1 := Lib.hid b1; clear r1 b1 s1)
      | ((with_reducible refine R1.out.wpLoadK 33 fits_geo rfl ?_ ?_); rfl)
      | (go_at_call 23; (with_reducible refine (HOV.out u1 B1.out).mono ?_); rintro e u2 ⟨lb, tb, rfl, hwl, hla, b2⟩; have HWL := Lib.hid hwl; have LA := Lib.hid hla; have RL := Lib.hid hla.row; have B2 := Lib.hid (B1.out.next b2); clear b2 hla hwl)
      | ((with_reducible refine RL.out.wpStore1K 1 3 (.int .i64 1) finfo_int (logL_lt 1 (by decide)) (int_cells _ _) (int_one _ _) ?_ ?_); rfl; intro u3 r3 o3 s3; have L3 : Hid (LogAt B u3 ⟨lb, tb, sh, g⟩ D v1 (.slice none 0 0)) := Lib.hid (LA.out.setHalf (by rw [← HR0.out]; exact r3) o3 (World.ownsRow_nil _ _ _ _) (by show 1 < 2; omega) (by show 0 ≤ 16; omega) (by simp [ob, Value.ownBlock])); have O3 : Hid (Onl sh.S w u3) := Lib.hid ((Onl.of_below B2.out).belowB (o3.below HWL.out B2.out.size)); clear r3 o3 s3)
      | (go_at_call 24; (with_reducible refine (HASK.out u3 lb tb _ L3.out O3.out).mono ?_); rintro e u4 ⟨rfl, b4⟩; have L4 := Lib.hid (L3.out.step b4); have O4 := Lib.hid (O3.out.step b4); have c41 : u4.cell? ⟨lb, 1, none⟩ = some (.int .i64 1) := (L3.out.step b4).c1; clear b4)
      | (go_at_call 25; (with_reducible refine (HWP.out u4 lb tb _ L4.out).mono ?_); rintro e u5 ⟨rfl, l5, o5⟩; have L5 := Lib.hid l5; have O5 := Lib.hid (O4.out.trans o5); clear l5 o5)
      | (go_at_call 26; (with_reducible refine (HCP.out u5 lb tb _ (by trivial) L5.out O5.out (Nat.le_trans HBW.out O5.out.size)).mono ?_); rintro e u6 ⟨rfl, o6, sl6, l6, g6⟩; have L6 := Lib.hid l6; have OX6 := Lib.hid o6; have G6 := Lib.hid g6; clear l6 o6 g6))
    go_ret2
    refine ⟨?_, ?_⟩
    · refine ⟨?_, ?_, ?_, Nat.le_trans O5.out.size OX6.out.size, fun k hk hs => ?_⟩
      · exact OX6.out.1.trans O5.out.1
      · exact OX6.out.2.1.trans O5.out.2.1
      · exact OX6.out.2.2.1.trans O5.out.2.2.1
      · refine (OX6.out.2.2.2.2 k (Nat.lt_of_lt_of_le hk O5.out.size) fun hm => ?_).trans (O5.out.2.2.2.2 k hk hs)
        simp only [LogD.S, List.mem_cons, List.mem_append] at hm
        rcases hm with rfl | hm | hm
        · have := HWL.out; omega
        · simp [ob, Value.ownBlock] at hm
        · exact hs hm
    · first | exact ⟨lb, tb, sl6, rfl, L6.out, HWL.out, fun k hk => Nat.le_trans O5.out.size (G6.out k hk)⟩ | exact ⟨lb, rfl, tb, sl6, L6.out, HWL.out, fun k hk => Nat.le_trans O5.out.size (G6.out k hk)⟩
  · have hne1 : (E != 0) = true := bne_iff_ne.2 hez
    have HEZ := Lib.hid hez
    clear hez
    go_wp2_with (first
      | ((with_reducible refine wpBoxK (w := w) [Value.int .i64 gd, .int .i64 gp, .int .i64 gs] 33 ?_ ?_); rfl; intro u1 r1 b1 s1; have R1 := Lib.hid r1; have B1 := Lib.hid b1; clear r1 b1 s1)
      | ((with_reducible refine R1.out.wpLoadK 33 fits_geo rfl ?_ ?_); rfl)
      | (go_at_call 23; (with_reducible refine (HOV.out u1 B1.out).mono ?_); rintro e u2 ⟨lb, tb, rfl, hwl, hla, b2⟩; have HWL := Lib.hid hwl; have LA := Lib.hid hla; have RL := Lib.hid hla.row; have B2 := Lib.hid (B1.out.next b2); clear b2 hla hwl)
      | ((with_reducible refine RL.out.wpStore1K 1 3 (.int .i64 1) finfo_int (logL_lt 1 (by decide)) (int_cells _ _) (int_one _ _) ?_ ?_); rfl; intro u3 r3 o3 s3; have L3 : Hid (LogAt B u3 ⟨lb, tb, sh, g⟩ D v1 (.slice none 0 0)) := Lib.hid (LA.out.setHalf (by rw [← HR0.out]; exact r3) o3 (World.ownsRow_nil _ _ _ _) (by show 1 < 2; omega) (by show 0 ≤ 16; omega) (by simp [ob, Value.ownBlock])); have O3 : Hid (Onl sh.S w u3) := Lib.hid ((Onl.of_below B2.out).belowB (o3.below HWL.out B2.out.size)); clear r3 o3 s3)
      | (go_at_call 24; (with_reducible refine (HASK.out u3 lb tb _ L3.out O3.out).mono ?_); rintro e u4 ⟨rfl, b4⟩; have L4 := Lib.hid (L3.out.step b4); have O4 := Lib.hid (O3.out.step b4); clear b4))
    go_ret2
    exact ⟨O4.out, fun _ => ⟨rfl, L4.out.dev⟩, fun h => absurd h HEZ.out⟩
end Go.Proofs.YtbnjenbhpaknbaaGreat

/- A log's device, as it goes on (mathematics). -/
namespace Go.Proofs.YtbnjenbhpaknbaaGreat
open Go.RowKit CrcMath NumMath FlaMath GeoMath
set_option linter.unusedVariables false

theorem lookF_same {C C' : List UInt8} {L h : Nat} (e : ∀ c i, c < 2 → i < 16 → hp C' L h c i = hp C L h c i) : lookF C' L h = lookF C L h := by
  unfold lookF
  exact halfF_congr (fun i hi => e 0 i (by omega) hi) (fun i hi => e 1 i (by omega) hi)
/-- A log stands in half a, with these records; the other half is elder, or none. -/
structure LogSt (D : Dv) (L a : Nat) (g : Int) (base later : List Rc) : Prop where
  fit : Fit D L
  ha : a < 2
  half : HalfIs D.C L a (allR g base later)
  other : (lookF D.C L (1 - a)).gen < g
  few : base.length + later.length + 2 ≤ 16
  g : gOk g
  hb : ∀ r ∈ base, r.may = true
  hm : ∀ r ∈ later, r.may = true
def stV (a : Nat) (g : Int) (base later : List Rc) : LV := ⟨a, g, bares (base ++ later), base.length + later.length + 2, true⟩
section
variable {D : Dv} {L a : Nat} {g : Int} {base later : List Rc}
theorem LogSt.look (h : LogSt D L a g base later) : lookF D.C L a = stV a g base later := h.half.look h.few h.g h.hb h.hm
theorem LogSt.open (h : LogSt D L a g base later) : openF D.C L = stV a g base later := by
  have hl := h.look
  have ho := h.other
  have hg := h.g.1
  have hg2 : (lookF D.C L a).gen = g := by rw [hl]; rfl
  have ha := h.ha
  unfold openF betterF
  rcases Nat.lt_or_ge 0 a with h0 | h0
  · obtain rfl : a = 1 := by omega
    rw [show 1 - 1 = 0 from rfl] at ho
    rw [← hl]
    by_cases hz : v0.gen < (lookF D.C L 0).gen
    · rw [if_pos hz, if_pos (by omega)]
    · rw [if_neg hz, if_pos (by show (0 : Int) < _; omega)]
  · obtain rfl : a = 0 := by omega
    rw [show 1 - 0 = 1 from rfl] at ho
    rw [if_pos (show v0.gen < (lookF D.C L 0).gen by show (0 : Int) < _; omega), if_neg (by omega), hl]
theorem LogSt.blank (h : LogSt D L a g base later) (hn : base.length + later.length + 2 < 16) : ∀ c, c < 2 → pgs D.C (atF L a c) (base.length + later.length + 2) = ff := fun c hc => by
  have := h.half c (base.length + later.length + 2) hc hn
  rw [dif_neg (by rw [allR_length]; omega)] at this
  exact this
/-- A page more. -/
theorem LogSt.app (h : LogSt D L a g base later) (r : Rc) (hr : r.may = true) (hn : base.length + later.length + 2 < 16) (hz : runE (layP L a (base.length + later.length + 2) (r.page (base.length + later.length + 2))) D = 0) :
    LogSt (runD (layP L a (base.length + later.length + 2) (r.page (base.length + later.length + 2))) D) L a g base (later ++ [r]) := by
  have hl := allR_length g base later
  have hla : Laid D (runD (layP L a (base.length + later.length + 2) (r.page (base.length + later.length + 2))) D) L a (base.length + later.length + 2) (r.page (base.length + later.length + 2)) 2 := laid_run h.fit h.ha hn (Rc.page_length r _) (h.blank hn) 2 (Nat.le_refl _) hz
  have hf : Filled D D L a (allR g base later) := ⟨h.fit, rfl, id, h.half, fun _ _ _ _ _ _ _ => rfl⟩
  have hs := hf.snoc (r := r) (by omega) (by rw [hl]; exact hla)
  rw [← allR_snoc] at hs
  refine ⟨hs.fit, h.ha, hs.half, ?_, by rw [List.length_append]; simp; omega, h.g, h.hb, fun q hq => ?_⟩
  · rw [lookF_same fun c i hc hi => hs.other (1 - a) c i (by omega) (by have := h.ha; omega) hc hi]
    exact h.other
  · rcases List.mem_append.1 hq with hq | hq
    · exact h.hm q hq
    · rw [List.mem_singleton.1 hq]; exact hr
theorem LogSt.app_unlit (h : LogSt D L a g base later) (hl : D.lit = false) (r : Rc) (hn : base.length + later.length + 2 < 16) : runE (layP L a (base.length + later.length + 2) (r.page (base.length + later.length + 2))) D = 0 :=
  lay_unlit h.fit hl h.ha hn (Rc.page_length r _) (h.blank hn) 2 (Nat.le_refl _)
theorem runD_lit : ∀ (o : List Fop) (D : Dv), D.lit = false → (runD o D).lit = false
  | [], _, h => h
  | o :: r, D, h => by
    have h1 : (opD o D).lit = false := by
      unfold opD
      split
      · unfold eraseD; split
        · exact burned_lit h
        · exact h
      · unfold programD; split
        · exact burned_lit h
        · exact h
    unfold runD
    split
    · exact runD_lit r _ h1
    · exact h1
theorem bares_may {l : List Rc} (h : l.all Rc.may = true) : ∀ r ∈ bares l, r.may = true := fun r hr => by
  obtain ⟨q, hq, rfl⟩ := List.mem_map.1 hr
  rw [Rc.bare_may]
  exact (List.all_eq_true.1 h) q hq
theorem ask_ok {g : Int} {l : List Rc} (he : askE g l = 0) : l.all Rc.may = true ∧ l.length ≤ 12 ∧ g < 281474976710655 := by
  unfold askE at he
  cases hq : l.all Rc.may with
  | false => rw [hq] at he; simp at he
  | true =>
    rw [hq, if_pos rfl] at he
    by_cases hx : 12 < l.length ∨ 281474976710655 ≤ g
    · rw [if_pos hx] at he; cases he
    · refine ⟨rfl, ?_, ?_⟩
      · exact Nat.not_lt.1 fun h => hx (.inl h)
      · exact Int.not_le.1 fun h => hx (.inr h)
theorem cmp_len {g : Int} {l : List Rc} (h12 : l.length ≤ 12) : (allR g (bares l) []).length ≤ 16 := by rw [allR_length, bares_length]; simp; omega
/-- Another base. -/
theorem LogSt.cmp (h : LogSt D L a g base later) (V : LV) (hV : V.which = a ∧ V.gen = g) (l : List Rc) (he : askE g l = 0) (hz : runE (cmpF L V l) D = 0) : LogSt (runD (cmpF L V l) D) L (1 - a) (g + 1) (bares l) [] := by
  obtain ⟨h1, h2, h3⟩ := ask_ok he
  have ha := h.ha
  have hgg := h.g
  unfold cmpF at hz ⊢
  rw [hV.1, hV.2] at hz ⊢
  have hf := fill_all h.fit (by omega : 1 - a < 2) (allR (g + 1) (bares l) []) (cmp_len h2) hz
  have hlk := h.look
  refine ⟨hf.fit, by omega, hf.half, ?_, by rw [bares_length]; simp; omega, by unfold gOk at hgg ⊢; omega, bares_may h1, by simp⟩
  rw [show 1 - (1 - a) = a by omega, lookF_same fun c i hc hi => hf.other a c i ha (by omega) hc hi, hlk]
  show g < g + 1
  omega
theorem LogSt.cmp_unlit (h : LogSt D L a g base later) (hl : D.lit = false) (V : LV) (hV : V.which = a ∧ V.gen = g) (l : List Rc) (he : askE g l = 0) : runE (cmpF L V l) D = 0 := by
  obtain ⟨h1, h2, h3⟩ := ask_ok he
  have ha := h.ha
  unfold cmpF
  rw [hV.1, hV.2]
  exact fill_unlit h.fit hl (by omega) _ (cmp_len h2) _ (Nat.le_refl _)
end
/-- A log's beginning. -/
theorem LogSt.first {D : Dv} {L : Nat} (h : Fit D L) (l : List Rc) (he : askE 0 l = 0) (hz1 : runE (wipeF L 1) D = 0) (hz2 : runE (cmpF L v1 l) (runD (wipeF L 1) D) = 0) : LogSt (runD (cmpF L v1 l) (runD (wipeF L 1) D)) L 0 1 (bares l) [] := by
  obtain ⟨h1, h2, h3⟩ := ask_ok he
  have hw : Wiped D (runD (wipeF L 1) D) L 1 8 := wiped_run h (by omega : 1 < 2) 8 (Nat.le_refl _) hz1
  have hf := fill_all hw.fit (by omega : 0 < 2) (allR 1 (bares l) []) (cmp_len h2) hz2
  refine ⟨hf.fit, by omega, hf.half, ?_, by rw [bares_length]; simp; omega, by unfold gOk; omega, bares_may h1, by simp⟩
  show (lookF _ L 1).gen < 1
  have hs : HalfIs (runD (fillF L 0 (allR 1 (bares l) [])) (runD (wipeF L 1) D)).C L 1 [] := fun c i hc hi => by
    rw [hf.other 1 c i (by omega) (by omega) hc hi, dif_neg (by simp)]
    exact hw.gone c i hc hi (by omega)
  have := (hs.stands (by simp)).none 1
  have e : lookF (runD (cmpF L v1 l) (runD (wipeF L 1) D)).C L 1 = ⟨1, 0, [], 0, true⟩ := this
  rw [e]
  show (0 : Int) < 1
  omega
theorem first_unlit {D : Dv} {L : Nat} (h : Fit D L) (hl : D.lit = false) (l : List Rc) (hn : l.length ≤ 12) : runE (wipeF L 1) D = 0 ∧ runE (cmpF L v1 l) (runD (wipeF L 1) D) = 0 := by
  have hz1 := wipe_unlit h hl (by omega : 1 < 2) 8 (Nat.le_refl _)
  have hw : Wiped D (runD (wipeF L 1) D) L 1 8 := wiped_run h (by omega : 1 < 2) 8 (Nat.le_refl _) hz1
  exact ⟨hz1, fill_unlit hw.fit (hw.lit hl) (by omega : 0 < 2) (allR 1 (bares l) []) (cmp_len hn) _ (Nat.le_refl _)⟩
/-- A blank device of 27 sectors. -/
theorem fit_D0 : Fit (D0 27) 9 := ⟨rfl, fun i => by
  show (List.replicate 27 false).getD i false = false
  rw [List.getD_eq_getElem?_getD, List.getElem?_replicate]
  split <;> rfl, by show (List.replicate (27 * 64) (255 : UInt8)).length = 64 * (List.replicate 27 false).length; rw [List.length_replicate, List.length_replicate], by show 9 + 18 ≤ (List.replicate 27 false).length; rw [List.length_replicate]; decide⟩
end Go.Proofs.YtbnjenbhpaknbaaGreat

/- Contracts of geo's Of (gen_geo_e.py). -/
namespace Go.Proofs.YtbnjenbhpaknbaaGreat
open Go.RowKit GeoMath
set_option linter.unusedVariables false
set_option maxRecDepth 100000

end Go.Proofs.YtbnjenbhpaknbaaGreat

/- The document's Find. -/
namespace Go.Proofs.YtbnjenbhpaknbaaGreat
open Go.RowKit GeoMath
set_option linter.unusedVariables false
set_option maxRecDepth 100000

theorem plc_get (W S n k : Nat) (h : k < n) (j : Nat) (v : Value) (hj : (plv (pl W S k))[j]? = some v) : (plc W S n)[k * 4 + j]? = some v := by
  have hj4 : j < 4 := (List.getElem?_eq_some_iff.1 hj).1
  induction n with
  | zero => omega
  | succ n ih =>
    have hl : ∀ n, (plc W S n).length = n * 4 := fun n => by
      induction n with
      | zero => rfl
      | succ n ih => rw [plc_step, List.length_append, ih, Nat.add_mul]; rfl
    rw [plc_step]
    by_cases e : k < n
    · rw [List.getElem?_append_left (by rw [hl]; omega), ih e]
    · have e : k = n := by omega
      subst e
      rw [List.getElem?_append_right (by rw [hl]; omega), hl, Nat.add_sub_cancel_left, hj]
theorem plc_at {w : World} {W S n k bl off : Nat} (hc : ∀ j v, (plc W S n)[j]? = some v → w.cell? ⟨bl, off + j, none⟩ = some v) (h : k < n) : w.rangeAt bl (off + k * 4) (plv (pl W S k)) := by
  intro j v hj
  rw [Nat.add_assoc]
  exact hc _ _ (plc_get W S n k h j v hj)
end Go.Proofs.YtbnjenbhpaknbaaGreat

/- What geo answers is where the list has it: mathematics, no program in it. -/
namespace Go.Proofs.YtbnjenbhpaknbaaGreat.GeoMath
set_option linter.unusedVariables false

/-- What the statement's sector asks. -/
def secB (n e want : Int) : Bool := if want < 0 then decide (n = 0 ∧ e = 2) else decide (n = want ∧ e = 0)
theorem secB_no {n e want : Int} (h : want = -1) (hn : n = 0) (he : e = 2) : secB n e want = true := by
  subst h; subst hn; subst he; decide
theorem secB_yes {n e want : Int} (h : 0 ≤ want) (hn : n = want) (he : e = 0) : secB n e want = true := by
  rw [secB, if_neg (by omega)]
  exact decide_eq_true ⟨hn, he⟩
structure Dim (g : Gm) (W S : Nat) : Prop where
  r : Rt g
  w : g.d + g.p = (W : Int)
  s : g.s = (S : Int)
theorem Dim.W3 {g : Gm} {W S : Nat} (h : Dim g W S) : 3 ≤ W := by have := h.r.d1; have := h.r.p2; have := h.w; omega
theorem Dim.S1 {g : Gm} {W S : Nat} (h : Dim g W S) : 1 ≤ S := by have := h.r.s1; have := h.s; omega
theorem Dim.slot {g : Gm} {W S : Nat} (h : Dim g W S) : slot g = ((W * S : Nat) : Int) := by rw [slot_yes h.r, h.w, h.s, Int.natCast_mul]
theorem ask_two {g : Gm} {L : List Sp} (hr : Rt g) (h : ¬ askF g L = 0) : askF g L = 2 := by
  rcases ask_cases g L with ⟨h1, _⟩ | ⟨_, _, h2⟩ | ⟨_, _, h2⟩
  · rw [(right_iff g).2 hr] at h1; cases h1
  · exact h2
  · exact absurd h2 h
theorem ask_ok {g : Gm} {L : List Sp} (hr : Rt g) (h : okAll L = true) : askF g L = 0 := by
  rw [askF, if_pos ((right_iff g).2 hr), if_pos h]
theorem sec_ok {g : Gm} {W S : Nat} (D : Dim g W S) {a b c r : Int} (h : IsAt W S (cnt W S) ⟨0, a, b, c⟩ r) : secB (sect g a b c) (sectQ g a b c) r = true := by
  have hW := D.W3
  have hS := D.S1
  rcases h with ⟨h1, h2⟩ | ⟨j, h1, h2, h3, h4⟩
  · have hq : ¬ sectQ g a b c = 0 := fun hq => by
      have hi := (sectQ_zero g a b c).1 hq
      have x1 := hi.a0; have x2 := hi.a2; have x3 := hi.b0; have x4 := hi.bs; have x5 := hi.c0; have x6 := hi.cw
      rw [D.s] at x4
      rw [D.w] at x6
      have l1 : a.toNat < 3 := by omega
      have l2 : c.toNat < W := by omega
      have l3 : b.toNat < S := by omega
      have hp := pl_slot l1 l2 l3
      have hl : a.toNat * (W * S) + c.toNat * S + b.toNat < cnt W S := by
        have m1 : (a.toNat + 1) * (W * S) ≤ 3 * (W * S) := Nat.mul_le_mul_right _ l1
        have m2 : (c.toNat + 1) * S ≤ W * S := Nat.mul_le_mul_right _ l2
        rw [Nat.add_mul] at m1 m2
        rw [cnt]
        omega
      refine h2 _ hl ?_
      rw [hp, Int.toNat_of_nonneg x1, Int.toNat_of_nonneg x3, Int.toNat_of_nonneg x5]
    exact secB_no h1 (if_neg hq) (ask_two D.r hq)
  · rcases pl_cases (by omega) (by omega) h1 with ⟨a', b', c', l1, l2, l3, e, hp⟩ | ⟨a', b', c', l1, l2, l3, e, hp⟩ | ⟨a', l1, e, hp⟩
    · rw [hp] at h3
      cases h3
      have hi : SIn g (a' : Nat) (b' : Nat) (c' : Nat) := ⟨D.r, by omega, by omega, by omega, by rw [D.s]; omega, by omega, by rw [D.w]; omega⟩
      have hq := (sectQ_zero g _ _ _).2 hi
      refine secB_yes (by omega) ?_ hq
      rw [sect, if_pos hq, D.slot, D.s, h2, e]
      simp only [Int.natCast_add, Int.natCast_mul]
    · rw [hp] at h3; cases h3
    · rw [hp] at h3; cases h3
theorem half_ok {g : Gm} {W S : Nat} (D : Dim g W S) {a b r : Int} (h : IsAt W S (cnt W S) ⟨1, a, b, 0⟩ r) : secB (half g a b) (halfQ g a b) r = true := by
  have hW := D.W3
  have hS := D.S1
  rcases h with ⟨h1, h2⟩ | ⟨j, h1, h2, h3, h4⟩
  · have hq : ¬ halfQ g a b = 0 := fun hq => by
      obtain ⟨⟨x1, x2⟩, x3, x4⟩ := (okAll2 _ _).1 (ask_zero hq).2
      dsimp only at x1 x2 x3 x4
      have hp := pl_log (W := W) (S := S) (a := a.toNat) (b := b.toNat) (c := 0) (by omega) (by omega) (by omega)
      refine h2 _ (by rw [cnt]; omega) (hp.trans ?_)
      rw [Int.toNat_of_nonneg x1, Int.toNat_of_nonneg x3]
      rfl
    exact secB_no h1 (if_neg hq) (ask_two D.r hq)
  · rcases pl_cases (by omega) (by omega) h1 with ⟨a', b', c', l1, l2, l3, e, hp⟩ | ⟨a', b', c', l1, l2, l3, e, hp⟩ | ⟨a', l1, e, hp⟩
    · rw [hp] at h3; cases h3
    · rw [hp] at h3
      simp only [Pl.mk.injEq] at h3
      obtain ⟨_, ha, hb, hc⟩ := h3
      have hq : halfQ g a b = 0 := ask_ok D.r ((okAll2 _ _).2 ⟨⟨by show 0 ≤ a; omega, by show a ≤ 1; omega⟩, by show 0 ≤ b; omega, by show b ≤ 1; omega⟩)
      refine secB_yes (by omega) ?_ hq
      rw [half, if_pos hq, log, D.slot, h2, e]
      omega
    · rw [hp] at h3; cases h3
theorem tal_ok {g : Gm} {W S : Nat} (D : Dim g W S) {a r : Int} (h : IsAt W S (cnt W S) ⟨2, a, 0, 0⟩ r) : secB (talA g a) (talQ g a) r = true := by
  have hW := D.W3
  have hS := D.S1
  rcases h with ⟨h1, h2⟩ | ⟨j, h1, h2, h3, h4⟩
  · have hq : ¬ talQ g a = 0 := fun hq => by
      obtain ⟨x1, x2⟩ := (okAll1 _).1 (ask_zero hq).2
      dsimp only at x1 x2
      have hp := pl_tal (W := W) (S := S) (a := a.toNat)
      refine h2 _ (by rw [cnt]; omega) (hp.trans ?_)
      rw [Int.toNat_of_nonneg x1]
    exact secB_no h1 (if_neg hq) (ask_two D.r hq)
  · rcases pl_cases (by omega) (by omega) h1 with ⟨a', b', c', l1, l2, l3, e, hp⟩ | ⟨a', b', c', l1, l2, l3, e, hp⟩ | ⟨a', l1, e, hp⟩
    · rw [hp] at h3; cases h3
    · rw [hp] at h3; cases h3
    · rw [hp] at h3
      simp only [Pl.mk.injEq] at h3
      obtain ⟨_, ha, _, _⟩ := h3
      have hq : talQ g a = 0 := ask_ok D.r ((okAll1 _).2 ⟨by show 0 ≤ a; omega, by show a ≤ 1; omega⟩)
      refine secB_yes (by omega) ?_ hq
      rw [talA, if_pos hq, tal, log, D.slot, h2, e]
      omega
/-- What Of answers: of a slot's sector what lies there, of others zeros. -/
theorem of_cases {g : Gm} {W S : Nat} (D : Dim g W S) (n : Int) :
    ((n < 0 ∨ ((cnt W S : Nat) : Int) ≤ n) ∧ ofA g n = 0 ∧ ofB g n = 0 ∧ ofC g n = 0 ∧ ofK g n = false) ∨
    ∃ k : Nat, n = (k : Int) ∧ k < cnt W S ∧ ((¬ (pl W S k).w = 0 ∧ ofA g n = 0 ∧ ofB g n = 0 ∧ ofC g n = 0 ∧ ofK g n = false) ∨ (pl W S k = ⟨0, ofA g n, ofB g n, ofC g n⟩ ∧ ofK g n = true)) := by
  have hW := D.W3
  have hS := D.S1
  have hno : ¬ (0 ≤ n ∧ n < 3 * ((W * S : Nat) : Int)) → ofA g n = 0 ∧ ofB g n = 0 ∧ ofC g n = 0 ∧ ofK g n = false := fun h => by
    have hq : ¬ ofQ g n = 0 := fun hq => by
      obtain ⟨x1, x2⟩ := (okAll1 _).1 (ask_zero hq).2
      dsimp only at x1 x2
      rw [log, D.slot] at x2
      exact h ⟨x1, by omega⟩
    exact ⟨if_neg hq, if_neg hq, if_neg hq, decide_eq_false hq⟩
  by_cases h0 : n < 0 ∨ ((cnt W S : Nat) : Int) ≤ n
  · exact Or.inl ⟨h0, hno (by rw [cnt] at h0; omega)⟩
  · refine Or.inr ⟨n.toNat, by omega, by omega, ?_⟩
    by_cases h1 : n.toNat < 3 * (W * S)
    · refine Or.inr ?_
      have hq : ofQ g n = 0 := ask_ok D.r ((okAll1 _).2 ⟨by show 0 ≤ n; omega, by show n ≤ log g - 1; rw [log, D.slot]; omega⟩)
      obtain ⟨k, rfl⟩ : ∃ k : Nat, n = (k : Int) := ⟨n.toNat, by omega⟩
      rw [ofA, ofB, ofC, ofK, if_pos hq, if_pos hq, if_pos hq, D.slot, D.s, Int.toNat_natCast, pl, if_pos (by simpa using h1)]
      exact ⟨by simp only [Int.natCast_ediv, Int.natCast_emod], decide_eq_true hq⟩
    · refine Or.inl ⟨?_, hno (by omega)⟩
      rw [pl, if_neg h1]
      split <;> simp
end Go.Proofs.YtbnjenbhpaknbaaGreat.GeoMath

/- geo's awake; the document's Right, Room; the statements' sector, of (gen_geo_i.py). -/
namespace Go.Proofs.YtbnjenbhpaknbaaGreat
open Go.RowKit GeoMath
set_option linter.unusedVariables false
set_option maxRecDepth 100000

theorem zero_geo : ∀ u, (zeroValue 33).run Tryz.prog u = .ok (.agg [Value.int .i64 0, .int .i64 0, .int .i64 0].toArray) u := fun u => by kernel_rfl
end Go.Proofs.YtbnjenbhpaknbaaGreat

/- The small geometry of the laws of log, tally and others. -/
namespace Go.Proofs.YtbnjenbhpaknbaaGreat
open Go.RowKit GeoMath
set_option linter.unusedVariables false
set_option maxRecDepth 100000

def G1 : Gm := ⟨1, 2, 1⟩
theorem G1_right : right G1 = true := by decide
theorem G1_all : all G1 = 27 := by decide
theorem G1_log : GeoMath.log G1 = 9 := by decide
def geo1 : List Value := [Value.int .i64 1, .int .i64 2, .int .i64 1]
theorem built_geo1 : Tryz.prog.built 33 [(0, .int .i64 1), (1, .int .i64 2), (2, .int .i64 1)] = some geo1.toArray := by kernel_rfl
theorem llaw_geo (w : World) : Calls Tryz.prog 8 #[] w fun e w' => e = .returned (.agg geo1.toArray) ∧ Below w.heap.size w w' := by
  show Calls _ _ _ _ fun e w' => e = .returned (.agg [Value.int .i64 1, .int .i64 2, .int .i64 1].toArray) ∧ Below w.heap.size w w'
  go_enter Tryz.func8, Tryz.ntmps8
  go_wp2_with (first
    | ((with_reducible refine wpAllocK (w := w) [Value.int .i64 0, .int .i64 0, .int .i64 0] 33 zero_geo ?_ ?_); rfl; intro u1 r1 b1 s1; have R1 := Lib.hid r1; have B1 := Lib.hid b1; clear r1 b1 s1)
    | ((with_reducible refine R1.out.wpStoreK 33 [Value.int .i64 1, .int .i64 2, .int .i64 1] fits_geo rfl rfl rfl ?_ ?_); rfl; intro u2 r2 o2 s2; have R2 := Lib.hid r2; have B2 : Hid (Below w.heap.size w u2) := Lib.hid (B1.out.trans (o2.below (Nat.le_refl _) B1.out.size)); clear r2 o2 s2))
  exact bodyPost_ret (R2.out.result rfl _ _ rfl Tryz.underlying33 rfl fits_geo.size) rfl ⟨rfl, B2.out⟩
end Go.Proofs.YtbnjenbhpaknbaaGreat

/- The law's own: Geo, blank, Plain, wrong; Same. -/
namespace Go.Proofs.YtbnjenbhpaknbaaGreat
open Go.RowKit CrcMath NumMath FlaMath GeoMath
set_option linter.unusedVariables false
set_option maxRecDepth 100000

theorem llaw_blank (w : World) : Calls Tryz.prog 6 #[] w fun e w' => ∃ s : Sh, e = .returned (.pointer (some ⟨s.b, 0, none⟩)) ∧ Dvx w' s (D0 27) ∧ (∀ k ∈ s.S, w.heap.size ≤ k) ∧ Below w.heap.size w w' := by
  have HG : Hid (∀ u, Calls Tryz.prog 8 #[] u fun e w' => e = .returned (geoV G1) ∧ Below u.heap.size u w') := Lib.hid llaw_geo
  have HA : Hid (∀ u, Calls Tryz.prog 22 #[geoV G1] u fun e w' => e = .returned (.int .i64 27) ∧ Below u.heap.size u w') := Lib.hid fun u => by
    have := all_any G1 u
    rwa [G1_all] at this
  have HN : Hid (∀ u : World, Calls Tryz.prog 21 #[.int .i64 27] u fun e w' => ∃ s : Sh, e = .returned (.tuple #[.pointer (some ⟨s.b, 0, none⟩), .int .i64 0]) ∧ Dev w' s (D0 27) ∧ (∀ k ∈ s.S, u.heap.size ≤ k) ∧ Below u.heap.size u w') := Lib.hid fun u => flnew_any 27 u (by omega) (by omega)
  generalize geoV G1 = GV at *
  generalize D0 27 = D at *
  go_enter Tryz.func6, Tryz.ntmps6
  go_wp2_with (first
    | (go_at_call 8; (with_reducible refine (HG.out w).mono ?_); rintro e u1 ⟨rfl, b1⟩; have B1 := Lib.hid b1; clear b1)
    | (go_at_call 22; (with_reducible refine (HA.out u1).mono ?_); rintro e u2 ⟨rfl, b2⟩; have B2 := Lib.hid (B1.out.next b2); clear b2)
    | (go_at_call 21; (with_reducible refine (HN.out u2).mono ?_); rintro e u3 ⟨s, rfl, hd, hs, b3⟩; have HD := Lib.hid hd; have HS := Lib.hid hs; have B3 := Lib.hid (B2.out.next b3); clear hd hs b3))
  go_ret
  exact ⟨s, rfl, HD.out.dvx, fun k hk => Nat.le_trans B2.out.size (HS.out k hk), B3.out⟩

theorem many_rrec : Many Tryz.prog 47 4 := Many.of (by kernel_rfl)
theorem rrec_built_size : (Tryz.prog.info? 47).map (fun i => (i.size, i.zero.isSome)) = some (4, true) := by kernel_rfl
theorem rcs_bare_snoc (l : List Rc) (k : Nat) (h : k < l.length) : rcs (bares (l.take (k + 1))) = rcs (bares (l.take k)) ++ (l[k].bare).cells := by
  rw [List.take_succ_eq_append_getElem h, bares_append, rcs_append]
  congr 1
set_option maxHeartbeats 1000000 in
/-- Records as the document has them. -/
theorem llaw_plain (a : Option Addr) (n cap : Nat) (l : List Rc) (w : World) (hn : l.length = n) (hn2 : n ≤ 2000000) (hr : Lies w w.heap.size a (rcs l)) :
    Calls Tryz.prog 17 #[.slice a n cap] w fun e w' => (∃ v, e = .returned v ∧ w'.ownsRow w.heap.size 47 4 v n (rcs (bares l))) ∧ Below w.heap.size w w' := by
  have HNL := Lib.hid hn
  have HR := Lib.hid hr
  have hnI : (n : Int) ≤ 2000000 := by omega
  have HNIL : Hid (w.ownsRow w.heap.size 47 4 (.slice none 0 0) 0 (rcs (bares (l.take 0)))) := Lib.hid (World.ownsRow_nil _ _ _ _)
  have HP4 : Hid (0 < 4) := Lib.hid (by omega)
  clear hr hn
  go_enter Tryz.func17, Tryz.ntmps17
  go_wp2
  go_loopw [3, 8] (fun v i wr => ∃ k : Nat, k ≤ n ∧ i = .int .i64 k ∧ wr.ownsRow w.heap.size 47 4 v k (rcs (bares (l.take k))) ∧ Below w.heap.size w wr) (fun _ i _ => n - (intOf i).toNat)
  case atStart => exact ⟨0, Nat.zero_le _, rfl, HNIL.out, Below.refl _ _⟩
  case round =>
    clear HNIL
    obtain ⟨k, hk, rfl, hown, hbw⟩ := hrel
    have HOWN := Lib.hid hown
    have HBW := Lib.hid hbw
    clear hown hbw
    by_cases hlt : k < n
    · have hk1 : (k : Int) < (n : Int) := by omega
      have hkl : Hid (k < l.length) := Lib.hid (by rw [HNL.out]; exact hlt)
      obtain ⟨b2, off, rfl, hbb, hc⟩ := HR.out (by rw [rcs_length, HNL.out]; omega)
      have HRG : Hid (wr.rangeAt b2 (off + k * 4) (l[k]'hkl.out).cells) := Lib.hid (rcs_at (w := wr) (fun j u hj => (HBW.out.cell (p := ⟨b2, off + j, none⟩) hbb).trans (hc j u hj)) k hkl.out)
      have HSN := Lib.hid (rcs_bare_snoc l k hkl.out)
      obtain ⟨⟨x, s, m, v⟩, hx⟩ : ∃ r, l[k]'hkl.out = r := ⟨_, rfl⟩
      rw [hx] at HRG HSN
      have HRG2 : Hid (wr.rangeAt b2 (off + k * 4) (rcv x s m v)) := HRG
      have HSN2 : Hid (rcs (bares (l.take (k + 1))) = rcs (bares (l.take k)) ++ rcv x s 0 v) := HSN
      have HL2 : Hid (2 < (rcv x s m v).length) := Lib.hid (by show 2 < 4; omega)
      have HVS : Hid (∀ l ∈ [rcv x s 0 v], l.length = 4) := Lib.hid fun l hl => by rw [List.mem_singleton.1 hl]; rfl
      have HV1 : Hid (0 < [rcv x s 0 v].length) := Lib.hid (by show 0 < 1; omega)
      have HVM : Hid ([rcv x s 0 v].length * 4 ≤ 2 ^ 24) := Lib.hid (by show 1 * 4 ≤ _; omega)
      have HBG : Big (k + 1 ≤ 1099511627776) := ⟨by omega⟩
      clear hc hx HRG HSN
      go_wp2_with (first
        | ((with_reducible refine wpLoadRK HRG2.out 36 fits_rec rfl ?_ ?_); rfl)
        | ((with_reducible refine wpAllocK (w := wr) (rcv 0 0 0 0) 36 zero_rec ?_ ?_); rfl; intro x1 r1 b1 s1; have R1 := Lib.hid r1; have BB1 := Lib.hid b1; clear r1 b1 s1)
        | ((with_reducible refine R1.out.wpStoreK 36 (rcv x s m v) fits_rec rfl rfl rfl ?_ ?_); rfl; intro x2 r2 o2 s2; have R2 := Lib.hid r2; have BB2 : Hid (Below wr.heap.size wr x2) := Lib.hid (BB1.out.trans (o2.below (Nat.le_refl _) BB1.out.size)); clear r2 o2 s2)
        | ((with_reducible refine R2.out.wpStore1K 2 3 (.int .i64 0) finfo_int HL2.out (int_cells _ _) (int_one _ _) ?_ ?_); rfl; intro x3 r3 o3 s3; have R3 : Hid (Row x3 wr.heap.size 36 (rcv x s 0 v)) := Lib.hid r3; have BB3 : Hid (Below wr.heap.size wr x3) := Lib.hid (BB2.out.trans (o3.below (Nat.le_refl _) BB2.out.size)); clear r3 o3 s3)
        | ((with_reducible refine R3.out.wpLoadK 36 fits_rec rfl ?_ ?_); rfl)
        | ((with_reducible refine wpBuildBK (w := x3) [rcv x s 0 v] 4 52 47 Tryz.underlying52 rrec_built_size HP4.out HVS.out HV1.out HVM.out ?_ ?_); rfl; intro y1 r_ b_ s_; have HL2 : Hid (Lies y1 y1.heap.size (some ⟨x3.heap.size, 0, none⟩) (rcv x s 0 v)) := Lib.hid (fun _ => ⟨_, 0, rfl, r_.lt, fun j q hj => by rw [Nat.zero_add, r_.cell]; simpa using hj⟩); have HOW2 := Lib.hid (owns_step HOWN.out (BB3.out.next b_)); have BY : Hid (Below w.heap.size w y1) := Lib.hid (HBW.out.next (BB3.out.next b_)); have HZ2 := Lib.hid BY.out.size; have HOL := Lib.hid (owns_ge HOWN.out); clear r_ b_ s_)
        | ((with_reducible refine wpAppendN 1 HOW2.out Tryz.underlying52 many_rrec HL2.out rfl HP4.out rfl HBG HZ2.out ?_ ?_); rfl; intro v1 y2 g1 g2 g3; have G1' := Lib.hid g1; have BF : Hid (Below w.heap.size w y2) := Lib.hid (BY.out.grown g2 BY.out.size HOL.out); clear g1 g2 g3))
      go_roundw
      case rel => exact ⟨k + 1, by omega, by go_num, by rw [HSN2.out]; exact G1'.out, BF.out⟩
      case measure => simp [intOf]; omega
    · have hk2 : ¬ (k : Int) < (n : Int) := by omega
      have HKE : Hid (l.take k = l ∧ k = n) := Lib.hid ⟨List.take_of_length_le (by rw [HNL.out]; omega), by omega⟩
      go_wp2
      go_ret
      have := HOWN.out
      rw [HKE.out.1, HKE.out.2] at this
      exact ⟨⟨_, rfl, this⟩, HBW.out⟩
theorem rcs_inj {l m : List Rc} (h : rcs l = rcs m) : l = m := by
  induction l generalizing m with
  | nil => cases m with
    | nil => rfl
    | cons r m => have := congrArg List.length h; rw [rcs_length, rcs_length] at this; simp at this
  | cons r l ih => cases m with
    | nil => have := congrArg List.length h; rw [rcs_length, rcs_length] at this; simp at this
    | cons q m =>
      rw [rcs_cons, rcs_cons] at h
      have h2 := List.append_inj h rfl
      obtain ⟨k, s, n, v⟩ := r
      obtain ⟨k', s', n', v'⟩ := q
      have h3 := h2.1
      simp only [Rc.cells, rcv, List.cons.injEq, Value.int.injEq, true_and, and_true] at h3
      obtain ⟨rfl, rfl, rfl, rfl⟩ := h3
      rw [ih h2.2]
theorem Rc.ext4 {r q : Rc} : (r.k = q.k ∧ r.s = q.s ∧ r.n = q.n ∧ r.v = q.v) ↔ r = q := by
  obtain ⟨k, s, n, v⟩ := r
  obtain ⟨k', s', n', v'⟩ := q
  simp
def eqB (r q : Rc) : Bool := decide (r.k = q.k ∧ r.s = q.s ∧ r.n = q.n ∧ r.v = q.v)
theorem eqB_iff (r q : Rc) : eqB r q = true ↔ r = q := by unfold eqB; rw [decide_eq_true_eq]; exact Rc.ext4
end Go.Proofs.YtbnjenbhpaknbaaGreat

/- The document's example. -/
namespace Go.Proofs.YtbnjenbhpaknbaaGreat
open Go.RowKit CrcMath NumMath FlaMath GeoMath
set_option linter.unusedVariables false
set_option maxRecDepth 100000

theorem G1_toNat : (GeoMath.log G1).toNat = 9 := by rw [G1_log]; rfl
theorem logD_L {l tb : Nat} {sh : Sh} : (⟨l, tb, sh, G1⟩ : LogD).L = 9 := G1_toNat
/-- What a fresh log's device is. -/
def DF (l : List Rc) : Dv := runD (cmpF 9 v1 l) (runD (wipeF 9 1) (D0 27))
theorem DF_lit (l : List Rc) : (DF l).lit = false := runD_lit _ _ (runD_lit _ _ rfl)
theorem DF_st (l : List Rc) (he : askE 0 l = 0) : LogSt (DF l) 9 0 1 (bares l) [] := by
  obtain ⟨_, h2, _⟩ := ask_ok he
  obtain ⟨h3, h4⟩ := first_unlit fit_D0 rfl l h2
  exact LogSt.first fit_D0 l he h3 h4
theorem DF_len (l : List Rc) : (DF l).L.length = 27 := by
  unfold DF
  rw [runE_other, runE_other]
  exact List.length_replicate
/-- Format of a blank device. -/
theorem llaw_format (B : Nat) (sh : Sh) (w : World) (h : Dvx w sh (D0 27)) (hB : ∀ k ∈ sh.S, B ≤ k) (hBw : B ≤ w.heap.size) (a : Option Addr) (n cap : Nat) (l : List Rc) (hln : l.length = n) (hn2 : n ≤ 1000000) (hl : ∀ u, Onl sh.S w u → Lies u u.heap.size a (rcs l)) (he : askE 0 l = 0) :
    Calls Tryz.prog 7 #[.pointer (some ⟨sh.b, 0, none⟩), geoV G1, .slice a n cap] w fun e w' => Onl sh.S w w' ∧
      ∃ lb tb sl, e = .returned (.tuple #[.pointer (some ⟨lb, 0, none⟩), .int .i64 0]) ∧ LogAt B w' ⟨lb, tb, sh, G1⟩ (DF l) (v1.cmp l) sl ∧ w.heap.size ≤ lb ∧ ∀ k ∈ ob sl, w.heap.size ≤ k := by
  obtain ⟨_, h2, _⟩ := ask_ok he
  obtain ⟨h3, h4⟩ := first_unlit fit_D0 rfl l h2
  have := logformat_good B sh (D0 27) G1 w h G1_right (by rw [G1_all]; show (27 : Int) ≤ ((List.replicate 27 false).length : Int); rw [List.length_replicate]; decide) hB hBw a n cap l hln hn2 hl (by rw [G1_toNat]; exact h3) (by rw [G1_toNat]; exact h4)
  rw [G1_toNat] at this
  exact this.mono fun e w' ⟨g1, _, g2⟩ => ⟨g1, g2 he⟩
theorem v1_cmp (l : List Rc) : v1.cmp l = stV 0 1 (bares l) [] := by
  unfold LV.cmp stV v1
  rw [List.append_nil, bares_bares, bares_length]
  rfl
/-- A log of our law: in memory, and on its device. -/
structure LogOn (B : Nat) (w : World) (A : LogD) (D : Dv) (a : Nat) (g : Int) (base later : List Rc) (sl : Value) : Prop where
  at' : LogAt B w A D (stV a g base later) sl
  st : LogSt D 9 a g base later
  geo : A.g = G1
  ll : D.L.length = 27
theorem LogOn.L {B : Nat} {w : World} {A : LogD} {D : Dv} {a : Nat} {g : Int} {base later : List Rc} {sl : Value} (h : LogOn B w A D a g base later sl) : A.L = 9 := by unfold LogD.L; rw [h.geo, G1_toNat]
theorem stV_app {a : Nat} {g : Int} {base later : List Rc} {r : Rc} : (stV a g base later).app r = stV a g base (later ++ [r]) := by
  unfold LV.app stV
  simp [bares, List.append_assoc, Nat.add_assoc]
/-- Append on an unlit device, where there is room. -/
theorem llaw_append {B : Nat} {w : World} {A : LogD} {D : Dv} {a : Nat} {g : Int} {base later : List Rc} {sl : Value} (h : LogOn B w A D a g base later sl) (hBw : B ≤ w.heap.size) (hl : D.lit = false) (r : Rc) (hr : r.may = true) (hn : base.length + later.length + 2 < 16) :
    Calls Tryz.prog 9 #[.pointer (some ⟨A.l, 0, none⟩), .agg r.cells.toArray] w fun e w' => e = .returned (.int .i64 0) ∧ Onl (A.S sl) w w' ∧ ∃ D' sl', LogOn B w' A D' a g base (later ++ [r]) sl' ∧ D'.lit = false ∧ ∀ k ∈ ob sl', k ∈ ob sl ∨ w.heap.size ≤ k := by
  have hz := h.st.app_unlit hl r hn
  have hLL := h.L
  have hb := h.st.blank hn
  rw [← hLL] at hz hb
  refine (log_append_go h.at' hBw r hr hn h.st.fit.dn hb (by show (bares (base ++ later)).length ≤ 1000; rw [bares_length, List.length_append]; omega)).mono ?_
  rintro e w' ⟨rfl, h1, h2, _⟩
  obtain ⟨sl', h3, h4⟩ := h2 hz
  refine ⟨congrArg (fun x => Ending.returned (.int .i64 x)) hz, h1, runD (layP A.L a (base.length + later.length + 2) (r.page (base.length + later.length + 2))) D, sl', ⟨?_, ?_, h.geo, by rw [runE_other]; exact h.ll⟩, runD_lit _ _ hl, h4⟩
  · rw [stV_app] at h3; exact h3
  · rw [hLL] at hz ⊢
    exact h.st.app r hr hn hz
/-- Open: it is as it was. -/
theorem llaw_open (B : Nat) (sh : Sh) (D : Dv) (w : World) (h : Dvx w sh D) (hll : D.L.length = 27) {a : Nat} {g : Int} {base later : List Rc} (hs : LogSt D 9 a g base later) (hB : ∀ k ∈ sh.S, B ≤ k) (hBw : B ≤ w.heap.size) :
    Calls Tryz.prog 15 #[.pointer (some ⟨sh.b, 0, none⟩), geoV G1] w fun e w' => Onl sh.S w w' ∧
      ∃ l tb sl, e = .returned (.tuple #[.pointer (some ⟨l, 0, none⟩), .int .i64 0]) ∧ LogOn B w' ⟨l, tb, sh, G1⟩ D a g base later sl ∧ w.heap.size ≤ l ∧ ∀ k ∈ ob sl, w.heap.size ≤ k := by
  have := logopen_good B sh D G1 w h hs.fit.dn G1_right (by rw [G1_all, hll]; decide) hB hBw
  rw [G1_toNat, hs.open] at this
  refine this.mono ?_
  rintro e w' ⟨h1, _, h2⟩
  obtain ⟨l, tb, sl, h3, h4, h5, h6⟩ := h2 (by show g ≠ 0; have := hs.g.1; omega)
  exact ⟨h1, l, tb, sl, h3, ⟨h4, hs, rfl, hll⟩, h5, h6⟩
end Go.Proofs.YtbnjenbhpaknbaaGreat

/- Bytes turned in one copy of each page (mathematics). -/
namespace Go.Proofs.YtbnjenbhpaknbaaGreat
open Go.RowKit CrcMath NumMath FlaMath GeoMath
set_option linter.unusedVariables false
set_option maxRecDepth 100000

theorem rotF_at' (C : List UInt8) (o : Nat) (l : List UInt8) (i : Nat) : (rotF C o l)[i]? = C[i]?.map fun c => if o ≤ i ∧ i < o + l.length then c ^^^ l.getD (i - o) 0 else c := by
  unfold rotF
  rw [List.getElem?_mapIdx]
theorem pg_rot {C : List UInt8} {o x : Nat} {b : UInt8} (h : x + 16 ≤ o ∨ o + 1 ≤ x) : pg (rotF C o [b]) x = pg C x := by
  unfold pg
  apply List.ext_getElem?
  intro i
  rw [List.getElem?_take, List.getElem?_take]
  by_cases hi : i < 16
  · rw [if_pos hi, if_pos hi, List.getElem?_drop, List.getElem?_drop, rotF_at']
    have : ¬ (o ≤ x + i ∧ x + i < o + [b].length) := by simp only [List.length_cons, List.length_nil]; omega
    simp only [if_neg this, Option.map_id']
  · rw [if_neg hi, if_neg hi]
/-- Half 0 with bytes turned: of each page only in the copy that sd names (1: the first one, 2: the second one; 0: in none). -/
structure RotSt (C0 C : List UInt8) (L : Nat) (sd : List Nat) : Prop where
  len : C.length = C0.length
  sl : sd.length = 16
  two : ∀ p, p < 16 → sd.getD p 0 ≤ 2
  keep : ∀ c i, c < 2 → i < 16 → sd.getD i 0 ≠ 1 + c → hp C L 0 c i = hp C0 L 0 c i
  other : ∀ c i, c < 2 → i < 16 → hp C L 1 c i = hp C0 L 1 c i
theorem RotSt.zero (C : List UInt8) (L : Nat) : RotSt C C L (List.replicate 16 0) :=
  ⟨rfl, List.length_replicate, fun p hp => by rw [List.getD_eq_getElem?_getD, List.getElem?_replicate, if_pos hp]; exact Nat.zero_le _, fun _ _ _ _ _ => rfl, fun _ _ _ _ => rfl⟩
theorem lr_getD_set {l : List Nat} {p i v : Nat} (hp : p < l.length) : (l.set p v).getD i 0 = if i = p then v else l.getD i 0 := by
  rw [List.getD_eq_getElem?_getD, List.getD_eq_getElem?_getD, List.getElem?_set]
  by_cases e : p = i
  · subst e
    rw [if_pos rfl, if_pos rfl, if_pos hp]
    rfl
  · rw [if_neg e, if_neg fun h => e h.symm]
theorem RotSt.step {C0 C : List UInt8} {L : Nat} {sd : List Nat} (h : RotSt C0 C L sd) {p c a : Nat} (hp : p < 16) (hc : c < 2) (ha : a < 16) (hs : sd.getD p 0 ≠ 2 - c) (b : UInt8) : RotSt C0 (rotF C ((L + c * 4) * 64 + p * 16 + a) [b]) L (sd.set p (1 + c)) := by
  have h2 := h.two p hp
  refine ⟨by rw [rotF_length]; exact h.len, by rw [List.length_set]; exact h.sl, fun q hq => ?_, fun c' i hc' hi hne => ?_, fun c' i hc' hi => ?_⟩
  · rw [lr_getD_set (by rw [h.sl]; exact hp)]
    split
    · omega
    · exact h.two q hq
  · rw [lr_getD_set (by rw [h.sl]; exact hp)] at hne
    have hold : sd.getD i 0 ≠ 1 + c' := by
      by_cases e : i = p
      · subst e
        rw [if_pos rfl] at hne
        omega
      · rw [if_neg e] at hne; exact hne
    have hcc : i ≠ p ∨ c' ≠ c := by
      by_cases e : i = p
      · subst e
        rw [if_pos rfl] at hne
        exact .inr fun e2 => hne (by rw [e2])
      · exact .inl e
    rw [← h.keep c' i hc' hi hold, hp_pg, hp_pg]
    refine pg_rot ?_
    unfold atF
    rcases hcc with e | e <;> omega
  · rw [← h.other c' i hc' hi, hp_pg, hp_pg]
    refine pg_rot ?_
    unfold atF
    omega
/-- What is read of it. -/
theorem RotSt.look {D : Dv} {C : List UInt8} {L : Nat} {sd : List Nat} {base later : List Rc} (h : LogSt D L 0 1 base later) (hr : RotSt D.C C L sd)
    (hz : ∀ p, base.length + later.length + 2 ≤ p → p < 16 → sd.getD p 0 = 0) (hn : ∀ p c, p < 16 → c < 2 → sd.getD p 0 = 1 + c → isP (hp C L 0 c p) = false) :
    ∃ cl, lookF C L 0 = ⟨0, 1, bares (base ++ later), base.length + later.length + 2, cl⟩ := by
  obtain ⟨l, hl⟩ : ∃ l, allR 1 base later = l := ⟨_, rfl⟩
  have hlen : l.length = base.length + later.length + 2 := by rw [← hl, allR_length]
  have hf : ∀ r ∈ l, r.fine = true := by rw [← hl]; exact allR_fine h.g h.hb h.hm
  have hH : HalfIs D.C L 0 l := by rw [← hl]; exact h.half
  have hfew := h.few
  obtain ⟨h3, h4⟩ := split_allR (g := 1) (later := later) h.hb
  rw [hl] at h3 h4
  have hun : ∀ c i, c < 2 → (hi : i < l.length) → sd.getD i 0 ≠ 1 + c → hp C L 0 c i = (l[i]).page i := fun c i hc hi hne => by
    rw [hr.keep c i hc (by omega) hne, hH c i hc (by omega), dif_pos hi]
  have hbl : ∀ c i, c < 2 → i < 16 → l.length ≤ i → hp C L 0 c i = ff := fun c i hc hi hle => by
    rw [hr.keep c i hc hi (by rw [hz i (by omega) hi]; omega), hH c i hc hi, dif_neg (by omega)]
  have hone : ∀ i (hi : i < l.length), (isN i (hp C L 0 0 i) = true ∧ hp C L 0 0 i = (l[i]).page i) ∨ (isN i (hp C L 0 0 i) = false ∧ hp C L 0 1 i = (l[i]).page i) := fun i hi => by
    by_cases e : sd.getD i 0 = 1
    · right
      refine ⟨?_, hun 1 i (by omega) hi (by omega)⟩
      unfold isN
      rw [hn i 0 (by omega) (by omega) e]
      rfl
    · left
      have := hun 0 i (by omega) hi (by omega)
      exact ⟨by rw [this]; exact isN_page (hf _ (List.getElem_mem hi)) (by omega), this⟩
  have hN : runN (hp C L 0 0) (hp C L 0 1) = l.length := by
    refine lenF_is (by omega) (fun i hi => ?_) (fun hk => ?_)
    · unfold hold
      rcases hone i hi with ⟨g1, g2⟩ | ⟨g1, g2⟩
      · rw [g1]; rfl
      · rw [g1, g2, isN_page (hf _ (List.getElem_mem hi)) (by omega)]; rfl
    · unfold hold
      rw [hbl 0 _ (by omega) hk (Nat.le_refl _), hbl 1 _ (by omega) hk (Nat.le_refl _), isN_ff]
      rfl
  have hR : runF (hp C L 0 0) (hp C L 0 1) = lnumR l := by
    unfold runF
    rw [hN]
    apply List.ext_getElem (by rw [recsF_length, lnumR_length])
    intro i h1 h2
    have hi : i < l.length := by rw [recsF_length] at h1; exact h1
    have hff := hf _ (List.getElem_mem hi)
    rw [recsF_get _ _ _ _ hi, lnumR_get _ _ hi]
    unfold holdR
    rcases hone i hi with ⟨g1, g2⟩ | ⟨g1, g2⟩
    · rw [if_pos g1, g2, rd_page hff (by omega)]
    · rw [if_neg (by rw [g1]; decide), g2, if_pos (isN_page hff (by omega)), rd_page hff (by omega)]
  refine ⟨cleanF (hp C L 0 0) (hp C L 0 1) (runN (hp C L 0 0) (hp C L 0 1)), ?_⟩
  show halfF (hp C L 0 0) (hp C L 0 1) 0 = _
  unfold halfF
  rw [hR, h3, h4, hN, hlen]
theorem RotSt.open {D : Dv} {C : List UInt8} {L : Nat} {sd : List Nat} {base later : List Rc} (h : LogSt D L 0 1 base later) (hr : RotSt D.C C L sd)
    (hz : ∀ p, base.length + later.length + 2 ≤ p → p < 16 → sd.getD p 0 = 0) (hn : ∀ p c, p < 16 → c < 2 → sd.getD p 0 = 1 + c → isP (hp C L 0 c p) = false) :
    ∃ cl, openF C L = ⟨0, 1, bares (base ++ later), base.length + later.length + 2, cl⟩ := by
  obtain ⟨cl, hl⟩ := hr.look h hz hn
  refine ⟨cl, ?_⟩
  have ho := h.other
  rw [show 1 - 0 = 1 from rfl, ← lookF_same (C := D.C) (C' := C) hr.other] at ho
  have hg2 : (lookF C L 0).gen = 1 := by rw [hl]
  unfold openF betterF
  rw [if_pos (show v0.gen < (lookF C L 0).gen by rw [hg2]; show (0 : Int) < 1; omega), if_neg (by omega), hl]
end Go.Proofs.YtbnjenbhpaknbaaGreat

/- The document's example, walked. -/
namespace Go.Proofs.YtbnjenbhpaknbaaGreat
open Go.RowKit CrcMath NumMath FlaMath GeoMath
set_option linter.unusedVariables false
set_option maxRecDepth 100000

section
variable {P : Program}
/-- A guarded load by value of what lies at an address. -/
theorem wpLoadRG {ops : Array Oper} {rest : List Oper} {o : Oper} {a : Act} {w : World} {Q : Exit → Act → World → Prop} {g i : Nat} {y : List Value} (h : w.rangeAt g i y) (ty : TypeId) {n : Nat} (hf : Fits P ty n) (hl : y.length = n)
    (ho : loadG ops o a = some (ty, .pointer (some ⟨g, i, none⟩))) (k : wpList P ops Q rest (a.put o.dst (.agg y.toArray)) w) : wpList P ops Q (o :: rest) a w := by
  unfold loadG at ho
  split at ho
  · rename_i hw
    split at ho
    · rename_i ty' x hop
      simp only [Option.some.injEq, Prod.mk.injEq] at ho
      obtain ⟨rfl, hx⟩ := ho
      obtain ⟨d, hu, hd⟩ := hf.row
      refine wpList_step fun K hK => ?_
      rw [if_pos hw]
      exact wp_load_mid ty' x hop g i hx y d h hu hd (by simpa [hl] using hf.size) (hK _ _ k)
    · cases ho
  · cases ho
end
def e1 : Rc := ⟨1, 0, 0, 0⟩
set_option maxHeartbeats 2000000 in
theorem log_awake_any (w : World) : Calls Tryz.prog 4 #[] w fun e w' => e = .returned (.bool true) ∧ Below w.heap.size w w' := by
  have HG : Hid (∀ u, Calls Tryz.prog 8 #[] u fun e w' => e = .returned (geoV G1) ∧ Below u.heap.size u w') := Lib.hid llaw_geo
  have HB := Lib.hid (llaw_blank w)
  have HF : Hid (∀ (u : World) (s : Sh), Dvx u s (D0 27) → (∀ k ∈ s.S, w.heap.size ≤ k) → w.heap.size ≤ u.heap.size → Calls Tryz.prog 7 #[.pointer (some ⟨s.b, 0, none⟩), geoV G1, .slice none 0 0] u fun e w' => Onl s.S u w' ∧ ∃ lb tb sl, e = .returned (.tuple #[.pointer (some ⟨lb, 0, none⟩), .int .i64 0]) ∧ LogOn w.heap.size w' ⟨lb, tb, s, G1⟩ (DF []) 0 1 [] [] sl ∧ w.heap.size ≤ lb ∧ ∀ k ∈ ob sl, w.heap.size ≤ k) := Lib.hid fun u s h1 h2 h3 => by
    refine (llaw_format w.heap.size s u h1 h2 h3 none 0 0 [] rfl (by omega) (fun u _ => Lies.nil _ _ _) rfl).mono ?_
    rintro e w' ⟨g1, lb, tb, sl, g2, g3, g4, g5⟩
    refine ⟨g1, lb, tb, sl, g2, ⟨?_, DF_st [] rfl, rfl, DF_len []⟩, Nat.le_trans h3 g4, fun k hk => Nat.le_trans h3 (g5 k hk)⟩
    rw [v1_cmp] at g3
    exact g3
  have HA : Hid (∀ (u : World) (A : LogD) (sl : Value), LogOn w.heap.size u A (DF []) 0 1 [] [] sl → w.heap.size ≤ u.heap.size → Calls Tryz.prog 9 #[.pointer (some ⟨A.l, 0, none⟩), .agg #[.int .i64 1, .int .i64 0, .int .i64 0, .int .i64 0]] u fun e w' => e = .returned (.int .i64 0) ∧ Onl (A.S sl) u w' ∧ ∃ D' sl', LogOn w.heap.size w' A D' 0 1 [] [e1] sl' ∧ D'.lit = false) := Lib.hid fun u A sl h1 h2 =>
    (llaw_append h1 h2 (DF_lit []) e1 (by decide) (by decide)).mono fun e w' ⟨g1, g2, D', sl', g3, g4, _⟩ => ⟨g1, g2, D', sl', g3, g4⟩
  have HO : Hid (∀ (u : World) (s : Sh) (D : Dv), Dvx u s D → D.L.length = 27 → LogSt D 9 0 1 [] [e1] → (∀ k ∈ s.S, w.heap.size ≤ k) → w.heap.size ≤ u.heap.size → Calls Tryz.prog 15 #[.pointer (some ⟨s.b, 0, none⟩), geoV G1] u fun e w' => Onl s.S u w' ∧ ∃ l tb sl, e = .returned (.tuple #[.pointer (some ⟨l, 0, none⟩), .int .i64 0]) ∧ LogOn w.heap.size w' ⟨l, tb, s, G1⟩ D 0 1 [] [e1] sl) := Lib.hid fun u s D h1 h2 h3 h4 h5 =>
    (llaw_open w.heap.size s D u h1 h2 h3 h4 h5).mono fun e w' ⟨g1, l, tb, sl, g2, g3, _, _⟩ => ⟨g1, l, tb, sl, g2, g3⟩
  have HC : Hid (∀ (u : World) (A : LogD) (D : Dv) (sl : Value), LogOn w.heap.size u A D 0 1 [] [e1] sl → Calls Tryz.prog 19 #[.pointer (some ⟨A.l, 0, none⟩)] u fun e w' => e = .returned (.bool true) ∧ u = w') := Lib.hid fun u A D sl h => log_clean_any h.at'
  have HL : Hid (∀ (u : World) (A : LogD) (D : Dv) (sl : Value), LogOn w.heap.size u A D 0 1 [] [e1] sl → Calls Tryz.prog 12 #[.pointer (some ⟨A.l, 0, none⟩)] u fun e w' => (∃ b c, e = .returned (.slice (some ⟨b, 0, none⟩) 1 c) ∧ w'.rangeAt b 0 (rcv 1 0 0 0) ∧ w'.cell? ⟨b, 0, none⟩ = some (.int .i64 1)) ∧ Below u.heap.size u w') := Lib.hid fun u A D sl h => by
    refine (log_all_any h.at' (by show 1 ≤ 1000; omega)).mono ?_
    rintro e w' ⟨⟨v, rfl, g1⟩, g2⟩
    have g1' : w'.ownsRow u.heap.size 36 4 v 1 (rcs [e1]) := g1
    rcases g1'.2 with ⟨_, h0⟩ | ⟨g, cap, cur, rfl, h1, h2, _⟩
    · cases h0
    · obtain ⟨a9, c9, h9, hl9⟩ := own_formM g1'
      cases h9
      obtain ⟨b, off, e9, hb, hc⟩ := hl9 (by show 0 < 4; omega)
      cases e9
      refine ⟨⟨g, cap, rfl, fun j x hj => hc j x (by rw [rcs_one]; exact hj), ?_⟩, g2⟩
      have := hc 0 (.int .i64 1) rfl
      simpa using this
  have HEQ : ∀ u : World, (Op.equalIn 10000 36 (.agg (rcv 1 0 0 0).toArray) (.agg #[.int .i64 1, .int .i64 0, .int .i64 0, .int .i64 0])).run Tryz.prog u = .ok true u := fun u => eq_rec_any 1 0 0 0 1 0 0 0 true (by decide) u
  generalize geoV G1 = GV at *
  generalize DF [] = D3 at *
  go_enter Tryz.func4, Tryz.ntmps4
  go_wp2_with (first
    | (go_at_call 6; (with_reducible refine HB.out.mono ?_); rintro e u1 ⟨s, rfl, hd, hs, b1⟩; have D1 := Lib.hid hd; have HS := Lib.hid hs; have B1 := Lib.hid b1; clear hd hs b1)
    | (go_at_call 8; (with_reducible refine (HG.out u1).mono ?_); rintro e u2 ⟨rfl, b2⟩; have D2 := Lib.hid (D1.out.step b2); have B2 := Lib.hid (B1.out.next b2); clear b2)
    | (go_at_call 7; (with_reducible refine (HF.out u2 s D2.out HS.out B2.out.size).mono ?_); rintro e u3 ⟨o3, lb, tb, sl, rfl, l3, hlb, hob⟩; have L3 := Lib.hid l3; have B3 : Hid (Below w.heap.size w u3) := Lib.hid (B2.out.trans (o3.below HS.out B2.out.size)); clear o3 l3 hlb hob)
    | (go_at_call 9; (with_reducible refine (HA.out u3 _ _ L3.out B3.out.size).mono ?_); rintro e u4 ⟨rfl, o4, DD, sl4, l4, hl4⟩; have L4 := Lib.hid l4; have B4 : Hid (Below w.heap.size w u4) := Lib.hid (B3.out.trans (o4.below L3.out.at'.sB B3.out.size)); clear o4 l4 hl4)
    | (go_at_call 8; (with_reducible refine (HG.out u4).mono ?_); rintro e u5 ⟨rfl, b5⟩; have D5 := Lib.hid (L4.out.at'.dev.step b5); have B5 := Lib.hid (B4.out.next b5); clear b5)
    | (go_at_call 15; (with_reducible refine (HO.out u5 s DD D5.out L4.out.ll L4.out.st HS.out B5.out.size).mono ?_); rintro e u6 ⟨o6, l6, tb6, sl6, rfl, lo6⟩; have L6 := Lib.hid lo6; have B6 : Hid (Below w.heap.size w u6) := Lib.hid (B5.out.trans (o6.below HS.out B5.out.size)); clear o6 lo6)
    | (go_at_call 19; (with_reducible refine (HC.out u6 _ _ _ L6.out).mono ?_); rintro e _ ⟨rfl, rfl⟩)
    | (go_at_call 12; (with_reducible refine (HL.out u6 _ _ _ L6.out).mono ?_); rintro e u7 ⟨⟨b7, c7, rfl, r7, k7⟩, bb7⟩; have L7 : Hid (LogOn w.heap.size u7 _ _ _ _ _ _ _) := Lib.hid ⟨L6.out.at'.step bb7, L6.out.st, L6.out.geo, L6.out.ll⟩; have B7 := Lib.hid (B6.out.next bb7); clear r7 k7 bb7)
    | (go_at_call 12; (with_reducible refine (HL.out u7 _ _ _ L7.out).mono ?_); rintro e u8 ⟨⟨b8, c8, rfl, r8, k8⟩, bb8⟩; have R8 := Lib.hid r8; have B8 := Lib.hid (B7.out.next bb8); clear r8 bb8)
    | ((with_reducible refine wpLoadRG R8.out 36 fits_rec rfl ?_ ?_); rfl))
  go_ret
  exact ⟨rfl, B8.out⟩
end Go.Proofs.YtbnjenbhpaknbaaGreat

/- The law's 'wrong', and lists that are alike. -/
namespace Go.Proofs.YtbnjenbhpaknbaaGreat
open Go.RowKit CrcMath NumMath FlaMath GeoMath
set_option linter.unusedVariables false
set_option maxRecDepth 100000

theorem Rc.may_iff (x s m v : Int) : (⟨x, s, m, v⟩ : Rc).may = (rOk x s 0 v && !decide (125 < x)) := by
  show (rOk x s 0 v && decide (x < 126)) = _
  congr 1
  by_cases h : x < 126
  · rw [decide_eq_true h, decide_eq_false (by omega)]; rfl
  · rw [decide_eq_false h, decide_eq_true (by omega)]; rfl
theorem bares_get {l : List Rc} {k : Nat} (h : k < l.length) (h2 : k < (bares l).length) : (bares l)[k] = l[k].bare := by unfold bares; exact List.getElem_map _
theorem askE_bad {l : List Rc} {k : Nat} (h : k < l.length) (hm : l[k].may = false) : askE 0 l = 1 := by
  unfold askE
  rw [if_neg]
  intro ha
  have := List.all_eq_true.1 ha l[k] (List.getElem_mem h)
  rw [hm] at this
  cases this
theorem askE_good {l : List Rc} (h : ∀ j (hj : j < l.length), l[j].may = true) : askE 0 l = if 12 < l.length then 9 else 0 := by
  unfold askE
  rw [if_pos]
  · by_cases h12 : 12 < l.length
    · rw [if_pos (.inl h12), if_pos h12]
    · rw [if_neg (by intro h; rcases h with h | h; exact h12 h; exact absurd h (by decide)), if_neg h12]
  · rw [List.all_eq_true]
    intro x hx
    obtain ⟨j, hj, rfl⟩ := List.mem_iff_getElem.1 hx
    exact h j hj
set_option maxHeartbeats 2000000 in
theorem llaw_wrong (a : Option Addr) (n cap : Nat) (l : List Rc) (w : World) (hn : l.length = n) (hn2 : n ≤ 2000000) (hr : Lies w w.heap.size a (rcs l)) :
    Calls Tryz.prog 5 #[.slice a n cap] w fun e w' => e = .returned (.int .i64 (askE 0 l)) ∧ Below w.heap.size w w' := by
  have HP := Lib.hid (llaw_plain a n cap l w hn hn2 hr)
  have HRR : Hid (∀ (k s n v : Int) (u : World), Calls Tryz.prog 20 #[.agg (rcv k s n v).toArray] u fun e w' => e = .returned (.bool (rOk k s n v)) ∧ Below u.heap.size u w') := Lib.hid rref_right_any
  have HNL := Lib.hid hn
  have hnI : (n : Int) ≤ 2000000 := by omega
  have HA0 : Hid (∀ k (h : k < l.length), l[k].may = false → askE 0 l = 1) := Lib.hid fun k h hm => askE_bad h hm
  have HA1 : Hid ((∀ j (hj : j < l.length), l[j].may = true) → askE 0 l = if 12 < n then 9 else 0) := Lib.hid fun h => by rw [← hn]; exact askE_good h
  generalize askE 0 l = E at *
  clear hr hn
  go_enter Tryz.func5, Tryz.ntmps5
  go_wp2_with (go_at_call 17; (with_reducible refine HP.out.mono ?_); rintro e u1 ⟨⟨pv, rfl, hown⟩, b1⟩; obtain ⟨pa, cp, rfl, hLs⟩ := own_formM hown; have HLS := Lib.hid hLs; have B1 := Lib.hid b1; clear hown b1 hLs)
  go_loopw [8] (fun i wr => ∃ k : Nat, k ≤ n ∧ i = .int .i64 k ∧ (∀ j (h : j < l.length), j < k → l[j].may = true) ∧ Below u1.heap.size u1 wr) (fun i _ => n - (intOf i).toNat)
  case atStart => exact ⟨0, Nat.zero_le _, rfl, fun j _ h => absurd h (Nat.not_lt_zero _), Below.refl _ _⟩
  case round =>
    obtain ⟨k, hk, rfl, hall, hbw⟩ := hrel
    have HALL := Lib.hid hall
    have HBW := Lib.hid hbw
    clear hall hbw
    by_cases hlt : k < n
    · have hk1 : (k : Int) < (n : Int) := by omega
      have hkl : Hid (k < l.length) := Lib.hid (by rw [HNL.out]; exact hlt)
      have hkb : Hid (k < (bares l).length) := Lib.hid (by rw [bares_length]; exact hkl.out)
      obtain ⟨b2, off, rfl, hbb, hc⟩ := HLS.out (by rw [rcs_length, bares_length, HNL.out]; omega)
      have HRG : Hid (wr.rangeAt b2 (off + k * 4) ((bares l)[k]'hkb.out).cells) := Lib.hid (rcs_at (w := wr) (fun j u hj => (HBW.out.cell (p := ⟨b2, off + j, none⟩) hbb).trans (hc j u hj)) k hkb.out)
      have HMB : Hid ((l[k]'hkl.out).may = false → E = 1) := Lib.hid (HA0.out k hkl.out)
      have HMG : Hid ((l[k]'hkl.out).may = true → ∀ j (h : j < l.length), j < k + 1 → l[j].may = true) := Lib.hid fun hm j h hj => by
        by_cases hjk : j = k
        · subst hjk; exact hm
        · exact HALL.out j h (by omega)
      have HG2 : Hid ((bares l)[k]'hkb.out = (l[k]'hkl.out).bare) := Lib.hid (bares_get hkl.out hkb.out)
      obtain ⟨⟨x, s, m, v⟩, hx⟩ : ∃ r, l[k]'hkl.out = r := ⟨_, rfl⟩
      rw [HG2.out, hx] at HRG
      rw [hx] at HMB HMG
      have HRG2 : Hid (wr.rangeAt b2 (off + k * 4) (rcv x s 0 v)) := HRG
      rw [Rc.may_iff] at HMB HMG
      have HRx := Lib.hid (HRR.out x s 0 v)
      clear hc hx HRG HG2 HRR HA0 HA1 HALL
      generalize rOk x s 0 v = ok at *
      cases ok with
      | false =>
        obtain rfl := HMB.out rfl
        clear HMB HMG
        go_wp2_with (first
          | ((with_reducible refine wpLoadRK HRG2.out 47 fits_rrec rfl ?_ ?_); rfl)
          | ((with_reducible refine wpAllocK (w := wr) (rcv 0 0 0 0) 47 zero_rrec ?_ ?_); rfl; intro x1 r1 b1 s1; have R1 := Lib.hid r1; have BB1 := Lib.hid b1; clear r1 b1 s1)
          | ((with_reducible refine R1.out.wpStoreK 47 (rcv x s 0 v) fits_rrec rfl rfl rfl ?_ ?_); rfl; intro x2 r2 o2 s2; have R2 := Lib.hid r2; have BB2 : Hid (Below wr.heap.size wr x2) := Lib.hid (BB1.out.trans (o2.below (Nat.le_refl _) BB1.out.size)); clear r2 o2 s2)
          | ((with_reducible refine R2.out.wpLoadK 47 fits_rrec rfl ?_ ?_); rfl)
          | (go_at_call 20; (with_reducible refine (HRx.out x2).mono ?_); rintro e x3 ⟨rfl, b3⟩; have BB3 := Lib.hid (BB2.out.next b3); clear b3))
        go_ret
        exact ⟨rfl, B1.out.next (HBW.out.next BB3.out)⟩
      | true =>
        by_cases h125 : 125 < x
        · have hxd : decide (125 < x) = true := decide_eq_true h125
          obtain rfl := HMB.out (by rw [hxd]; rfl)
          clear HMB HMG
          go_wp2_with (first
            | ((with_reducible refine wpLoadRK HRG2.out 47 fits_rrec rfl ?_ ?_); rfl)
            | ((with_reducible refine wpAllocK (w := wr) (rcv 0 0 0 0) 47 zero_rrec ?_ ?_); rfl; intro x1 r1 b1 s1; have R1 := Lib.hid r1; have BB1 := Lib.hid b1; clear r1 b1 s1)
            | ((with_reducible refine R1.out.wpStoreK 47 (rcv x s 0 v) fits_rrec rfl rfl rfl ?_ ?_); rfl; intro x2 r2 o2 s2; have R2 := Lib.hid r2; have BB2 : Hid (Below wr.heap.size wr x2) := Lib.hid (BB1.out.trans (o2.below (Nat.le_refl _) BB1.out.size)); clear r2 o2 s2)
            | ((with_reducible refine R2.out.wpLoadK 47 fits_rrec rfl ?_ ?_); rfl)
            | (go_at_call 20; (with_reducible refine (HRx.out x2).mono ?_); rintro e x3 ⟨rfl, b3⟩; have BB3 := Lib.hid (BB2.out.next b3); have R3 := Lib.hid (R2.out.step b3); have c0 : x3.cell? ⟨wr.heap.size, 0, none⟩ = some (.int .i64 x) := (R3.out.cell 0).trans rfl; clear b3))
          go_ret
          exact ⟨rfl, B1.out.next (HBW.out.next BB3.out)⟩
        · have hxd : decide (125 < x) = false := decide_eq_false h125
          have hxp : (125 < x) = False := eq_false h125
          have HALL2 := Lib.hid (HMG.out (by rw [hxd]; rfl))
          clear HMB HMG
          go_wp2_with (first
            | ((with_reducible refine wpLoadRK HRG2.out 47 fits_rrec rfl ?_ ?_); rfl)
            | ((with_reducible refine wpAllocK (w := wr) (rcv 0 0 0 0) 47 zero_rrec ?_ ?_); rfl; intro x1 r1 b1 s1; have R1 := Lib.hid r1; have BB1 := Lib.hid b1; clear r1 b1 s1)
            | ((with_reducible refine R1.out.wpStoreK 47 (rcv x s 0 v) fits_rrec rfl rfl rfl ?_ ?_); rfl; intro x2 r2 o2 s2; have R2 := Lib.hid r2; have BB2 : Hid (Below wr.heap.size wr x2) := Lib.hid (BB1.out.trans (o2.below (Nat.le_refl _) BB1.out.size)); clear r2 o2 s2)
            | ((with_reducible refine R2.out.wpLoadK 47 fits_rrec rfl ?_ ?_); rfl)
            | (go_at_call 20; (with_reducible refine (HRx.out x2).mono ?_); rintro e x3 ⟨rfl, b3⟩; have BB3 := Lib.hid (BB2.out.next b3); have R3 := Lib.hid (R2.out.step b3); have c0 : x3.cell? ⟨wr.heap.size, 0, none⟩ = some (.int .i64 x) := (R3.out.cell 0).trans rfl; clear b3))
          go_roundw
          case rel => exact ⟨k + 1, by omega, by go_num, HALL2.out, HBW.out.next BB3.out⟩
          case measure => simp [intOf]; omega
    · have HE : Hid (E = if 12 < n then 9 else 0) := Lib.hid (HA1.out fun j hj => HALL.out j hj (by have := HNL.out; omega))
      have hk2 : ¬ (k : Int) < (n : Int) := by omega
      clear HA0 HA1 HALL HRR
      by_cases h12 : 12 < n
      · have h12I : (12 : Int) < (n : Int) := by omega
        obtain rfl : E = 9 := by rw [HE.out, if_pos h12]
        clear HE
        go_wp2
        go_ret
        exact ⟨rfl, B1.out.next HBW.out⟩
      · have h12I : ¬ (12 : Int) < (n : Int) := by omega
        obtain rfl : E = 0 := by rw [HE.out, if_neg h12]
        clear HE
        go_wp2
        go_ret
        exact ⟨rfl, B1.out.next HBW.out⟩
end Go.Proofs.YtbnjenbhpaknbaaGreat

/- Lists that are alike. -/
namespace Go.Proofs.YtbnjenbhpaknbaaGreat
open Go.RowKit CrcMath NumMath FlaMath GeoMath
set_option linter.unusedVariables false
set_option maxRecDepth 100000

instance : DecidableEq Rc := fun a b => decidable_of_iff (a.k = b.k ∧ a.s = b.s ∧ a.n = b.n ∧ a.v = b.v) Rc.ext4
theorem cells4 {w : World} {b o x s n v : Int} {bl k : Nat} (h : w.rangeAt bl k (rcv x s n v)) : w.cell? ⟨bl, k, none⟩ = some (.int .i64 x) ∧ w.cell? ⟨bl, k + 1, none⟩ = some (.int .i64 s) ∧ w.cell? ⟨bl, k + 2, none⟩ = some (.int .i64 n) ∧ w.cell? ⟨bl, k + 3, none⟩ = some (.int .i64 v) :=
  ⟨h 0 _ rfl, h 1 _ rfl, h 2 _ rfl, h 3 _ rfl⟩
set_option maxHeartbeats 2000000 in
theorem llaw_same (a b : Option Addr) (n cn m cm : Nat) (l q : List Rc) (w : World) (hn : l.length = n) (hn2 : n ≤ 1000000) (hm : q.length = m) (hm2 : m ≤ 1000000) (hl : Lies w w.heap.size a (rcs l)) (hq : Lies w w.heap.size b (rcs q)) :
    Calls Tryz.prog 16 #[.slice a n cn, .slice b m cm] w fun e w' => e = .returned (.bool (decide (l = q))) ∧ Below w.heap.size w w' := by
  have hnI : (n : Int) ≤ 1000000 := by omega
  have hmI : (m : Int) ≤ 1000000 := by omega
  have HNL := Lib.hid hn
  have HML := Lib.hid hm
  have HL := Lib.hid hl
  have HQ := Lib.hid hq
  clear hl hq hn hm
  by_cases hnm : n = m
  · subst hnm
    go_enter Tryz.func16, Tryz.ntmps16
    go_wp2
    go_loopw [5] (fun i wr => ∃ k : Nat, k ≤ n ∧ i = .int .i64 k ∧ l.take k = q.take k ∧ Below w.heap.size w wr) (fun i _ => n - (intOf i).toNat)
    case atStart => exact ⟨0, Nat.zero_le _, rfl, rfl, Below.refl _ _⟩
    case round =>
      obtain ⟨k, hk, rfl, htk, hbw⟩ := hrel
      have HTK := Lib.hid htk
      have HBW := Lib.hid hbw
      clear htk hbw
      by_cases hlt : k < n
      · have hk1 : (k : Int) < (n : Int) := by omega
        have hkl : Hid (k < l.length) := Lib.hid (by rw [HNL.out]; exact hlt)
        have hkq : Hid (k < q.length) := Lib.hid (by rw [HML.out]; exact hlt)
        obtain ⟨b2, off, rfl, hbb, hc⟩ := HL.out (by rw [rcs_length, HNL.out]; omega)
        obtain ⟨b3, of3, rfl, hb3, hd⟩ := HQ.out (by rw [rcs_length, HML.out]; omega)
        have hR1 : wr.rangeAt b2 (off + k * 4) (l[k]'hkl.out).cells := rcs_at (w := wr) (fun j u hj => (HBW.out.cell (p := ⟨b2, off + j, none⟩) hbb).trans (hc j u hj)) k hkl.out
        have hR2 : wr.rangeAt b3 (of3 + k * 4) (q[k]'hkq.out).cells := rcs_at (w := wr) (fun j u hj => (HBW.out.cell (p := ⟨b3, of3 + j, none⟩) hb3).trans (hd j u hj)) k hkq.out
        have HT := Lib.hid (List.take_succ_eq_append_getElem hkl.out)
        have HT2 := Lib.hid (List.take_succ_eq_append_getElem hkq.out)
        have HNE : Hid (l[k]'hkl.out ≠ q[k]'hkq.out → l ≠ q) := Lib.hid fun h he => by subst he; exact h rfl
        obtain ⟨⟨x, s, m, v⟩, hx⟩ : ∃ r, l[k]'hkl.out = r := ⟨_, rfl⟩
        obtain ⟨⟨x', s', m', v'⟩, hx'⟩ : ∃ r, q[k]'hkq.out = r := ⟨_, rfl⟩
        rw [hx] at hR1 HT HNE
        rw [hx'] at hR2 HT2 HNE
        obtain ⟨a0, a1, a2, a3⟩ := cells4 (b := 0) (o := 0) hR1
        obtain ⟨d0, d1, d2, d3⟩ := cells4 (b := 0) (o := 0) hR2
        clear hc hd hR1 hR2 hx hx'
        obtain ⟨r, hr⟩ : ∃ r, decide (x = x' ∧ s = s' ∧ m = m' ∧ v = v') = r := ⟨_, rfl⟩
        have HEQ : ∀ u, (Op.equalIn 10000 47 (.agg #[.int .i64 x, .int .i64 s, .int .i64 m, .int .i64 v]) (.agg #[.int .i64 x', .int .i64 s', .int .i64 m', .int .i64 v'])).run Tryz.prog u = .ok r u := fun u => eq_rrec_any x s m v x' s' m' v' r hr u
        have HR := Lib.hid hr
        clear hr
        cases r with
        | true =>
          go_wp2
          go_quiet (fail)
          go_wp2
          go_roundw
          case rel =>
            obtain ⟨rfl, rfl, rfl, rfl⟩ := of_decide_eq_true HR.out
            exact ⟨k + 1, by omega, by go_num, by rw [HT.out, HT2.out, HTK.out], HBW.out.drewN nq⟩
          case measure => simp [intOf]; omega
        | false =>
          have HD : Hid (l ≠ q) := Lib.hid (HNE.out fun h => by
            have := of_decide_eq_false HR.out
            injection h with h1 h2 h3 h4
            exact this ⟨h1, h2, h3, h4⟩)
          clear HNE
          go_wp2
          go_quiet (fail)
          go_wp2
          go_ret
          exact ⟨ret_bool (decide_eq_false HD.out).symm, HBW.out.drewN nq⟩
      · have hk2 : ¬ (k : Int) < (n : Int) := by omega
        have HE : Hid (l = q) := Lib.hid <| by
          have h1 := HTK.out
          rwa [List.take_of_length_le (by have := HNL.out; omega), List.take_of_length_le (by have := HML.out; omega)] at h1
        go_wp2
        go_ret
        exact ⟨ret_bool (decide_eq_true HE.out).symm, HBW.out⟩
  · have hb : ((n : Int) != (m : Int)) = true := by rw [bne_iff_ne]; omega
    have HE : Hid (l ≠ q) := Lib.hid fun h => hnm (by rw [← HNL.out, ← HML.out, h])
    go_enter Tryz.func16, Tryz.ntmps16
    go_wp2
    go_ret
    exact ⟨ret_bool (decide_eq_false HE.out).symm, Below.refl _ _⟩
end Go.Proofs.YtbnjenbhpaknbaaGreat

/- What LogOrder asks of a log. -/
namespace Go.Proofs.YtbnjenbhpaknbaaGreat
open Go.RowKit CrcMath NumMath FlaMath GeoMath
set_option linter.unusedVariables false
set_option maxRecDepth 100000

theorem askE_one (r : Rc) : askE 0 [r] = if r.may = true then 0 else 1 := by
  unfold askE
  cases h : r.may <;> simp [h]
theorem askE_nil {g : Int} (hg : g < 281474976710655) : askE g [] = 0 := by
  unfold askE
  rw [if_pos (by rfl), if_neg]
  intro h
  rcases h with h | h
  · exact absurd h (by decide)
  · omega
theorem bares3 (base later : List Rc) : bares (bares (bares base ++ later)) = bares (base ++ later) := by
  rw [bares_bares, bares_append, bares_append, bares_bares]
section
variable {B : Nat} {w w' : World} {A : LogD} {D : Dv} {a : Nat} {g : Int} {base later : List Rc} {sl : Value}
theorem LogOn.step (h : LogOn B w A D a g base later sl) (hb : Below w.heap.size w w') : LogOn B w' A D a g base later sl := ⟨h.at'.step hb, h.st, h.geo, h.ll⟩
theorem LogOn.off {S : List Nat} (h : LogOn B w A D a g base later sl) (ho : Onl S w w') (hs : ∀ k ∈ A.S sl, k ∉ S) (ht : A.tb ∉ S) : LogOn B w' A D a g base later sl := ⟨h.at'.off ho hs ht, h.st, h.geo, h.ll⟩
theorem LogOn.few (h : LogOn B w A D a g base later sl) : base.length + later.length + 2 ≤ 16 := h.at'.nx
/-- A list of the law's own lies beside the log. -/
theorem LogOn.sep {v : Value} {C s n : Nat} {xs : List Value} (h : LogOn B w A D a g base later sl) (ho : w.ownsRow C 47 s v n xs) (htb : A.tb < C) : (∀ k ∈ ob v, k ∉ A.S sl) ∧ A.tb ∉ ob v := by
  refine ⟨fun k hk hm => ?_, fun hm => ?_⟩
  · obtain ⟨l, hl⟩ := owns_row ho hk
    simp only [LogD.S, List.mem_cons, List.mem_append] at hm
    rcases hm with rfl | hm | hm
    · exact row_ne hl h.at'.row (by decide) rfl
    · obtain ⟨l2, hl2⟩ := owns_row h.at'.own hm
      exact row_ne hl hl2 (by decide) rfl
    · exact hl.offD h.at'.dev (by decide) (by decide) (by decide) (by decide) hm
  · have := owns_ge ho A.tb (mem_ob.1 hm)
    omega
theorem llaw_room (h : LogOn B w A D a g base later sl) : Calls Tryz.prog 29 #[.pointer (some ⟨A.l, 0, none⟩)] w fun e w' => e = .returned (.int .i64 (16 - ((base.length + later.length + 2 : Nat) : Int))) ∧ w = w' := log_room_any h.at'
theorem llaw_append_bad (h : LogOn B w A D a g base later sl) (r : Rc) (hr : r.may = false) : Calls Tryz.prog 9 #[.pointer (some ⟨A.l, 0, none⟩), .agg r.cells.toArray] w fun e w' => e = .returned (.int .i64 1) ∧ Below w.heap.size w w' := log_append_bad h.at' r hr
theorem llaw_append_full (h : LogOn B w A D a g base later sl) (r : Rc) (hr : r.may = true) (hn : base.length + later.length + 2 = 16) : Calls Tryz.prog 9 #[.pointer (some ⟨A.l, 0, none⟩), .agg r.cells.toArray] w fun e w' => e = .returned (.int .i64 9) ∧ Below w.heap.size w w' := log_append_full h.at' r hr hn
theorem llaw_all (h : LogOn B w A D a g base later sl) : Calls Tryz.prog 12 #[.pointer (some ⟨A.l, 0, none⟩)] w fun e w' => (∃ p cap, e = .returned (.slice p (base.length + later.length) cap) ∧ Lies w' w'.heap.size p (rcs (bares (base ++ later)))) ∧ Below w.heap.size w w' := by
  have hl : (bares (base ++ later)).length = base.length + later.length := by rw [bares_length, List.length_append]
  refine (log_all_any h.at' (by show (bares (base ++ later)).length ≤ 1000; rw [hl]; have := h.few; omega)).mono ?_
  rintro e w' ⟨⟨v, rfl, ho⟩, hb⟩
  obtain ⟨p, cap, rfl, hL⟩ := own_formM ho
  refine ⟨⟨p, cap, ?_, hL⟩, hb⟩
  show Ending.returned (Value.slice p (bares (base ++ later)).length cap) = _
  rw [hl]
theorem llaw_compact0 (h : LogOn B w A D a g base later sl) (hBw : B ≤ w.heap.size) (hl : D.lit = false) (hg0 : 0 ≤ g) (hg : g < 281474976710655) : Calls Tryz.prog 26 #[.pointer (some ⟨A.l, 0, none⟩), .slice none 0 0] w fun e w' => e = .returned (.int .i64 0) ∧ Onl (A.S sl) w w' ∧ ∃ D' sl', LogOn B w' A D' (1 - a) (g + 1) [] [] sl' := by
  have hL := h.L
  have he : askE g [] = 0 := askE_nil hg
  have hz := h.st.cmp_unlit hl (stV a g base later) ⟨rfl, rfl⟩ [] he
  have hc := h.st.cmp (stV a g base later) ⟨rfl, rfl⟩ [] he hz
  rw [← hL] at hz hc
  refine (log_compact_go h.at' hBw none 0 0 [] rfl (Lies.nil _ _ _) he hg0).mono ?_
  rintro e w' ⟨rfl, h1, h2, _⟩
  obtain ⟨sl', h3, _⟩ := h2 hz
  refine ⟨congrArg (fun x => Ending.returned (.int .i64 x)) hz, h1, runD (cmpF A.L (stV a g base later) []) D, sl', ⟨?_, ?_, h.geo, ?_⟩⟩
  · exact h3
  · rw [hL] at hc ⊢; exact hc
  · rw [runE_other]; exact h.ll
/-- The device has turned by another log's hand, and is as it was. -/
theorem LogOn.again (h : LogOn B w A D a g base later sl) (ho : Onl A.sh.S w w') (hd : Dvx w' A.sh D) : LogOn B w' A D a g base later sl := ⟨h.at'.go ho hd rfl, h.st, h.geo, h.ll⟩
end
end Go.Proofs.YtbnjenbhpaknbaaGreat

/- LogOrder (gen_log_ord.py). -/
namespace Go.Proofs.YtbnjenbhpaknbaaGreat
open Go.RowKit CrcMath NumMath FlaMath GeoMath
set_option linter.unusedVariables false
set_option linter.unusedSimpArgs false
set_option maxRecDepth 100000

theorem rcs_1 (x s m v : Int) : rcs [(⟨x, s, m, v⟩ : Rc)] = rcv x s m v := rcs_one _
theorem onl_lies {S : List Nat} {w u u' : World} {p : Option Addr} {xs : List Value} (h : Lies u w.heap.size p xs) (ho : Onl S u u') (hS : ∀ k ∈ S, w.heap.size ≤ k) (hw : w.heap.size ≤ u.heap.size) : Lies u' u'.heap.size p xs := (h.below (ho.below hS hw)).mono (Nat.le_trans hw ho.size)
theorem rcs_app_bare (L : List Rc) (r : Rc) : rcs (bares (L ++ [r])) = rcs (bares L) ++ rcs (bares [r]) := by rw [bares_append, rcs_append]
end Go.Proofs.YtbnjenbhpaknbaaGreat

/- What a list of texts that came in reads as. -/
namespace Go.Proofs.YtbnjenbhpaknbaaGreat
open Go.RowKit

theorem reads_strs {w : World} {a : Option Addr} {cap : Nat} {l : List ByteArray} (h : Open.Reads w (.sl 16 .str) [.slice a l.length cap] l) :
    Lies w w.heap.size a (strs l) ∧ (∀ s ∈ l, s.size ≤ 140737488351232) ∧ l.length ≤ cap ∧ cap ≤ 140737488351232 := by
  obtain ⟨a', cap', e, h1, h2, h3, h4⟩ := h
  simp at e
  obtain ⟨rfl, rfl⟩ := e
  refine ⟨fun h0 => ?_, fun s hs => ?_, h1, by omega⟩
  · rw [strs_length] at h0
    obtain ⟨b, off, e1, e2, e3⟩ := h4 h0
    refine ⟨b, off, e1, e2, fun j u hu => ?_⟩
    have hj : j < l.length := by
      have := (List.getElem?_eq_some_iff.1 hu).1
      rwa [strs_length] at this
    obtain ⟨cs', q1, q2, q3⟩ := e3 j hj
    have := q2 0 (by decide)
    rw [q3.1] at this
    rw [strs_get l j hj] at hu
    simpa [Open.Ty.size, ← hu] using this
  · obtain ⟨i, hi, rfl⟩ := List.mem_iff_getElem.1 hs
    obtain ⟨b, off, e1, e2, e3⟩ := h4 (by omega)
    obtain ⟨cs', q1, q2, q3⟩ := e3 i hi
    exact q3.2

/-- An array of bytes that came in. -/
def toByte (v : Value) : UInt8 := match v with | .int _ z => UInt8.ofNat z.toNat | _ => 0
theorem reads_bytes {w : World} {n : Nat} {cs : List Value} {x : List Int} (h : Open.Reads w (.arr n (.int .u8)) cs x) : ∃ H : List UInt8, H.length = n ∧ cs = bytes H := by
  obtain ⟨h1, h2, h3⟩ := h
  have hl : cs.length = n := by simpa [Open.Ty.size] using h2
  refine ⟨cs.map toByte, by simpa using hl, ?_⟩
  apply List.ext_getElem?
  intro i
  rw [bytes, List.getElem?_map, List.getElem?_map]
  by_cases hi : i < cs.length
  · have hx : i < x.length := by omega
    have h4 := h3 i hx
    simp only [Open.Ty.size, Nat.mul_one] at h4
    obtain ⟨h5, h6⟩ := h4
    have h7 : cs[i]? = some (.int .u8 x[i]) := by
      have := congrArg (·[0]?) h5
      simpa [List.getElem?_take, List.getElem?_drop] using this
    have hb : 0 ≤ x[i] ∧ x[i] ≤ 255 := by
      simp [Lit.wf, IntKind.min, IntKind.max, IntKind.bits, IntKind.signed] at h6
      omega
    rw [h7, Option.map_some, Option.map_some, toByte, UInt8.toNat_ofNat']
    congr 2
    omega
  · rw [List.getElem?_eq_none (by omega)]
    rfl

end Go.Proofs.YtbnjenbhpaknbaaGreat

/- Geometries and arrays that came in. -/
namespace Go.Proofs.YtbnjenbhpaknbaaGreat
open Go.RowKit
def TG : Open.Ty := .pair (.int .i64) (.pair (.int .i64) (.pair (.int .i64) .unit))
theorem geo_wf {n : Int} (h : (Lit.int .i64 n).wf = true) : -9223372036854775808 ≤ n ∧ n < 9223372036854775808 := by
  have h2 := h
  simp [Lit.wf, IntKind.min, IntKind.max, IntKind.bits, IntKind.signed] at h2
  omega
theorem reads_geo {w : World} {cs : List Value} {x : TG.den} (h : Open.Reads w TG cs x) : ∃ d p s : Int, cs = [.int .i64 d, .int .i64 p, .int .i64 s] := by
  have hl : cs.length = 3 := h.length
  match cs, hl with
  | [a, b, c], _ =>
    obtain ⟨⟨h1, g1⟩, ⟨h2, g2⟩, ⟨h3, g3⟩, _⟩ := h
    have e1 : a = .int .i64 x.1 := by simpa [Open.Ty.size] using h1
    have e2 : b = .int .i64 x.2.1 := by simpa [Open.Ty.size] using h2
    have e3 : c = .int .i64 x.2.2.1 := by simpa [Open.Ty.size] using h3
    exact ⟨_, _, _, by rw [e1, e2, e3]⟩
theorem reads_three {w : World} {cs : List Value} {x : List Int} (h : Open.Reads w (.arr 3 (.int .i64)) cs x) : ∃ a b c : Int, cs = [.int .i64 a, .int .i64 b, .int .i64 c] := by
  obtain ⟨h1, h2, h3⟩ := h
  have hl : cs.length = 3 := by simpa [Open.Ty.size] using h2
  match cs, hl with
  | [a, b, c], _ =>
    have e1 := (h3 0 (by omega)).1
    have e2 := (h3 1 (by omega)).1
    have e3 := (h3 2 (by omega)).1
    simp [Open.Ty.size] at e1 e2 e3
    exact ⟨_, _, _, by rw [e1, e2, e3]⟩
theorem geo_byte {n : Int} (h : (Lit.int .u8 n).wf = true) : ∃ b : Nat, b < 256 ∧ n = (b : Int) := by
  have h2 := h
  simp [Lit.wf, IntKind.min, IntKind.max, IntKind.bits, IntKind.signed] at h2
  exact ⟨n.toNat, by omega, by omega⟩
end Go.Proofs.YtbnjenbhpaknbaaGreat

/- Records and versions that came in. -/
namespace Go.Proofs.YtbnjenbhpaknbaaGreat
open Go.RowKit
def TRc : Open.Ty := .pair (.int .i64) (.pair (.int .i64) (.pair (.int .i64) (.pair (.int .i64) .unit)))
theorem reads_rec {w : World} {cs : List Value} {x : TRc.den} (h : Open.Reads w TRc cs x) : ∃ k s n v : Int, cs = rcv k s n v := by
  have hl : cs.length = 4 := h.length
  match cs, hl with
  | [a, b, c, d], _ =>
    obtain ⟨⟨h1, g1⟩, ⟨h2, g2⟩, ⟨h3, g3⟩, ⟨h4, g4⟩, _⟩ := h
    have e1 : a = .int .i64 x.1 := by simpa [Open.Ty.size] using h1
    have e2 : b = .int .i64 x.2.1 := by simpa [Open.Ty.size] using h2
    have e3 : c = .int .i64 x.2.2.1 := by simpa [Open.Ty.size] using h3
    have e4 : d = .int .i64 x.2.2.2.1 := by simpa [Open.Ty.size] using h4
    exact ⟨_, _, _, _, by rw [e1, e2, e3, e4]; rfl⟩
theorem two_bytes {H : List UInt8} (h : H.length = 2) : ∃ x y : UInt8, H = [x, y] :=
  match H, h with
  | [x, y], _ => ⟨x, y, rfl⟩
end Go.Proofs.YtbnjenbhpaknbaaGreat

/- Slices of records that came in. -/
namespace Go.Proofs.YtbnjenbhpaknbaaGreat
open Go.RowKit
set_option linter.unusedVariables false
set_option linter.unusedSimpArgs false
theorem rcs_back {l : List Rc} {j : Nat} {u : Value} (h : (rcs l)[j]? = some u) : ∃ hi : j / 4 < l.length, (l[j / 4]).cells[j % 4]? = some u := by
  have hj : j < l.length * 4 := by
    rw [← rcs_length]
    exact (List.getElem?_eq_some_iff.1 h).1
  have hi : j / 4 < l.length := by omega
  refine ⟨hi, ?_⟩
  have hl : (l[j / 4]).cells.length = 4 := rfl
  have hm : j % 4 < (l[j / 4]).cells.length := by rw [hl]; omega
  have := rcs_get l (j / 4) hi (j % 4) _ (List.getElem?_eq_getElem hm)
  rw [show j / 4 * 4 + j % 4 = j by omega, h] at this
  rw [List.getElem?_eq_getElem hm, ← this]
theorem reads_recs {w : World} {a : Option Addr} {cap by_ : Nat} {l : List TRc.den} (h : Open.Reads w (.sl by_ TRc) [.slice a l.length cap] l) : ∃ L : List Rc, L.length = l.length ∧ Lies w w.heap.size a (rcs L) := by
  obtain ⟨a', cap', hc, _, _, _, hr⟩ := h
  obtain ⟨rfl, rfl⟩ : a' = a ∧ cap' = cap := by simp at hc; exact ⟨hc.1.symm, hc.2.symm⟩
  rcases Nat.eq_zero_or_pos l.length with h0 | h0
  · exact ⟨[], by rw [h0]; rfl, Lies.nil _ _ _⟩
  · obtain ⟨b, off, ha, hb, hx⟩ := hr h0
    have hp : ∀ i, i < l.length → ∃ r : Rc, ∀ j u, r.cells[j]? = some u → w.cell? ⟨b, off + (i * 4 + j), none⟩ = some u := fun i hi => by
      obtain ⟨cs, h1, h2, h3⟩ := hx i hi
      obtain ⟨k, s, n, v, rfl⟩ := reads_rec h3
      refine ⟨⟨k, s, n, v⟩, fun j u hj => ?_⟩
      have hj4 : j < 4 := (List.getElem?_eq_some_iff.1 hj).1
      have := h2 j hj4
      rw [show TRc.size = 4 from rfl] at this
      rw [this]
      exact hj
    obtain ⟨L, hL, hL2⟩ := Open.choose_list (α := Rc) (fun i r => ∀ j u, r.cells[j]? = some u → w.cell? ⟨b, off + (i * 4 + j), none⟩ = some u) l.length hp ()
    refine ⟨L, hL, fun _ => ⟨b, off, ha, hb, fun j u hj => ?_⟩⟩
    obtain ⟨hi, hc2⟩ := rcs_back hj
    have := hL2 (j / 4) hi _ _ hc2
    rwa [show j / 4 * 4 + j % 4 = j by omega] at this
end Go.Proofs.YtbnjenbhpaknbaaGreat

/- The law's Dump; lists of turns. -/
namespace Go.Proofs.YtbnjenbhpaknbaaGreat
open Go.RowKit CrcMath NumMath FlaMath GeoMath
set_option linter.unusedVariables false
set_option linter.unusedSimpArgs false
set_option maxRecDepth 100000

/-- A byte that is turned. -/
structure Tn where
  pg : UInt8
  cp : UInt8
  at_ : UInt8
  by_ : UInt8
def tcv (a b c d : Nat) : List Value := [.int .u8 (a : Int), .int .u8 (b : Int), .int .u8 (c : Int), .int .u8 (d : Int)]
def Tn.cells (t : Tn) : List Value := tcv t.pg.toNat t.cp.toNat t.at_.toNat t.by_.toNat
def tcs (l : List Tn) : List Value := l.flatMap Tn.cells
theorem tcs_cons (r : Tn) (l : List Tn) : tcs (r :: l) = r.cells ++ tcs l := rfl
theorem tcs_length (l : List Tn) : (tcs l).length = l.length * 4 := by
  induction l with
  | nil => rfl
  | cons r l ih => rw [tcs_cons, List.length_append, ih, List.length_cons]; show 4 + _ = _; omega
theorem tcs_get (l : List Tn) (i : Nat) (h : i < l.length) (j : Nat) (u : Value) (hj : (l[i].cells)[j]? = some u) : (tcs l)[i * 4 + j]? = some u := by
  induction l generalizing i with
  | nil => exact absurd h (Nat.not_lt_zero _)
  | cons r l ih =>
    rw [tcs_cons]
    have h4 : r.cells.length = 4 := rfl
    cases i with
    | zero =>
      have hj4 : j < 4 := (List.getElem?_eq_some_iff.1 hj).1
      rw [Nat.zero_mul, Nat.zero_add, List.getElem?_append_left (by rw [h4]; exact hj4)]
      exact hj
    | succ i =>
      rw [List.getElem?_append_right (by rw [h4]; omega), h4, show (i + 1) * 4 + j - 4 = i * 4 + j by omega]
      exact ih i (by simpa using h) (by simpa using hj)
theorem tcs_at {w : World} {bl off : Nat} {l : List Tn} (hc : ∀ j u, (tcs l)[j]? = some u → w.cell? ⟨bl, off + j, none⟩ = some u) (i : Nat) (h : i < l.length) : w.rangeAt bl (off + i * 4) l[i].cells := by
  intro j u hj
  have := hc (i * 4 + j) u (tcs_get l i h j u hj)
  rwa [← Nat.add_assoc] at this
theorem tcs_back {l : List Tn} {j : Nat} {u : Value} (h : (tcs l)[j]? = some u) : ∃ hi : j / 4 < l.length, (l[j / 4]).cells[j % 4]? = some u := by
  have hj : j < l.length * 4 := by
    rw [← tcs_length]
    exact (List.getElem?_eq_some_iff.1 h).1
  have hi : j / 4 < l.length := by omega
  refine ⟨hi, ?_⟩
  have hl : (l[j / 4]).cells.length = 4 := rfl
  have hm : j % 4 < (l[j / 4]).cells.length := by rw [hl]; omega
  have := tcs_get l (j / 4) hi (j % 4) _ (List.getElem?_eq_getElem hm)
  rw [show j / 4 * 4 + j % 4 = j by omega, h] at this
  rw [List.getElem?_eq_getElem hm, ← this]

theorem lr_one_string : One Tryz.prog 9 := One.of (by kernel_rfl)
def dmps (D : Dv) (k : Nat) : List ByteArray := (List.range k).map fun (j : Nat) => str (dump D (j : Int))
theorem dmps_succ (D : Dv) (k : Nat) : dmps D (k + 1) = dmps D k ++ [str (dump D (k : Int))] := by simp [dmps, List.range_succ]
set_option maxHeartbeats 1000000 in
theorem tdump_any (s : Sh) (D : Dv) (w : World) (h : Dvx w s D) (hL : D.L.length = 27) :
    Calls Tryz.prog 13 #[.pointer (some ⟨s.b, 0, none⟩)] w fun e w' => (∃ a cap, e = .returned (.slice a 27 cap) ∧ Lies w' w'.heap.size a (strs (dmps D 27))) ∧ Below w.heap.size w w' := by
  have HD : Hid (∀ u, Below w.heap.size w u → Dvx u s D) := Lib.hid fun u hu => h.step hu
  have HSC : Hid (∀ u, Below w.heap.size w u → Calls Tryz.prog 40 #[.pointer (some ⟨s.b, 0, none⟩)] u fun e u' => e = .returned (.int .i64 27) ∧ u = u') := Lib.hid fun u hu => by
    obtain ⟨o, ho⟩ := h.step hu
    have := sectors_any s { D with ops := o } u ho
    rwa [show ({ D with ops := o } : Dv).L.length = 27 from hL] at this
  have HDU : Hid (∀ (u : World) (k : Nat), Below w.heap.size w u → Calls Tryz.prog 41 #[.pointer (some ⟨s.b, 0, none⟩), .int .i64 (k : Int)] u fun e u' => e = .returned (.string (str (dump D (k : Int)))) ∧ u = u') := Lib.hid fun u k hu => by
    obtain ⟨o, ho⟩ := h.step hu
    exact dump_any s { D with ops := o } (k : Int) u ho
  have HSU : Hid (∀ k, strs (dmps D (k + 1)) = strs (dmps D k) ++ [.string (str (dump D (k : Int)))]) := Lib.hid fun k => by rw [dmps_succ, strs, List.map_append]; rfl
  have H00 : Hid (dmps D 0 = []) := Lib.hid rfl
  clear h hL HD
  generalize s.b = d at *
  generalize dmps D = dm at *
  go_enter Tryz.func13, Tryz.ntmps13
  go_wp2
  go_loopw [3, 4] (fun v i wr => ∃ k : Nat, k ≤ 27 ∧ i = .int .i64 k ∧ wr.ownsRow w.heap.size 9 1 v k (strs (dm k)) ∧ Below w.heap.size w wr) (fun _ i _ => 27 - (intOf i).toNat)
  case atStart => exact ⟨0, Nat.zero_le _, rfl, by rw [H00.out]; exact World.ownsRow_nil _ _ _ _, Below.refl _ _⟩
  case round =>
    obtain ⟨k, hk, rfl, hown, hbw⟩ := hrel
    have HOWN := Lib.hid hown
    have HBW := Lib.hid hbw
    clear hown hbw
    by_cases hlt : k < 27
    · have hk1 : (k : Int) < 27 := by omega
      have HDK := Lib.hid (HDU.out wr k HBW.out)
      have HSK := Lib.hid (HSC.out wr HBW.out)
      have HSS := Lib.hid (HSU.out k)
      obtain ⟨T1, hT1⟩ : ∃ T, str (dump D (k : Int)) = T := ⟨_, rfl⟩
      rw [hT1] at HDK HSS
      have HOW2 := Lib.hid (HOWN.out.alloc (.cells #[.string T1] 9))
      have HL2 : Hid (Lies (wr.alloc (.cells #[.string T1] 9)) (wr.alloc (.cells #[.string T1] 9)).heap.size (some ⟨wr.heap.size, 0, none⟩) [.string T1]) := Lib.hid (Lies.new _ _ _)
      have HBW2 := Lib.hid (HBW.out.alloc HBW.out.size (.cells #[.string T1] 9))
      have HO1 : Hid ((Value.string T1).oneCell' = true) := Lib.hid rfl
      have HPK : Big (k + 1 ≤ 1099511627776) := ⟨by omega⟩
      have HOL : Hid (∀ j, u3.ownBlock = some j → w.heap.size ≤ j) := Lib.hid fun j hj => (HOWN.out.lt j hj).1
      have HZ2 := Lib.hid HBW2.out.size
      clear hT1 HDU HSC
      go_wp2_with (first
        | (go_at_call 40; (with_reducible refine HSK.out.mono ?_); rintro e _ ⟨rfl, rfl⟩)
        | (go_at_call 41; (with_reducible refine HDK.out.mono ?_); rintro e _ ⟨rfl, rfl⟩)
        | ((with_reducible refine wpAppend1K HOW2.out Tryz.underlying45 lr_one_string HL2.out HO1.out HPK HZ2.out ?_ ?_); rfl; intro v1 w2 g1 g2 g3; have HV1 := Lib.hid g1; have HG1 := Lib.hid g2; clear g1 g2 g3))
      go_roundw
      case rel => exact ⟨k + 1, by omega, by go_num, by rw [HSS.out]; exact HV1.out, HBW2.out.grown HG1.out HBW2.out.size HOL.out⟩
      case measure => simp [intOf]; omega
    · have hke : k = 27 := by omega
      have hk1 : ¬ (k : Int) < 27 := by omega
      have HSK := Lib.hid (HSC.out wr HBW.out)
      rw [hke] at HOWN
      obtain ⟨a, cap, hv, hl⟩ := own_formM HOWN.out
      subst hv
      have HL := Lib.hid hl
      clear hke hl HDU HSC HOWN
      go_wp2_with (go_at_call 40; (with_reducible refine HSK.out.mono ?_); rintro e _ ⟨rfl, rfl⟩)
      go_ret
      exact ⟨⟨a, cap, rfl, HL.out⟩, HBW.out⟩
end Go.Proofs.YtbnjenbhpaknbaaGreat

/- What LogRot asks of a log whose device's bytes were turned. -/
namespace Go.Proofs.YtbnjenbhpaknbaaGreat
open Go.RowKit CrcMath NumMath FlaMath GeoMath
set_option linter.unusedVariables false
set_option linter.unusedSimpArgs false
set_option maxRecDepth 100000

section
variable {B : Nat} {w w' : World} {A : LogD} {D : Dv} {V : LV} {sl : Value} {C : List UInt8}
theorem lrot_rot {s : Sh} (h : Dvx w s { D with C := C }) (x : Nat) (b : UInt8) (p : Option Addr) (cap : Nat) (hx : x + 1 ≤ C.length) (hx2 : x < 1000000) (hr : OffS w s.S p (bytes [b])) :
    Calls Tryz.prog 11 #[.pointer (some ⟨s.b, 0, none⟩), .int .i64 (x : Int), .slice p 1 cap] w fun e w' => e = .returned (.int .i64 0) ∧ Dvx w' s { D with C := rotF C x [b] } ∧ Onl s.S w w' := by
  obtain ⟨o, ho⟩ := h
  have := fla_rot_any s _ (x : Int) p cap [b] w ho (by omega) hr
  have e0 : rotE { ({ D with C := C } : Dv) with ops := o } (x : Int) [b] = 0 := by
    unfold rotE
    have : bey C.length (x : Int) (([b] : List UInt8).length : Int) = false := by
      unfold bey
      rw [decide_eq_false_iff_not]
      simp only [List.length_cons, List.length_nil]
      omega
    show (if bey C.length (x : Int) (([b] : List UInt8).length : Int) = true then (2 : Int) else 0) = 0
    rw [this]; rfl
  rw [e0] at this
  refine this.mono ?_
  rintro e w' ⟨rfl, h1, h2⟩
  refine ⟨rfl, ⟨o, ?_⟩, h2⟩
  unfold Dv.rot at h1
  rw [if_pos e0, Int.toNat_natCast] at h1
  exact h1
theorem lrot_all (h : LogAt B w A D V sl) (R : List Rc) (r : Nat) (hR : V.recs = R) (hr : R.length = r) (hr2 : r ≤ 1000) :
    Calls Tryz.prog 12 #[.pointer (some ⟨A.l, 0, none⟩)] w fun e w' => (∃ p cap, e = .returned (.slice p r cap) ∧ Lies w' w'.heap.size p (rcs R)) ∧ Below w.heap.size w w' := by
  refine (log_all_any h (by rw [hR, hr]; exact hr2)).mono ?_
  rintro e w' ⟨⟨v, rfl, ho⟩, hb⟩
  rw [hR, hr] at ho
  obtain ⟨p, cap, rfl, hL⟩ := own_formM ho
  exact ⟨⟨p, cap, rfl, hL⟩, hb⟩
theorem lrot_plain (p : Option Addr) (cap : Nat) (R : List Rc) (r : Nat) (hr : R.length = r) (hr2 : r ≤ 1000) (h : Lies w w.heap.size p (rcs R)) :
    Calls Tryz.prog 17 #[.slice p r cap] w fun e w' => (∃ q c2, e = .returned (.slice q r c2) ∧ Lies w' w'.heap.size q (rcs (bares R))) ∧ Below w.heap.size w w' := by
  refine (llaw_plain p r cap R w hr (by omega) h).mono ?_
  rintro e w' ⟨⟨v, rfl, ho⟩, hb⟩
  obtain ⟨q, c2, rfl, hL⟩ := own_formM ho
  exact ⟨⟨q, c2, rfl, hL⟩, hb⟩
theorem lrot_same (p q : Option Addr) (c1 c2 : Nat) (R : List Rc) (r : Nat) (hr : R.length = r) (hr2 : r ≤ 1000) (h : Lies w w.heap.size p (rcs R)) (h2 : Lies w w.heap.size q (rcs R)) :
    Calls Tryz.prog 16 #[.slice p r c1, .slice q r c2] w fun e w' => e = .returned (.bool true) ∧ Below w.heap.size w w' := by
  have := llaw_same p q r c1 r c2 R R w hr (by omega) hr (by omega) h h2
  rwa [decide_eq_true (rfl : R = R)] at this
theorem lrot_open {s : Sh} {sd : List Nat} {base later : List Rc} (h : Dvx w s { D with C := C }) (hll : D.L.length = 27) (hs : LogSt D 9 0 1 base later) (hr : RotSt D.C C 9 sd)
    (hz : ∀ p, base.length + later.length + 2 ≤ p → p < 16 → sd.getD p 0 = 0) (hn : ∀ p c, p < 16 → c < 2 → sd.getD p 0 = 1 + c → isP (hp C 9 0 c p) = false) (hB : ∀ k ∈ s.S, B ≤ k) (hBw : B ≤ w.heap.size) :
    Calls Tryz.prog 15 #[.pointer (some ⟨s.b, 0, none⟩), geoV G1] w fun e w' => Onl s.S w w' ∧
      ∃ l tb sl cl, e = .returned (.tuple #[.pointer (some ⟨l, 0, none⟩), .int .i64 0]) ∧ LogAt B w' ⟨l, tb, s, G1⟩ { D with C := C } ⟨0, 1, bares (base ++ later), base.length + later.length + 2, cl⟩ sl := by
  obtain ⟨cl, ho⟩ := hr.open hs hz hn
  have := logopen_good B s { D with C := C } G1 w h hs.fit.dn G1_right (by rw [G1_all]; show (27 : Int) ≤ (D.L.length : Int); rw [hll]; decide) hB hBw
  rw [G1_toNat, show ({ D with C := C } : Dv).C = C from rfl, ho] at this
  refine this.mono ?_
  rintro e w' ⟨h1, _, h2⟩
  obtain ⟨l, tb, sl, h3, h4, _, _⟩ := h2 (by show (1 : Int) ≠ 0; decide)
  exact ⟨h1, l, tb, sl, cl, h3, h4⟩
/-- The page that the law looks at. -/
theorem lrot_page (E : Dv) (c p : Nat) (hc : c < 2) (hp_ : p < 16) (hL : E.L.length = 27) (hC : E.C.length = 64 * E.L.length) :
    (str (dump E ((9 + c * 4 + p / 4 : Nat) : Int))).extract (p % 4 * 16) (p % 4 * 16 + 16) = str (hp E.C 9 0 c p) := by
  have e1 : dump E ((9 + c * 4 + p / 4 : Nat) : Int) = sec E.C (9 + c * 4 + p / 4) := by
    unfold dump
    rw [if_pos ⟨by omega, by rw [hL]; omega⟩, Int.toNat_natCast]
  rw [e1]
  have e2 : ((sec E.C (9 + c * 4 + p / 4)).drop (p % 4 * 16)).take 16 = hp E.C 9 0 c p := by
    unfold sec hp pgs atF
    apply List.ext_getElem?
    intro i
    rw [List.getElem?_take, List.getElem?_take]
    by_cases hi : i < 16
    · rw [if_pos hi, if_pos hi, List.getElem?_drop, List.getElem?_take, if_pos (by omega), List.getElem?_drop, List.getElem?_drop]
      congr 1
      omega
    · rw [if_neg hi, if_neg hi]
  rw [← e2]
  apply ByteArray.ext
  rw [ByteArray.data_extract]
  show (sec E.C (9 + c * 4 + p / 4)).toArray.extract (p % 4 * 16) (p % 4 * 16 + 16) = _
  rw [← Array.toList_inj]
  simp [str]
end
end Go.Proofs.YtbnjenbhpaknbaaGreat
