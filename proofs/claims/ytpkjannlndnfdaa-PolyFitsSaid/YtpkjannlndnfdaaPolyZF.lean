/- The walk of PolyFits. -/
import Derived.Test.YtpkjannlndnfdaaPolyZE
import Derived.Test.YtpkjannlndnfdaaPolyW
import Derived.Test.YtpkjannlndnfdaaPolyZG
import Derived.Test.YtpkjannlndnfdaaInvG
namespace Go.Proofs.Ytpkjannlndnfdaa
open Go.RowKit GfMath PolyMath Go.Maps
set_option linter.unusedVariables false

/-- The values at the places. -/
def vals (A X : List Nat) : List Nat := X.map fun x => ev A x
theorem vals_snoc (A X : List Nat) (x : Nat) : vals A (X ++ [x]) = vals A X ++ [ev A x] := by simp [vals]
theorem vals_length (A X : List Nat) : (vals A X).length = X.length := by simp [vals]
theorem vals_by {A X : List Nat} (hA : By A) (hX : By X) : By (vals A X) := fun y hy => by
  simp only [vals, List.mem_map] at hy
  obtain ⟨x, hx, rfl⟩ := hy
  exact ev_lt hA (hX x hx)
theorem vals_sq (A X : List Nat) (j : Nat) (h : j < X.length) : sq (vals A X) j = ev A (sq X j) := by
  rw [sq_get _ _ (by rw [vals_length]; exact h), sq_get X j h]; simp [vals]

def RD (F : List Nat) : Value → World → Prop := fun v w => Reads w v F
theorem RD.monot (F : List Nat) : Monot (RD F) := fun _ _ _ h hb => Reads.step h hb
theorem conv_rd {w : World} {F : List Nat} {v : Value} (hF : By F) (h : RD F v w) : (convert 22 9 v).run Try.prog w = .ok (.string (str (u8l F))) w := by
  obtain ⟨a, c, rfl, _, hl⟩ := h
  exact conv_u8s hF c hl
theorem lies_far {w w' : World} {v : Value} {n c base : Nat} {a : Option Addr} {xs : List Value} (h : Lies w w.heap.size a xs) (hg : w.grownBy w' v.ownBlock) (hf : Far base (.slice a n c)) (ho : ∀ j, v.ownBlock = some j → j < base) : Lies w' w'.heap.size a xs := by
  intro h0
  obtain ⟨b, off, e, hlt, hc⟩ := h h0
  subst e
  have h1 := hf ⟨b, off, none⟩ n c rfl
  exact ⟨b, off, rfl, Nat.lt_of_lt_of_le hlt hg.size, fun j u hu => hg.cell (hc j u hu) (fun e2 => by have h2 := ho _ e2.symm; exact absurd h1 (Nat.not_le.2 h2))⟩

set_option maxRecDepth 100000 in
set_option maxHeartbeats 8000000 in
theorem polyFits_walk (a c : Option Addr) (ca cc : Nat) (A X : List Nat) (w : World) (hA : By A) (hX : By X) (h1 : A.length ≤ ca) (h2 : X.length ≤ cc) (h3 : ca ≤ 140737488351232) (h4 : cc ≤ 140737488351232)
    (hr : Lies w w.heap.size a (u8s A)) (hs : Lies w w.heap.size c (u8s X)) :
    Calls Try.prog 3 #[.slice a A.length ca, .slice c X.length cc] w fun e w' => e = .returned (.bool true) ∧ Below w.heap.size w w' := by
  have HG := Lib.hid (great_two a A.length ca c X.length cc (by omega) (by omega))
  have HR := Lib.hid hr
  have HS := Lib.hid hs
  clear hr hs
  by_cases h60 : 60 < A.length ∨ 60 < X.length
  · have HG2 : Hid (∀ u : World, Calls Try.prog 5 #[.slice (some ⟨u.heap.size, 0, none⟩) 2 2] (u.alloc (.cells #[.slice a A.length ca, .slice c X.length cc] 22)) fun e w' => e = .returned (.bool true) ∧ Below u.heap.size u w') := Lib.hid fun u => by have := HG.out u; rwa [decide_eq_true h60] at this
    clear HG h60
    go_enter Try.func3, Try.ntmps3
    go_wp2_with (first
      | (go_at_call 4; (with_reducible refine (awake_any w).mono ?_); rintro e u1 ⟨rfl, b1⟩; have B1 := Lib.hid b1; clear b1)
      | (go_at_call 5; (with_reducible refine (HG2.out u1).mono ?_); rintro e u2 ⟨rfl, b2⟩; have B2 := Lib.hid (B1.out.next b2); clear b2))
    go_ret
    exact ⟨rfl, B2.out⟩
  · have HG2 : Hid (∀ u : World, Calls Try.prog 5 #[.slice (some ⟨u.heap.size, 0, none⟩) 2 2] (u.alloc (.cells #[.slice a A.length ca, .slice c X.length cc] 22)) fun e w' => e = .returned (.bool false) ∧ Below u.heap.size u w') := Lib.hid fun u => by have := HG.out u; rwa [decide_eq_false h60] at this
    have hla : A.length ≤ 60 := by omega
    have hlc : X.length ≤ 60 := by omega
    have HOF : Hid (∀ u : World, Lies u u.heap.size a (u8s A) → Calls Try.prog 8 #[.slice a A.length ca] u fun e w' => (∃ v, e = .returned v ∧ IReads w' v (lo A)) ∧ Below u.heap.size u w') := Lib.hid fun u hl => of_any a ca A u hA (by omega) hl
    have hlo8 := lo_by hA
    have hlol := lo_le A
    have hloA := lo_length A
    have HREV0 : ∀ (u : World) (a4 : Option Addr) (c4 x : Nat), x < 256 → Lies u u.heap.size a4 (nats (lo A)) → Calls Try.prog 7 #[.slice a4 (lo A).length c4, .int .i64 (x : Int)] u fun e w' => e = .returned (.int .i64 (ev A x : Int)) ∧ u = w' := fun u a4 c4 x hx hl => by
      have hev : E (sq (lo A)) (lo A).length x = ev A x := by
        rw [hloA, ← ev_beh hx hA, ev_E hx hA.beh]
        exact E_congr fun k _ => by rw [sq_lo, cf_beh]
      rw [← hev]
      exact reval_any a4 c4 (lo A) x u hlo8 hx (by omega) hl
    obtain ⟨W, hW⟩ : ∃ W, lo A = W := ⟨_, rfl⟩
    rw [hW] at HOF HREV0
    have HREV := Lib.hid HREV0
    have HA8 := Lib.hid hA
    have HX8 := Lib.hid hX
    have HL60 : Hid (A.length ≤ 60 ∧ X.length ≤ 60 ∧ A.length ≤ ca ∧ X.length ≤ cc) := Lib.hid ⟨hla, hlc, h1, h2⟩
    have hxl : (X.length : Int) ≤ 60 := by omega
    clear HG h60 hlo8 hlol hloA HREV0 hW hA hX hla hlc h1 h2 h3 h4
    have hmm := @run_makeMap Try.prog
    go_enter Try.func3, Try.ntmps3
    go_wp2_with (first
      | (go_at_call 4; (with_reducible refine (awake_any w).mono ?_); rintro e u1 ⟨rfl, b1⟩; have B1 := Lib.hid b1; clear b1)
      | (go_at_call 5; (with_reducible refine (HG2.out u1).mono ?_); rintro e u2 ⟨rfl, b2⟩; have B2 := Lib.hid (B1.out.next b2); clear b2)
      | (go_at_call 6; (with_reducible refine (gfNew_any u2).mono ?_); rintro e u3 ⟨rfl, f3, b3⟩; have F3 := Lib.hid f3; have B3 := Lib.hid (B2.out.next b3); clear f3 b3; generalize u2.heap.size = b at *))
    obtain ⟨B, hB⟩ : ∃ B, B = u3.heap.size := ⟨_, rfl⟩
    have HSE0 : Hid (Seen (u3.alloc (.map #[] 0)) B 0 (X.take 0)) := Lib.hid (by rw [hB, List.take_zero]; exact Seen.made u3)
    have HB0 : Hid (Below u3.heap.size u3 (u3.alloc (.map #[] 0))) := Lib.hid (alloc_below _ _)
    have HBS0 : Hid (B + 1 ≤ (u3.alloc (.map #[] 0)).heap.size) := Lib.hid (by rw [hB]; simp)
    have HBU : Hid (u3.heap.size ≤ B) := Lib.hid (by rw [hB]; exact Nat.le_refl _)
    rw [← hB]
    go_loopw [6, 8, 27] (fun vy tw i wr => ∃ k : Nat, k ≤ X.length ∧ i = .int .i64 k ∧ wr.ownsRow (B + 1) 5 1 vy k (u8s (vals A (X.take k))) ∧ tw = .bool (twB (X.take k)) ∧ Seen wr B k (X.take k) ∧ Below u3.heap.size u3 wr ∧ B + 1 ≤ wr.heap.size) (fun _ _ i _ => X.length - (intOf i).toNat)
    case atStart => exact ⟨0, Nat.zero_le _, rfl, ⟨rfl, .inl ⟨rfl, rfl⟩⟩, rfl, HSE0.out, HB0.out, HBS0.out⟩
    case round =>
      clear HSE0 HB0 HBS0 hB
      obtain ⟨k, hk, rfl, hown, rfl, hse, hbw, hsz⟩ := hrel
      obtain ⟨ay, cy, rfl, hcy, hly⟩ := own_form2 hown
      by_cases hlt : k < X.length
      · have hk1 : (k : Int) < X.length := by omega
        obtain ⟨b2, off, rfl, hbb, hcl⟩ := HS.out (by rw [u8s_length]; omega)
        have hcell : wr.cell? ⟨b2, off + k, none⟩ = some (.int .u8 (sq X k : Int)) := ((B3.out.next hbw).cell (p := ⟨b2, off + k, none⟩) hbb).trans (u8s_sq hcl k hlt)
        have hx8 := HX8.out.sq k
        have hts := take_snoc X k hlt
        rw [← sq_get X k hlt] at hts
        have htw := twB_snoc (X.take k) (sq X k)
        have hvs := vals_snoc A (X.take k) (sq X k)
        rw [← hts] at htw hvs
        obtain ⟨x, hx⟩ : ∃ x, sq X k = x := ⟨_, rfl⟩
        rw [hx] at hcell hx8 hts htw hvs
        have hlook := hse.look hx8
        have hv8 := ev_lt HA8.out hx8
        have HRE : Hid (∀ (u : World) (a4 : Option Addr) (c4 : Nat), Lies u u.heap.size a4 (nats W) → Calls Try.prog 7 #[.slice a4 W.length c4, .int .i64 (x : Int)] u fun e w' => e = .returned (.int .i64 (ev A x : Int)) ∧ u = w') := Lib.hid fun u a4 c4 hl => HREV.out u a4 c4 x hx8 hl
        obtain ⟨v, hv⟩ : ∃ v, ev A x = v := ⟨_, rfl⟩
        rw [hv] at HRE hvs hv8
        obtain ⟨tk, htk⟩ : ∃ tk, twB (X.take k) = tk := ⟨_, rfl⟩
        rw [htk] at htw ⊢
        obtain ⟨sn, hsn⟩ : ∃ sn, decide (x ∈ X.take k) = sn := ⟨_, rfl⟩
        rw [hsn] at hlook htw
        have hxi : (x : Int) < 256 := by omega
        have hx0 : 0 ≤ (x : Int) := by omega
        have hvi : (v : Int) < 256 := by omega
        have hv0 : 0 ≤ (v : Int) := by omega
        have hvw : IntKind.u8.wrap (v : Int) = (v : Int) := by rw [IntKind.wrap_u8]; omega
        have HX9 := Lib.hid hx8
        have HK : Hid (k < 1000) := Lib.hid (by omega)
        have HTS := Lib.hid hts
        have HTW := Lib.hid htw
        have HVS := Lib.hid hvs
        have HSE := Lib.hid hse
        have HOWN := Lib.hid hown
        have HW := Lib.hid hbw
        have HSZ := Lib.hid hsz
        have HRA : Hid (Lies wr wr.heap.size a (u8s A)) := Lib.hid (HR.out.step (B3.out.next hbw))
        have HPK : Big (k + 1 ≤ 1099511627776) := ⟨by omega⟩
        have HOB : Hid ((Value.slice ay k cy).ownBlock = none ∨ (Value.slice ay k cy).ownBlock ≠ some B) := Lib.hid (by
          cases h : (Value.slice ay k cy).ownBlock with
          | none => exact Or.inl rfl
          | some g => exact Or.inr (fun e => by cases e; have := (hown.lt _ h).1; omega))
        have HOL : Hid (∀ j, (Value.slice ay k cy).ownBlock = some j → B + 1 ≤ j) := Lib.hid fun j hj => (hown.lt j hj).1
        have HO1 : Hid ((Value.int .u8 (v : Int)).oneCell' = true) := Lib.hid rfl
        clear hcl hbb hx8 hts htw hvs hse hown hbw hsz hly hcy hv8 hv htk hsn hx
        cases tk
        all_goals
          go_wp2_with (first
            | (at_mapUpdate; refine HSE.out.wpPut HX9.out HK.out rfl _ _ _ rfl rfl rfl rfl ?_; intro w1 s1 g1; have HS1' := Lib.hid s1; have HOW1 := Lib.hid (HOWN.out.kept g1 HOB.out); have HW1 := Lib.hid (HW.out.grown g1 HW.out.size (fun j hj => by cases hj; exact HBU.out)); have HZ1 := Lib.hid (Nat.le_trans HSZ.out g1.size); have HRA1 : Hid (Lies w1 w1.heap.size a (u8s A)) := Lib.hid (HR.out.step (B3.out.next HW1.out)); clear s1 g1)
            | (go_at_call 8; (with_reducible refine (HOF.out w1 HRA1.out).mono ?_); rintro e x1 ⟨⟨v1, rfl, a1, c1, rfl, _, l1⟩, y1⟩; have L1 := Lib.hid l1; have HOW2 := Lib.hid ((own_below HOW1.out y1).alloc (.cells #[.int .u8 (v : Int)] 5)); have HW2 := Lib.hid ((HW1.out.next y1).alloc (HW1.out.next y1).size (.cells #[.int .u8 (v : Int)] 5)); have HS2 := Lib.hid ((HS1'.out.below y1).kept (World.grownBy_alloc x1 (.cells #[.int .u8 (v : Int)] 5) none) (by simp)); have HL2 : Hid (Lies (x1.alloc (.cells #[.int .u8 (v : Int)] 5)) (x1.alloc (.cells #[.int .u8 (v : Int)] 5)).heap.size (some ⟨x1.heap.size, 0, none⟩) [.int .u8 (v : Int)]) := Lib.hid (Lies.new [_] _ _); have HZ2 : Hid (B + 1 ≤ (x1.alloc (.cells #[.int .u8 (v : Int)] 5)).heap.size) := Lib.hid (Nat.le_trans HZ1.out (Nat.le_trans y1.size (alloc_below x1 _).size)); clear l1 y1)
            | (go_at_call 7; (with_reducible refine (HRE.out x1 a1 c1 L1.out).mono ?_); rintro e x2 ⟨rfl, rfl⟩)
            | ((with_reducible refine wpAppend1K HOW2.out Try.underlying22 one_byte HL2.out HO1.out HPK HZ2.out ?_ ?_); rfl; intro v1 w2 g1 g2 g3; have HV1 := Lib.hid g1; have HG1 := Lib.hid g2; clear g1 g2 g3))
          go_roundw
          case rel => exact ⟨k + 1, by omega, by go_num, by rw [HVS.out, u8s_snoc]; exact HV1.out, by rw [HTW.out]; rfl, by rw [HTS.out]; exact HS2.out.kept HG1.out (fun e => by have := HOL.out B e.symm; omega), HW2.out.grown HG1.out HW2.out.size (fun j hj => by have := HOL.out j hj; have := HBU.out; omega), Nat.le_trans HZ2.out HG1.out.size⟩
          case measure => first | (simp [intOf]; done) | (simp [intOf]; omega)
      · have ek : k = X.length := by omega
        rw [ek] at hcy
        rw [ek, List.take_of_length_le (Nat.le_refl _)] at hown hly ⊢
        have hvl := vals_length A X
        have hv8 := vals_by HA8.out HX8.out
        have hFIT := fit_far b c ay cc cy X (vals A X) wr (F3.out.step hbw) HX8.out hv8 (by have := HL60.out.2.1; omega) hvl.symm (HS.out.step (B3.out.next hbw)) hly
        rw [hvl] at hFIT
        have HF2 : Hid (∀ (u : World) (a' : Option Addr) (c' : Nat), Calls Try.prog 9 #[.pointer (some ⟨b, 0, none⟩), .slice c X.length cc, .slice a' (X.length + 1) c'] u fun e w' => e = .returned (.tuple #[.slice none 0 0, .bool false]) ∧ u = w') := Lib.hid fun u a' c' => by
          have h := fit_len b c a' cc c' X (List.replicate (X.length + 1) 0) u (by simp)
          rwa [List.length_replicate] at h
        have HOWN := Lib.hid hown
        have HLY := Lib.hid hly
        have HW := Lib.hid hbw
        have HPK : Big (X.length + 1 ≤ 1099511627776) := ⟨by have := HL60.out.2.1; omega⟩
        have HO1 : Hid ((Value.int .u8 1).oneCell' = true) := Lib.hid rfl
        have HOL : Hid (∀ j, (Value.slice ay X.length cy).ownBlock = some j → B + 1 ≤ j) := Lib.hid fun j hj => (hown.lt j hj).1
        have hon := once_nodup HX8.out
        by_cases hnd : X.Nodup
        · have ho : Once X X.length := hon.2 hnd
          have htw : twB X = false := by unfold twB; simp [hnd]
          obtain ⟨F, hF⟩ : ∃ F, fitN X (vals A X) X.length = F := ⟨_, rfl⟩
          rw [htw]
          rw [hF] at hFIT
          obtain ⟨hF8, hFc, hFl⟩ := fitN_all HX8.out hv8 X.length (Nat.le_refl _)
          have hFe := fitN_ev HX8.out hv8 X.length (Nat.le_refl _) ho
          rw [hF] at hF8 hFc hFl hFe
          have HF8 := Lib.hid hF8
          have HFC := Lib.hid hFc
          have HFE : Hid (∀ j, j < X.length → ev F (sq X j) = sq (vals A X) j) := Lib.hid hFe
          have HFL : Hid (F.length ≤ X.length) := Lib.hid hFl
          have HND := Lib.hid hnd
          have HFIO : Hid (Calls Try.prog 9 #[.pointer (some ⟨b, 0, none⟩), .slice c X.length cc, .slice ay X.length cy] wr fun e w' => (∃ ag cg, e = .returned (.tuple #[.slice ag F.length cg, .bool true]) ∧ F.length ≤ cg ∧ Lies w' w'.heap.size ag (u8s F) ∧ Far wr.heap.size (.slice ag F.length cg)) ∧ Below wr.heap.size wr w') := Lib.hid (hFIT.mono fun e w' h => ⟨by
            rcases h.1 with h2 | h2
            · obtain ⟨_, v, h3, ⟨ag, cg, rfl, h4, h5⟩, h6⟩ := h2
              exact ⟨ag, cg, h3, h4, h5, h6⟩
            · exact absurd ho h2.1, h.2⟩)
          have HOB : Hid (∀ j, (Value.slice ay X.length cy).ownBlock = some j → j < wr.heap.size) := Lib.hid fun j hj => (hown.lt j hj).2
          have HDGF : Hid (∀ (u : World) (ag : Option Addr) (cg : Nat), F.length ≤ cg → Lies u u.heap.size ag (u8s F) → Calls Try.prog 10 #[.slice ag F.length cg] u fun e w' => e = .returned (.int .i64 ((F.length : Int) - 1)) ∧ u = w') := Lib.hid fun u ag cg h1 h2 => by
            have h := degree_any ag cg F u (by have := HL60.out.2.1; omega) h1 h2
            rwa [HFC.out.beh] at h
          have hfl1 : (F.length : Int) ≤ X.length := by omega
          have hge1 : ¬ (max (X.length : Int) 1 ≤ (F.length : Int) - 1) := by omega
          have hge2 : ¬ ((F.length : Int) - 1 ≥ max (X.length : Int) 1) := by omega
          clear hFIT hown hly hbw hse hsz hcy hvl hv8 hon hnd ho htw ek hlt hk hF8 hFc hFl hFe hF
          go_wp2_with (first
            | (go_at_call 9; (with_reducible refine HFIO.out.mono ?_); rintro e x1 ⟨⟨ag, cg, rfl, hcg, lg, hfar⟩, y1⟩; have Y1 := Lib.hid y1; have HCG := Lib.hid hcg; have HFA := Lib.hid hfar; have HOW2 := Lib.hid ((own_below HOWN.out y1).alloc (.cells #[.int .u8 1] 5)); have HL2 : Hid (Lies (x1.alloc (.cells #[.int .u8 1] 5)) (x1.alloc (.cells #[.int .u8 1] 5)).heap.size (some ⟨x1.heap.size, 0, none⟩) [.int .u8 1]) := Lib.hid (Lies.new [_] _ _); have YB2 := Lib.hid (HW.out.next (y1.next (alloc_below x1 (.cells #[.int .u8 1] 5)))); have LG1 : Hid (Lies (x1.alloc (.cells #[.int .u8 1] 5)) (x1.alloc (.cells #[.int .u8 1] 5)).heap.size ag (u8s F)) := Lib.hid (lg.step (alloc_below _ _)); clear y1 lg hcg hfar)
            | ((with_reducible refine wpAppendKeep 1 HOW2.out Try.underlying22 one_byte HL2.out HO1.out HPK ?_ ?_); rfl; intro a2 c2 w2 g1 g2; have HLY2 : Hid (Lies w2 w2.heap.size ay (u8s (vals A X))) := Lib.hid (by obtain ⟨a', c', e, _, h⟩ := own_form2 g1; cases e; exact h); have LGW := Lib.hid (lies_far LG1.out g2 HFA.out HOB.out); have HU2 := Lib.hid (YB2.out.grown g2 YB2.out.size (fun j hj => by have := HOL.out j hj; have := HBU.out; omega)); clear g1 g2)
            | (go_at_call 9; (with_reducible refine (HF2.out w2 a2 c2).mono ?_); rintro e x2 ⟨rfl, rfl⟩)
            | (go_at_call 10; (with_reducible refine (HDGF.out w2 ag cg HCG.out LGW.out).mono ?_); rintro e x3 ⟨rfl, rfl⟩))
          · go_loopw [86] (fun i wr => ∃ k : Nat, k ≤ X.length ∧ i = .int .i64 k ∧ Below w2.heap.size w2 wr) (fun i _ => X.length - (intOf i).toNat)
            case atStart => exact ⟨0, Nat.zero_le _, rfl, Below.refl _ _⟩
            case round =>
              obtain ⟨k, hk, rfl, hbw⟩ := hrel
              by_cases hlt : k < X.length
              · have hk1 : (k : Int) < X.length := by omega
                obtain ⟨b2, off, rfl, hbb, hcl⟩ := HS.out (by rw [u8s_length]; omega)
                have hcell : wr.cell? ⟨b2, off + k, none⟩ = some (.int .u8 (sq X k : Int)) := ((B3.out.next (HU2.out.next hbw)).cell (p := ⟨b2, off + k, none⟩) hbb).trans (u8s_sq hcl k hlt)
                obtain ⟨gy, oy, rfl, hgy, hcy2⟩ := HLY2.out (by rw [u8s_length, vals_length]; omega)
                have hcell2 : wr.cell? ⟨gy, oy + k, none⟩ = some (.int .u8 (sq (vals A X) k : Int)) := (hbw.cell (p := ⟨gy, oy + k, none⟩) hgy).trans (u8s_sq hcy2 k (by rw [vals_length]; exact hlt))
                have hx8 := HX8.out.sq k
                have hfe := HFE.out k hlt
                obtain ⟨x, hx⟩ : ∃ x, sq X k = x := ⟨_, rfl⟩
                obtain ⟨y, hy⟩ : ∃ y, sq (vals A X) k = y := ⟨_, rfl⟩
                rw [hx] at hcell hx8 hfe
                rw [hy] at hcell2 hfe
                have HEV : Hid (∀ u : World, Below wr.heap.size wr u → Calls Try.prog 11 #[.pointer (some ⟨b, 0, none⟩), .slice ag F.length cg, .int .u8 (x : Int)] u fun e w' => e = .returned (.int .u8 (y : Int)) ∧ Below u.heap.size u w') := Lib.hid fun u hu => by
                  have h := eval_any b ag cg F x u (((F3.out.step HU2.out).step hbw).step hu) HF8.out hx8 (by have := HFL.out; have := HL60.out.2.1; omega) ((LGW.out.step hbw).step hu)
                  rwa [hfe] at h
                have HGY : Hid (gy < wr.heap.size) := Lib.hid (Nat.lt_of_lt_of_le hgy hbw.size)
                have HCY := Lib.hid hcell2
                have HX := Lib.hid hbw
                clear hcl hbb hcell2 hgy hcy2 hx8 hfe hx hy hbw
                go_wp2
                refine region_inv [(0, 91), (1, 92), (2, 93), (3, 94), (4, 95), (5, 96), (6, 97), (7, 98), (8, 99)]
                  (fun i => [Is (.pointer (some ⟨b, 0, none⟩)), Is (.slice ag F.length cg), Is (.int .u8 (x : Int)), Is (.int .u8 (y : Int)), Is (.slice (some ⟨gy, oy, none⟩) X.length cy), Is (.int .i64 (k : Int)), Is (.pointer (some ⟨gy, oy + k, none⟩)), Is (.int .u8 (y : Int)), Is (.bool false)].getD i (Is undef))
                  (fun w' => Below wr.heap.size wr w') (by kernel_rfl) (by kernel_rfl) (by decide) (by decide) (by kernel_rfl) rfl ?xmono ((Below.refl _ _).drew) ?xstep ?xfin
                case xmono =>
                  intro i
                  match i with
                  | 0 | 1 | 2 | 3 | 4 | 5 | 6 | 7 | 8 => exact Is.monot _
                  | _ + 9 => exact Is.monot _
                case xstep =>
                  refine List.forall_mem_cons.2 ⟨?xs0, List.forall_mem_cons.2 ⟨?xs1, List.forall_mem_cons.2 ⟨?xs2, List.forall_mem_cons.2 ⟨?xs3, List.forall_mem_cons.2 ⟨?xs4, List.forall_mem_cons.2 ⟨?xs5, List.forall_mem_cons.2 ⟨?xs6, List.forall_mem_cons.2 ⟨?xs7, List.forall_mem_cons.2 ⟨?xs8, List.forall_mem_nil _⟩⟩⟩⟩⟩⟩⟩⟩⟩
                  case xs3 =>
                    intro u wx hg hC
                    have hJ0 : u 0 = (.pointer (some ⟨b, 0, none⟩)) := hC.at 0 (by kernel_rfl)
                    have hJ1 : u 1 = (.slice ag F.length cg) := hC.at 1 (by kernel_rfl)
                    have hJ2 : u 2 = (.int .u8 (x : Int)) := hC.at 2 (by kernel_rfl)
                    clear hC
                    refine wpOp_step rfl (fun K hK => ?_)
                    simp only [puts, List.foldl]
                    go_simp
                    refine (HEV.out wx hg).mono ?_
                    rintro e w' ⟨rfl, hb'⟩
                    exact hK _ _ ⟨rfl, rfl, hg.next hb', hb'⟩
                  case xs6 =>
                    intro u wx hg hC
                    have hJ4 : u 4 = (.slice (some ⟨gy, oy, none⟩) X.length cy) := hC.at 4 (by kernel_rfl)
                    have hJ5 : u 5 = (.int .i64 (k : Int)) := hC.at 5 (by kernel_rfl)
                    clear hC
                    refine wpOp_step rfl (fun K hK => ?_)
                    simp only [puts, List.foldl]
                    go_simp
                    exact hK _ _ ⟨rfl, rfl, hg, Below.refl _ _⟩
                  case xs7 =>
                    intro u wx hg hC
                    have hJ : u 6 = (.pointer (some ⟨gy, oy + k, none⟩)) := hC.at 6 (by kernel_rfl)
                    clear hC
                    have hcl : wx.cell? ⟨gy, oy + k, none⟩ = some (.int .u8 (y : Int)) := (hg.cell (p := ⟨gy, oy + k, none⟩) HGY.out).trans HCY.out
                    refine wpOp_step rfl (fun K hK => ?_)
                    simp only [puts, List.foldl]
                    go_simp
                    exact hK _ _ ⟨rfl, rfl, hg, Below.refl _ _⟩
                  case xs8 =>
                    intro u wx hg hC
                    have hJ3 : u 3 = (.int .u8 (y : Int)) := hC.at 3 (by kernel_rfl)
                    have hJ7 : u 7 = (.int .u8 (y : Int)) := hC.at 7 (by kernel_rfl)
                    clear hC
                    refine wpOp_step rfl (fun K hK => ?_)
                    simp only [puts, List.foldl]
                    go_simp
                    exact hK _ _ ⟨rfl, rfl, hg, Below.refl _ _⟩
                  all_goals
                    intro u wx hg hC
                    clear hC
                    refine wpOp_step rfl (fun K hK => ?_)
                    simp only [puts, List.foldl]
                    go_simp
                    refine hK _ _ ?_
                    clear hK K
                    first
                      | (refine ⟨rfl, ?_, hg, Below.refl _ _⟩; rfl)
                      | (refine ⟨rfl, ?_, hg.alloc hg.size _, alloc_below _ _⟩; exact ⟨wx.heap.size, rfl, Lies.new [_] _ _⟩)
                      | (refine ⟨rfl, ?_, hg.alloc hg.size _, alloc_below _ _⟩; exact ⟨wx.heap.size, rfl, Lies.new [_, _] _ _⟩)
                case xfin =>
                  intro u w9 hbw9 hφ
                  have h8 : u 8 = .bool false := hφ (8, 99) (by decide)
                  clear hφ
                  simp only [puts, List.foldl]
                  go_simp
                  have B9 := Lib.hid hbw9
                  clear hbw9
                  go_wp2
                  go_roundw
                  case rel => exact ⟨k + 1, by omega, by go_num, HX.out.next B9.out⟩
                  case measure => first | (simp [intOf]; done) | (simp [intOf]; omega)
              · have HX := Lib.hid hbw
                have hHRA := (HR.out.step (B3.out.next (HU2.out.next hbw)))
                have hdg : ∀ u : World, Below wr.heap.size wr u → Calls Try.prog 10 #[.slice a A.length ca] u fun e w' => e = .returned (.int .i64 (((beh A).length : Int) - 1)) ∧ u = w' := fun u hu => degree_any a ca A u (by have := HL60.out.1; omega) HL60.out.2.2.1 (hHRA.step hu)
                have hbl := beh_length A
                have hbl60 : (beh A).length ≤ 60 := by have := HL60.out.1; omega
                by_cases hsh : (beh A).length ≤ X.length
                · have hFA : F = beh A := fit_unique HF8.out HA8.out HFC.out HFL.out hsh HX8.out rfl HND.out fun x hxm => by
                    obtain ⟨j, hj, e⟩ := List.mem_iff_getElem.1 hxm
                    have h1 := HFE.out j hj
                    rw [vals_sq A X j hj, sq_get X j hj, e] at h1
                    exact h1
                  have HTRM : Hid (∀ u : World, Below wr.heap.size wr u → Calls Try.prog 12 #[.slice a A.length ca] u fun e w' => (∃ v, e = .returned v ∧ Reads w' v F) ∧ Below u.heap.size u w') := Lib.hid fun u hu => by
                    have h := trim_any a ca A u (by have := HL60.out.1; omega) HL60.out.2.2.1 (hHRA.step hu)
                    rwa [← hFA] at h
                  have LGR := Lib.hid (LGW.out.step hbw)
                  have hcvu : ∀ (u : World) (aq : Option Addr) (cq : Nat), Lies u u.heap.size aq (u8s F) → (convert 22 9 (.slice aq F.length cq)).run Try.prog u = .ok (.string (str (u8l F))) u := fun u aq cq hl => conv_u8s HF8.out cq hl
                  obtain ⟨S, hS⟩ : ∃ S, str (u8l F) = S := ⟨_, rfl⟩
                  rw [hS] at hcvu
                  have HSS := Lib.hid hS
                  have HCV := Lib.hid hcvu
                  obtain ⟨d, hd⟩ : ∃ d, (beh A).length = d := ⟨_, rfl⟩
                  rw [hd] at hdg hsh hbl60
                  have HDGA := Lib.hid hdg
                  have hd1 : ¬ ((X.length : Int) ≤ (d : Int) - 1) := by omega
                  have hdd : decide ((X.length : Int) ≤ (d : Int) - 1) = false := decide_eq_false hd1
                  have hd2 : (d : Int) - 1 < (X.length : Int) := by omega
                  clear hbw hHRA hdg hbl hFA hcvu hS hd hsh
                  go_wp2
                  refine region_inv [(0, 101), (1, 102), (2, 103), (3, 104), (4, 105), (5, 106), (6, 107), (7, 108), (8, 109), (9, 110), (10, 111), (11, 112), (12, 113), (13, 4)]
                    (fun i => [Is (.slice a A.length ca), Is (.int .i64 ((d : Int) - 1)), Is (.slice c X.length cc), Is (.int .i64 ((X.length : Int))), Is (.bool false), Is (.bool false), Is (.slice ag F.length cg), Is (.string S), Is (.slice a A.length ca), RD F, Is (.string S), Is (.bool true), Is (.bool true), Is (.bool true)].getD i (Is undef))
                    (fun w' => Below wr.heap.size wr w') (by kernel_rfl) (by kernel_rfl) (by decide) (by decide) (by kernel_rfl) rfl ?monof ((Below.refl _ _).drew) ?stepf ?finf
                  case monof =>
                    intro i
                    match i with
                    | 0 | 1 | 2 | 3 | 4 | 5 | 6 | 7 | 8 | 10 | 11 | 12 | 13 => exact Is.monot _
                    | 9 => exact RD.monot _
                    | _ + 14 => exact Is.monot _
                  case stepf =>
                    refine List.forall_mem_cons.2 ⟨?fxs0, List.forall_mem_cons.2 ⟨?fxs1, List.forall_mem_cons.2 ⟨?fxs2, List.forall_mem_cons.2 ⟨?fxs3, List.forall_mem_cons.2 ⟨?fxs4, List.forall_mem_cons.2 ⟨?fxs5, List.forall_mem_cons.2 ⟨?fxs6, List.forall_mem_cons.2 ⟨?fxs7, List.forall_mem_cons.2 ⟨?fxs8, List.forall_mem_cons.2 ⟨?fxs9, List.forall_mem_cons.2 ⟨?fxs10, List.forall_mem_cons.2 ⟨?fxs11, List.forall_mem_cons.2 ⟨?fxs12, List.forall_mem_cons.2 ⟨?fxs13, List.forall_mem_nil _⟩⟩⟩⟩⟩⟩⟩⟩⟩⟩⟩⟩⟩⟩
                    case fxs1 =>
                      intro u wx hg hC
                      have hJ0 : u 0 = (.slice a A.length ca) := hC.at 0 (by kernel_rfl)
                      clear hC
                      refine wpOp_step rfl (fun K hK => ?_)
                      simp only [puts, List.foldl]
                      go_simp
                      refine (HDGA.out wx hg).mono ?_
                      rintro e w' ⟨rfl, rfl⟩
                      exact hK _ _ ⟨rfl, rfl, hg, Below.refl _ _⟩
                    case fxs3 =>
                      intro u wx hg hC
                      have hJ2 : u 2 = (.slice c X.length cc) := hC.at 2 (by kernel_rfl)
                      clear hC
                      refine wpOp_step rfl (fun K hK => ?_)
                      simp only [puts, List.foldl]
                      go_simp
                      exact hK _ _ ⟨rfl, rfl, hg, Below.refl _ _⟩
                    case fxs4 =>
                      intro u wx hg hC
                      have hJ1 : u 1 = (.int .i64 ((d : Int) - 1)) := hC.at 1 (by kernel_rfl)
                      have hJ3 : u 3 = (.int .i64 ((X.length : Int))) := hC.at 3 (by kernel_rfl)
                      clear hC
                      refine wpOp_step rfl (fun K hK => ?_)
                      simp only [puts, List.foldl]
                      go_simp
                      exact hK _ _ ⟨rfl, rfl, hg, Below.refl _ _⟩
                    case fxs5 =>
                      intro u wx hg hC
                      have hJ4 : u 4 = (.bool false) := hC.at 4 (by kernel_rfl)
                      clear hC
                      refine wpOp_step rfl (fun K hK => ?_)
                      simp only [puts, List.foldl]
                      go_simp
                      exact hK _ _ ⟨rfl, rfl, hg, Below.refl _ _⟩
                    case fxs6 =>
                      intro u wx hg hC
                      have hJ5 : u 5 = (.bool false) := hC.at 5 (by kernel_rfl)
                      clear hC
                      generalize hAq : puts [(0, 101), (1, 102), (2, 103), (3, 104), (4, 105), (5, 106), (6, 107), (7, 108), (8, 109), (9, 110), (10, 111), (11, 112), (12, 113), (13, 4)] _ u = Aq
                      have hgv : Aq.tmps.getD 106 undef = .bool false := by rw [← hAq]; exact (puts_get u 5 106 _ _ (by decide) (by decide) (by kernel_rfl)).trans hJ5
                      have hgs : 106 < Aq.tmps.size := by rw [← hAq]; exact puts_room u (by kernel_rfl)
                      refine wpOp_guard rfl 5 106 false rfl rfl hgs hgv (fun K hK => ?_)
                      subst hAq
                      simp only [puts, List.foldl]
                      go_simp
                      exact hK _ _ ⟨rfl, rfl, hg, Below.refl _ _⟩
                    case fxs7 =>
                      intro u wx hg hC
                      have hJ6 : u 6 = (.slice ag F.length cg) := hC.at 6 (by kernel_rfl)
                      have hJ5 : u 5 = (.bool false) := hC.at 5 (by kernel_rfl)
                      clear hC
                      have hcv := HCV.out wx ag cg (LGR.out.step hg)
                      generalize hAq : puts [(0, 101), (1, 102), (2, 103), (3, 104), (4, 105), (5, 106), (6, 107), (7, 108), (8, 109), (9, 110), (10, 111), (11, 112), (12, 113), (13, 4)] _ u = Aq
                      have hgv : Aq.tmps.getD 106 undef = .bool false := by rw [← hAq]; exact (puts_get u 5 106 _ _ (by decide) (by decide) (by kernel_rfl)).trans hJ5
                      have hgs : 106 < Aq.tmps.size := by rw [← hAq]; exact puts_room u (by kernel_rfl)
                      refine wpOp_guard rfl 5 106 false rfl rfl hgs hgv (fun K hK => ?_)
                      subst hAq
                      simp only [puts, List.foldl]
                      go_simp
                      exact hK _ _ ⟨rfl, rfl, hg, Below.refl _ _⟩
                    case fxs8 =>
                      intro u wx hg hC
                      have hJ5 : u 5 = (.bool false) := hC.at 5 (by kernel_rfl)
                      clear hC
                      generalize hAq : puts [(0, 101), (1, 102), (2, 103), (3, 104), (4, 105), (5, 106), (6, 107), (7, 108), (8, 109), (9, 110), (10, 111), (11, 112), (12, 113), (13, 4)] _ u = Aq
                      have hgv : Aq.tmps.getD 106 undef = .bool false := by rw [← hAq]; exact (puts_get u 5 106 _ _ (by decide) (by decide) (by kernel_rfl)).trans hJ5
                      have hgs : 106 < Aq.tmps.size := by rw [← hAq]; exact puts_room u (by kernel_rfl)
                      refine wpOp_guard rfl 5 106 false rfl rfl hgs hgv (fun K hK => ?_)
                      subst hAq
                      simp only [puts, List.foldl]
                      go_simp
                      exact hK _ _ ⟨rfl, rfl, hg, Below.refl _ _⟩
                    case fxs9 =>
                      intro u wx hg hC
                      have hJ8 : u 8 = (.slice a A.length ca) := hC.at 8 (by kernel_rfl)
                      have hJ5 : u 5 = (.bool false) := hC.at 5 (by kernel_rfl)
                      clear hC
                      generalize hAq : puts [(0, 101), (1, 102), (2, 103), (3, 104), (4, 105), (5, 106), (6, 107), (7, 108), (8, 109), (9, 110), (10, 111), (11, 112), (12, 113), (13, 4)] _ u = Aq
                      have hgv : Aq.tmps.getD 106 undef = .bool false := by rw [← hAq]; exact (puts_get u 5 106 _ _ (by decide) (by decide) (by kernel_rfl)).trans hJ5
                      have hgs : 106 < Aq.tmps.size := by rw [← hAq]; exact puts_room u (by kernel_rfl)
                      refine wpOp_guard rfl 5 106 false rfl rfl hgs hgv (fun K hK => ?_)
                      subst hAq
                      simp only [puts, List.foldl]
                      go_simp
                      refine (HTRM.out wx hg).mono ?_
                      rintro e w' ⟨⟨v, rfl, hv⟩, hb'⟩
                      exact hK _ _ ⟨rfl, hv, hg.next hb', hb'⟩
                    case fxs10 =>
                      intro u wx hg hC
                      have hJ5 : u 5 = (.bool false) := hC.at 5 (by kernel_rfl)
                      have hJ9 : RD F (u 9) wx := hC.at 9 (by kernel_rfl)
                      clear hC
                      have hcv := conv_rd (w := wx) HF8.out hJ9
                      rw [HSS.out] at hcv
                      generalize hAq : puts [(0, 101), (1, 102), (2, 103), (3, 104), (4, 105), (5, 106), (6, 107), (7, 108), (8, 109), (9, 110), (10, 111), (11, 112), (12, 113), (13, 4)] _ u = Aq
                      have hgv : Aq.tmps.getD 106 undef = .bool false := by rw [← hAq]; exact (puts_get u 5 106 _ _ (by decide) (by decide) (by kernel_rfl)).trans hJ5
                      have hgs : 106 < Aq.tmps.size := by rw [← hAq]; exact puts_room u (by kernel_rfl)
                      refine wpOp_guard rfl 5 106 false rfl rfl hgs hgv (fun K hK => ?_)
                      subst hAq
                      simp only [puts, List.foldl]
                      go_simp
                      exact hK _ _ ⟨rfl, rfl, hg, Below.refl _ _⟩
                    case fxs11 =>
                      intro u wx hg hC
                      have hJ5 : u 5 = (.bool false) := hC.at 5 (by kernel_rfl)
                      have hJ7 : u 7 = (.string S) := hC.at 7 (by kernel_rfl)
                      have hJ10 : u 10 = (.string S) := hC.at 10 (by kernel_rfl)
                      clear hC
                      generalize hAq : puts [(0, 101), (1, 102), (2, 103), (3, 104), (4, 105), (5, 106), (6, 107), (7, 108), (8, 109), (9, 110), (10, 111), (11, 112), (12, 113), (13, 4)] _ u = Aq
                      have hgv : Aq.tmps.getD 106 undef = .bool false := by rw [← hAq]; exact (puts_get u 5 106 _ _ (by decide) (by decide) (by kernel_rfl)).trans hJ5
                      have hgs : 106 < Aq.tmps.size := by rw [← hAq]; exact puts_room u (by kernel_rfl)
                      refine wpOp_guard rfl 5 106 false rfl rfl hgs hgv (fun K hK => ?_)
                      subst hAq
                      simp only [puts, List.foldl]
                      go_simp
                      exact hK _ _ ⟨rfl, rfl, hg, Below.refl _ _⟩
                    case fxs12 =>
                      intro u wx hg hC
                      have hJ5 : u 5 = (.bool false) := hC.at 5 (by kernel_rfl)
                      have hJ11 : u 11 = (.bool true) := hC.at 11 (by kernel_rfl)
                      clear hC
                      refine wpOp_step rfl (fun K hK => ?_)
                      simp only [puts, List.foldl]
                      go_simp
                      exact hK _ _ ⟨rfl, rfl, hg, Below.refl _ _⟩
                    case fxs13 =>
                      intro u wx hg hC
                      have hJ12 : u 12 = (.bool true) := hC.at 12 (by kernel_rfl)
                      clear hC
                      refine wpOp_step rfl (fun K hK => ?_)
                      simp only [puts, List.foldl]
                      go_simp
                      exact hK _ _ ⟨rfl, rfl, hg, Below.refl _ _⟩
                    all_goals
                      intro u wx hg hC
                      clear hC
                      refine wpOp_step rfl (fun K hK => ?_)
                      simp only [puts, List.foldl]
                      go_simp
                      refine hK _ _ ?_
                      clear hK K
                      first
                        | (refine ⟨rfl, ?_, hg, Below.refl _ _⟩; rfl)
                        | (refine ⟨rfl, ?_, hg.alloc hg.size _, alloc_below _ _⟩; exact ⟨wx.heap.size, rfl, Lies.new [_] _ _⟩)
                        | (refine ⟨rfl, ?_, hg.alloc hg.size _, alloc_below _ _⟩; exact ⟨wx.heap.size, rfl, Lies.new [_, _] _ _⟩)
                  case finf =>
                    intro u w9 hbw9 hφ
                    have h13 : u 13 = .bool true := hφ (13, 4) (by decide)
                    clear hφ
                    simp only [puts, List.foldl]
                    go_simp
                    have B9 := Lib.hid hbw9
                    clear hbw9
                    go_wp2
                    go_ret
                    exact ⟨rfl, B3.out.next (HU2.out.next (HX.out.next B9.out))⟩
                · obtain ⟨d, hd⟩ : ∃ d, (beh A).length = d := ⟨_, rfl⟩
                  rw [hd] at hdg hsh hbl60
                  have HDGA := Lib.hid hdg
                  have hd1 : (X.length : Int) ≤ (d : Int) - 1 := by omega
                  have hd2 : ¬ (d : Int) - 1 < (X.length : Int) := by omega
                  have HDQ : Hid (∀ q, Calls Try.prog 10 #[.slice a A.length ca] (wr.drewN q) fun e w' => e = .returned (.int .i64 ((d : Int) - 1)) ∧ w' = wr.drewN q) := Lib.hid fun q => (hdg (wr.drewN q) ((Below.refl _ _).drewN q)).mono fun _ _ h => ⟨h.1, h.2.symm⟩
                  clear hbw hHRA hdg hbl hd hsh HDGA
                  go_wp2
                  go_quiet ((go_at_call 10; exact Calls.quiet_of_same (HDQ.out _)))
                  go_wp2
                  go_ret
                  exact ⟨rfl, B3.out.next (HU2.out.next (HX.out.drewN _))⟩
          · go_loopw [86] (fun i wr => ∃ k : Nat, k ≤ X.length ∧ i = .int .i64 k ∧ Below w2.heap.size w2 wr) (fun i _ => X.length - (intOf i).toNat)
            case atStart => exact ⟨0, Nat.zero_le _, rfl, Below.refl _ _⟩
            case round =>
              obtain ⟨k, hk, rfl, hbw⟩ := hrel
              by_cases hlt : k < X.length
              · have hk1 : (k : Int) < X.length := by omega
                obtain ⟨b2, off, rfl, hbb, hcl⟩ := HS.out (by rw [u8s_length]; omega)
                have hcell : wr.cell? ⟨b2, off + k, none⟩ = some (.int .u8 (sq X k : Int)) := ((B3.out.next (HU2.out.next hbw)).cell (p := ⟨b2, off + k, none⟩) hbb).trans (u8s_sq hcl k hlt)
                obtain ⟨gy, oy, rfl, hgy, hcy2⟩ := HLY2.out (by rw [u8s_length, vals_length]; omega)
                have hcell2 : wr.cell? ⟨gy, oy + k, none⟩ = some (.int .u8 (sq (vals A X) k : Int)) := (hbw.cell (p := ⟨gy, oy + k, none⟩) hgy).trans (u8s_sq hcy2 k (by rw [vals_length]; exact hlt))
                have hx8 := HX8.out.sq k
                have hfe := HFE.out k hlt
                obtain ⟨x, hx⟩ : ∃ x, sq X k = x := ⟨_, rfl⟩
                obtain ⟨y, hy⟩ : ∃ y, sq (vals A X) k = y := ⟨_, rfl⟩
                rw [hx] at hcell hx8 hfe
                rw [hy] at hcell2 hfe
                have HEV : Hid (∀ u : World, Below wr.heap.size wr u → Calls Try.prog 11 #[.pointer (some ⟨b, 0, none⟩), .slice ag F.length cg, .int .u8 (x : Int)] u fun e w' => e = .returned (.int .u8 (y : Int)) ∧ Below u.heap.size u w') := Lib.hid fun u hu => by
                  have h := eval_any b ag cg F x u (((F3.out.step HU2.out).step hbw).step hu) HF8.out hx8 (by have := HFL.out; have := HL60.out.2.1; omega) ((LGW.out.step hbw).step hu)
                  rwa [hfe] at h
                have HGY : Hid (gy < wr.heap.size) := Lib.hid (Nat.lt_of_lt_of_le hgy hbw.size)
                have HCY := Lib.hid hcell2
                have HX := Lib.hid hbw
                clear hcl hbb hcell2 hgy hcy2 hx8 hfe hx hy hbw
                go_wp2
                refine region_inv [(0, 91), (1, 92), (2, 93), (3, 94), (4, 95), (5, 96), (6, 97), (7, 98), (8, 99)]
                  (fun i => [Is (.pointer (some ⟨b, 0, none⟩)), Is (.slice ag F.length cg), Is (.int .u8 (x : Int)), Is (.int .u8 (y : Int)), Is (.slice (some ⟨gy, oy, none⟩) X.length cy), Is (.int .i64 (k : Int)), Is (.pointer (some ⟨gy, oy + k, none⟩)), Is (.int .u8 (y : Int)), Is (.bool false)].getD i (Is undef))
                  (fun w' => Below wr.heap.size wr w') (by kernel_rfl) (by kernel_rfl) (by decide) (by decide) (by kernel_rfl) rfl ?ymono ((Below.refl _ _).drew) ?ystep ?yfin
                case ymono =>
                  intro i
                  match i with
                  | 0 | 1 | 2 | 3 | 4 | 5 | 6 | 7 | 8 => exact Is.monot _
                  | _ + 9 => exact Is.monot _
                case ystep =>
                  refine List.forall_mem_cons.2 ⟨?ys0, List.forall_mem_cons.2 ⟨?ys1, List.forall_mem_cons.2 ⟨?ys2, List.forall_mem_cons.2 ⟨?ys3, List.forall_mem_cons.2 ⟨?ys4, List.forall_mem_cons.2 ⟨?ys5, List.forall_mem_cons.2 ⟨?ys6, List.forall_mem_cons.2 ⟨?ys7, List.forall_mem_cons.2 ⟨?ys8, List.forall_mem_nil _⟩⟩⟩⟩⟩⟩⟩⟩⟩
                  case ys3 =>
                    intro u wx hg hC
                    have hJ0 : u 0 = (.pointer (some ⟨b, 0, none⟩)) := hC.at 0 (by kernel_rfl)
                    have hJ1 : u 1 = (.slice ag F.length cg) := hC.at 1 (by kernel_rfl)
                    have hJ2 : u 2 = (.int .u8 (x : Int)) := hC.at 2 (by kernel_rfl)
                    clear hC
                    refine wpOp_step rfl (fun K hK => ?_)
                    simp only [puts, List.foldl]
                    go_simp
                    refine (HEV.out wx hg).mono ?_
                    rintro e w' ⟨rfl, hb'⟩
                    exact hK _ _ ⟨rfl, rfl, hg.next hb', hb'⟩
                  case ys6 =>
                    intro u wx hg hC
                    have hJ4 : u 4 = (.slice (some ⟨gy, oy, none⟩) X.length cy) := hC.at 4 (by kernel_rfl)
                    have hJ5 : u 5 = (.int .i64 (k : Int)) := hC.at 5 (by kernel_rfl)
                    clear hC
                    refine wpOp_step rfl (fun K hK => ?_)
                    simp only [puts, List.foldl]
                    go_simp
                    exact hK _ _ ⟨rfl, rfl, hg, Below.refl _ _⟩
                  case ys7 =>
                    intro u wx hg hC
                    have hJ : u 6 = (.pointer (some ⟨gy, oy + k, none⟩)) := hC.at 6 (by kernel_rfl)
                    clear hC
                    have hcl : wx.cell? ⟨gy, oy + k, none⟩ = some (.int .u8 (y : Int)) := (hg.cell (p := ⟨gy, oy + k, none⟩) HGY.out).trans HCY.out
                    refine wpOp_step rfl (fun K hK => ?_)
                    simp only [puts, List.foldl]
                    go_simp
                    exact hK _ _ ⟨rfl, rfl, hg, Below.refl _ _⟩
                  case ys8 =>
                    intro u wx hg hC
                    have hJ3 : u 3 = (.int .u8 (y : Int)) := hC.at 3 (by kernel_rfl)
                    have hJ7 : u 7 = (.int .u8 (y : Int)) := hC.at 7 (by kernel_rfl)
                    clear hC
                    refine wpOp_step rfl (fun K hK => ?_)
                    simp only [puts, List.foldl]
                    go_simp
                    exact hK _ _ ⟨rfl, rfl, hg, Below.refl _ _⟩
                  all_goals
                    intro u wx hg hC
                    clear hC
                    refine wpOp_step rfl (fun K hK => ?_)
                    simp only [puts, List.foldl]
                    go_simp
                    refine hK _ _ ?_
                    clear hK K
                    first
                      | (refine ⟨rfl, ?_, hg, Below.refl _ _⟩; rfl)
                      | (refine ⟨rfl, ?_, hg.alloc hg.size _, alloc_below _ _⟩; exact ⟨wx.heap.size, rfl, Lies.new [_] _ _⟩)
                      | (refine ⟨rfl, ?_, hg.alloc hg.size _, alloc_below _ _⟩; exact ⟨wx.heap.size, rfl, Lies.new [_, _] _ _⟩)
                case yfin =>
                  intro u w9 hbw9 hφ
                  have h8 : u 8 = .bool false := hφ (8, 99) (by decide)
                  clear hφ
                  simp only [puts, List.foldl]
                  go_simp
                  have B9 := Lib.hid hbw9
                  clear hbw9
                  go_wp2
                  go_roundw
                  case rel => exact ⟨k + 1, by omega, by go_num, HX.out.next B9.out⟩
                  case measure => first | (simp [intOf]; done) | (simp [intOf]; omega)
              · have HX := Lib.hid hbw
                have hHRA := (HR.out.step (B3.out.next (HU2.out.next hbw)))
                have hdg : ∀ u : World, Below wr.heap.size wr u → Calls Try.prog 10 #[.slice a A.length ca] u fun e w' => e = .returned (.int .i64 (((beh A).length : Int) - 1)) ∧ u = w' := fun u hu => degree_any a ca A u (by have := HL60.out.1; omega) HL60.out.2.2.1 (hHRA.step hu)
                have hbl := beh_length A
                have hbl60 : (beh A).length ≤ 60 := by have := HL60.out.1; omega
                by_cases hsh : (beh A).length ≤ X.length
                · have hFA : F = beh A := fit_unique HF8.out HA8.out HFC.out HFL.out hsh HX8.out rfl HND.out fun x hxm => by
                    obtain ⟨j, hj, e⟩ := List.mem_iff_getElem.1 hxm
                    have h1 := HFE.out j hj
                    rw [vals_sq A X j hj, sq_get X j hj, e] at h1
                    exact h1
                  have HTRM : Hid (∀ u : World, Below wr.heap.size wr u → Calls Try.prog 12 #[.slice a A.length ca] u fun e w' => (∃ v, e = .returned v ∧ Reads w' v F) ∧ Below u.heap.size u w') := Lib.hid fun u hu => by
                    have h := trim_any a ca A u (by have := HL60.out.1; omega) HL60.out.2.2.1 (hHRA.step hu)
                    rwa [← hFA] at h
                  have LGR := Lib.hid (LGW.out.step hbw)
                  have hcvu : ∀ (u : World) (aq : Option Addr) (cq : Nat), Lies u u.heap.size aq (u8s F) → (convert 22 9 (.slice aq F.length cq)).run Try.prog u = .ok (.string (str (u8l F))) u := fun u aq cq hl => conv_u8s HF8.out cq hl
                  obtain ⟨S, hS⟩ : ∃ S, str (u8l F) = S := ⟨_, rfl⟩
                  rw [hS] at hcvu
                  have HSS := Lib.hid hS
                  have HCV := Lib.hid hcvu
                  obtain ⟨d, hd⟩ : ∃ d, (beh A).length = d := ⟨_, rfl⟩
                  rw [hd] at hdg hsh hbl60
                  have HDGA := Lib.hid hdg
                  have hd1 : ¬ ((X.length : Int) ≤ (d : Int) - 1) := by omega
                  have hdd : decide ((X.length : Int) ≤ (d : Int) - 1) = false := decide_eq_false hd1
                  have hd2 : (d : Int) - 1 < (X.length : Int) := by omega
                  clear hbw hHRA hdg hbl hFA hcvu hS hd hsh
                  go_wp2
                  refine region_inv [(0, 101), (1, 102), (2, 103), (3, 104), (4, 105), (5, 106), (6, 107), (7, 108), (8, 109), (9, 110), (10, 111), (11, 112), (12, 113), (13, 4)]
                    (fun i => [Is (.slice a A.length ca), Is (.int .i64 ((d : Int) - 1)), Is (.slice c X.length cc), Is (.int .i64 ((X.length : Int))), Is (.bool false), Is (.bool false), Is (.slice ag F.length cg), Is (.string S), Is (.slice a A.length ca), RD F, Is (.string S), Is (.bool true), Is (.bool true), Is (.bool true)].getD i (Is undef))
                    (fun w' => Below wr.heap.size wr w') (by kernel_rfl) (by kernel_rfl) (by decide) (by decide) (by kernel_rfl) rfl ?monof ((Below.refl _ _).drew) ?stepf ?finf
                  case monof =>
                    intro i
                    match i with
                    | 0 | 1 | 2 | 3 | 4 | 5 | 6 | 7 | 8 | 10 | 11 | 12 | 13 => exact Is.monot _
                    | 9 => exact RD.monot _
                    | _ + 14 => exact Is.monot _
                  case stepf =>
                    refine List.forall_mem_cons.2 ⟨?fys0, List.forall_mem_cons.2 ⟨?fys1, List.forall_mem_cons.2 ⟨?fys2, List.forall_mem_cons.2 ⟨?fys3, List.forall_mem_cons.2 ⟨?fys4, List.forall_mem_cons.2 ⟨?fys5, List.forall_mem_cons.2 ⟨?fys6, List.forall_mem_cons.2 ⟨?fys7, List.forall_mem_cons.2 ⟨?fys8, List.forall_mem_cons.2 ⟨?fys9, List.forall_mem_cons.2 ⟨?fys10, List.forall_mem_cons.2 ⟨?fys11, List.forall_mem_cons.2 ⟨?fys12, List.forall_mem_cons.2 ⟨?fys13, List.forall_mem_nil _⟩⟩⟩⟩⟩⟩⟩⟩⟩⟩⟩⟩⟩⟩
                    case fys1 =>
                      intro u wx hg hC
                      have hJ0 : u 0 = (.slice a A.length ca) := hC.at 0 (by kernel_rfl)
                      clear hC
                      refine wpOp_step rfl (fun K hK => ?_)
                      simp only [puts, List.foldl]
                      go_simp
                      refine (HDGA.out wx hg).mono ?_
                      rintro e w' ⟨rfl, rfl⟩
                      exact hK _ _ ⟨rfl, rfl, hg, Below.refl _ _⟩
                    case fys3 =>
                      intro u wx hg hC
                      have hJ2 : u 2 = (.slice c X.length cc) := hC.at 2 (by kernel_rfl)
                      clear hC
                      refine wpOp_step rfl (fun K hK => ?_)
                      simp only [puts, List.foldl]
                      go_simp
                      exact hK _ _ ⟨rfl, rfl, hg, Below.refl _ _⟩
                    case fys4 =>
                      intro u wx hg hC
                      have hJ1 : u 1 = (.int .i64 ((d : Int) - 1)) := hC.at 1 (by kernel_rfl)
                      have hJ3 : u 3 = (.int .i64 ((X.length : Int))) := hC.at 3 (by kernel_rfl)
                      clear hC
                      refine wpOp_step rfl (fun K hK => ?_)
                      simp only [puts, List.foldl]
                      go_simp
                      exact hK _ _ ⟨rfl, rfl, hg, Below.refl _ _⟩
                    case fys5 =>
                      intro u wx hg hC
                      have hJ4 : u 4 = (.bool false) := hC.at 4 (by kernel_rfl)
                      clear hC
                      refine wpOp_step rfl (fun K hK => ?_)
                      simp only [puts, List.foldl]
                      go_simp
                      exact hK _ _ ⟨rfl, rfl, hg, Below.refl _ _⟩
                    case fys6 =>
                      intro u wx hg hC
                      have hJ5 : u 5 = (.bool false) := hC.at 5 (by kernel_rfl)
                      clear hC
                      generalize hAq : puts [(0, 101), (1, 102), (2, 103), (3, 104), (4, 105), (5, 106), (6, 107), (7, 108), (8, 109), (9, 110), (10, 111), (11, 112), (12, 113), (13, 4)] _ u = Aq
                      have hgv : Aq.tmps.getD 106 undef = .bool false := by rw [← hAq]; exact (puts_get u 5 106 _ _ (by decide) (by decide) (by kernel_rfl)).trans hJ5
                      have hgs : 106 < Aq.tmps.size := by rw [← hAq]; exact puts_room u (by kernel_rfl)
                      refine wpOp_guard rfl 5 106 false rfl rfl hgs hgv (fun K hK => ?_)
                      subst hAq
                      simp only [puts, List.foldl]
                      go_simp
                      exact hK _ _ ⟨rfl, rfl, hg, Below.refl _ _⟩
                    case fys7 =>
                      intro u wx hg hC
                      have hJ6 : u 6 = (.slice ag F.length cg) := hC.at 6 (by kernel_rfl)
                      have hJ5 : u 5 = (.bool false) := hC.at 5 (by kernel_rfl)
                      clear hC
                      have hcv := HCV.out wx ag cg (LGR.out.step hg)
                      generalize hAq : puts [(0, 101), (1, 102), (2, 103), (3, 104), (4, 105), (5, 106), (6, 107), (7, 108), (8, 109), (9, 110), (10, 111), (11, 112), (12, 113), (13, 4)] _ u = Aq
                      have hgv : Aq.tmps.getD 106 undef = .bool false := by rw [← hAq]; exact (puts_get u 5 106 _ _ (by decide) (by decide) (by kernel_rfl)).trans hJ5
                      have hgs : 106 < Aq.tmps.size := by rw [← hAq]; exact puts_room u (by kernel_rfl)
                      refine wpOp_guard rfl 5 106 false rfl rfl hgs hgv (fun K hK => ?_)
                      subst hAq
                      simp only [puts, List.foldl]
                      go_simp
                      exact hK _ _ ⟨rfl, rfl, hg, Below.refl _ _⟩
                    case fys8 =>
                      intro u wx hg hC
                      have hJ5 : u 5 = (.bool false) := hC.at 5 (by kernel_rfl)
                      clear hC
                      generalize hAq : puts [(0, 101), (1, 102), (2, 103), (3, 104), (4, 105), (5, 106), (6, 107), (7, 108), (8, 109), (9, 110), (10, 111), (11, 112), (12, 113), (13, 4)] _ u = Aq
                      have hgv : Aq.tmps.getD 106 undef = .bool false := by rw [← hAq]; exact (puts_get u 5 106 _ _ (by decide) (by decide) (by kernel_rfl)).trans hJ5
                      have hgs : 106 < Aq.tmps.size := by rw [← hAq]; exact puts_room u (by kernel_rfl)
                      refine wpOp_guard rfl 5 106 false rfl rfl hgs hgv (fun K hK => ?_)
                      subst hAq
                      simp only [puts, List.foldl]
                      go_simp
                      exact hK _ _ ⟨rfl, rfl, hg, Below.refl _ _⟩
                    case fys9 =>
                      intro u wx hg hC
                      have hJ8 : u 8 = (.slice a A.length ca) := hC.at 8 (by kernel_rfl)
                      have hJ5 : u 5 = (.bool false) := hC.at 5 (by kernel_rfl)
                      clear hC
                      generalize hAq : puts [(0, 101), (1, 102), (2, 103), (3, 104), (4, 105), (5, 106), (6, 107), (7, 108), (8, 109), (9, 110), (10, 111), (11, 112), (12, 113), (13, 4)] _ u = Aq
                      have hgv : Aq.tmps.getD 106 undef = .bool false := by rw [← hAq]; exact (puts_get u 5 106 _ _ (by decide) (by decide) (by kernel_rfl)).trans hJ5
                      have hgs : 106 < Aq.tmps.size := by rw [← hAq]; exact puts_room u (by kernel_rfl)
                      refine wpOp_guard rfl 5 106 false rfl rfl hgs hgv (fun K hK => ?_)
                      subst hAq
                      simp only [puts, List.foldl]
                      go_simp
                      refine (HTRM.out wx hg).mono ?_
                      rintro e w' ⟨⟨v, rfl, hv⟩, hb'⟩
                      exact hK _ _ ⟨rfl, hv, hg.next hb', hb'⟩
                    case fys10 =>
                      intro u wx hg hC
                      have hJ5 : u 5 = (.bool false) := hC.at 5 (by kernel_rfl)
                      have hJ9 : RD F (u 9) wx := hC.at 9 (by kernel_rfl)
                      clear hC
                      have hcv := conv_rd (w := wx) HF8.out hJ9
                      rw [HSS.out] at hcv
                      generalize hAq : puts [(0, 101), (1, 102), (2, 103), (3, 104), (4, 105), (5, 106), (6, 107), (7, 108), (8, 109), (9, 110), (10, 111), (11, 112), (12, 113), (13, 4)] _ u = Aq
                      have hgv : Aq.tmps.getD 106 undef = .bool false := by rw [← hAq]; exact (puts_get u 5 106 _ _ (by decide) (by decide) (by kernel_rfl)).trans hJ5
                      have hgs : 106 < Aq.tmps.size := by rw [← hAq]; exact puts_room u (by kernel_rfl)
                      refine wpOp_guard rfl 5 106 false rfl rfl hgs hgv (fun K hK => ?_)
                      subst hAq
                      simp only [puts, List.foldl]
                      go_simp
                      exact hK _ _ ⟨rfl, rfl, hg, Below.refl _ _⟩
                    case fys11 =>
                      intro u wx hg hC
                      have hJ5 : u 5 = (.bool false) := hC.at 5 (by kernel_rfl)
                      have hJ7 : u 7 = (.string S) := hC.at 7 (by kernel_rfl)
                      have hJ10 : u 10 = (.string S) := hC.at 10 (by kernel_rfl)
                      clear hC
                      generalize hAq : puts [(0, 101), (1, 102), (2, 103), (3, 104), (4, 105), (5, 106), (6, 107), (7, 108), (8, 109), (9, 110), (10, 111), (11, 112), (12, 113), (13, 4)] _ u = Aq
                      have hgv : Aq.tmps.getD 106 undef = .bool false := by rw [← hAq]; exact (puts_get u 5 106 _ _ (by decide) (by decide) (by kernel_rfl)).trans hJ5
                      have hgs : 106 < Aq.tmps.size := by rw [← hAq]; exact puts_room u (by kernel_rfl)
                      refine wpOp_guard rfl 5 106 false rfl rfl hgs hgv (fun K hK => ?_)
                      subst hAq
                      simp only [puts, List.foldl]
                      go_simp
                      exact hK _ _ ⟨rfl, rfl, hg, Below.refl _ _⟩
                    case fys12 =>
                      intro u wx hg hC
                      have hJ5 : u 5 = (.bool false) := hC.at 5 (by kernel_rfl)
                      have hJ11 : u 11 = (.bool true) := hC.at 11 (by kernel_rfl)
                      clear hC
                      refine wpOp_step rfl (fun K hK => ?_)
                      simp only [puts, List.foldl]
                      go_simp
                      exact hK _ _ ⟨rfl, rfl, hg, Below.refl _ _⟩
                    case fys13 =>
                      intro u wx hg hC
                      have hJ12 : u 12 = (.bool true) := hC.at 12 (by kernel_rfl)
                      clear hC
                      refine wpOp_step rfl (fun K hK => ?_)
                      simp only [puts, List.foldl]
                      go_simp
                      exact hK _ _ ⟨rfl, rfl, hg, Below.refl _ _⟩
                    all_goals
                      intro u wx hg hC
                      clear hC
                      refine wpOp_step rfl (fun K hK => ?_)
                      simp only [puts, List.foldl]
                      go_simp
                      refine hK _ _ ?_
                      clear hK K
                      first
                        | (refine ⟨rfl, ?_, hg, Below.refl _ _⟩; rfl)
                        | (refine ⟨rfl, ?_, hg.alloc hg.size _, alloc_below _ _⟩; exact ⟨wx.heap.size, rfl, Lies.new [_] _ _⟩)
                        | (refine ⟨rfl, ?_, hg.alloc hg.size _, alloc_below _ _⟩; exact ⟨wx.heap.size, rfl, Lies.new [_, _] _ _⟩)
                  case finf =>
                    intro u w9 hbw9 hφ
                    have h13 : u 13 = .bool true := hφ (13, 4) (by decide)
                    clear hφ
                    simp only [puts, List.foldl]
                    go_simp
                    have B9 := Lib.hid hbw9
                    clear hbw9
                    go_wp2
                    go_ret
                    exact ⟨rfl, B3.out.next (HU2.out.next (HX.out.next B9.out))⟩
                · obtain ⟨d, hd⟩ : ∃ d, (beh A).length = d := ⟨_, rfl⟩
                  rw [hd] at hdg hsh hbl60
                  have HDGA := Lib.hid hdg
                  have hd1 : (X.length : Int) ≤ (d : Int) - 1 := by omega
                  have hd2 : ¬ (d : Int) - 1 < (X.length : Int) := by omega
                  have HDQ : Hid (∀ q, Calls Try.prog 10 #[.slice a A.length ca] (wr.drewN q) fun e w' => e = .returned (.int .i64 ((d : Int) - 1)) ∧ w' = wr.drewN q) := Lib.hid fun q => (hdg (wr.drewN q) ((Below.refl _ _).drewN q)).mono fun _ _ h => ⟨h.1, h.2.symm⟩
                  clear hbw hHRA hdg hbl hd hsh HDGA
                  go_wp2
                  go_quiet ((go_at_call 10; exact Calls.quiet_of_same (HDQ.out _)))
                  go_wp2
                  go_ret
                  exact ⟨rfl, B3.out.next (HU2.out.next (HX.out.drewN _))⟩
        · have ho : ¬ Once X X.length := fun h => hnd (hon.1 h)
          have htw : twB X = true := by unfold twB; simp [hnd]
          have HFIB : Hid (Calls Try.prog 9 #[.pointer (some ⟨b, 0, none⟩), .slice c X.length cc, .slice ay X.length cy] wr fun e w' => e = .returned (.tuple #[.slice none 0 0, .bool false]) ∧ Below wr.heap.size wr w') := Lib.hid (hFIT.mono fun e w' h => ⟨by rcases h.1 with h2 | h2; exact absurd h2.1 ho; exact h2.2, h.2⟩)
          rw [htw]
          clear hFIT hown hly hbw hse hsz hcy hvl hv8 hon hnd ho htw ek hlt hk
          go_wp2_with (first
            | (go_at_call 9; (with_reducible refine HFIB.out.mono ?_); rintro e x1 ⟨rfl, y1⟩; have Y1 := Lib.hid y1; have HOW2 := Lib.hid ((own_below HOWN.out y1).alloc (.cells #[.int .u8 1] 5)); have HL2 : Hid (Lies (x1.alloc (.cells #[.int .u8 1] 5)) (x1.alloc (.cells #[.int .u8 1] 5)).heap.size (some ⟨x1.heap.size, 0, none⟩) [.int .u8 1]) := Lib.hid (Lies.new [_] _ _); have YB2 := Lib.hid (HW.out.next (y1.next (alloc_below x1 (.cells #[.int .u8 1] 5)))); clear y1)
            | ((with_reducible refine wpAppendKeep 1 HOW2.out Try.underlying22 one_byte HL2.out HO1.out HPK ?_ ?_); rfl; intro a2 c2 w2 g1 g2; have HG3 := Lib.hid g2; clear g1 g2)
            | (go_at_call 9; (with_reducible refine (HF2.out w2 a2 c2).mono ?_); rintro e x2 ⟨rfl, rfl⟩))
          go_ret
          exact ⟨rfl, B3.out.next (YB2.out.grown HG3.out YB2.out.size (fun j hj => by have := HOL.out j hj; have := HBU.out; omega))⟩

end Go.Proofs.Ytpkjannlndnfdaa
