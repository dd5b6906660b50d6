/- Contract of the document's Encode. -/
import Derived.Test.YtpoipbngefcdnaaGreatRsQ
namespace Go.Proofs.YtpoipbngefcdnaaGreat
open Go.RowKit GfMath PolyMath RsMath
set_option linter.unusedVariables false
set_option maxRecDepth 100000

set_option maxHeartbeats 4000000 in
theorem refEncode_fr (a : Option Addr) (cap : Nat) (X : List Nat) (n k p : Nat) (w : World) (hX : By X) (hl : X.length = k) (hk0 : 0 < k) (hp0 : 0 < p) (hkp : k + p = n) (hn : n ≤ 255) (hr : Lies w w.heap.size a (u8s X)) :
    Calls Tryz.prog 38 #[.slice a k cap, .int .i64 (n : Int), .int .i64 (k : Int)] w fun e w' => (∃ v, e = .returned v ∧ Rd (code X p) v w' ∧ FrB w.heap.size v) ∧ Below w.heap.size w w' := by
  obtain ⟨Pl, hPl⟩ : ∃ Pl, Pl = tab p fun c => k + c := ⟨_, rfl⟩
  obtain ⟨W, hW⟩ : ∃ W, W = X ++ List.replicate p 0 := ⟨_, rfl⟩
  have hPlen : Pl.length = p := by rw [hPl, tab_length]
  have hWl : W.length = n := by rw [hW, List.length_append, List.length_replicate, hl, hkp]
  have hWB : By W := by
    rw [hW]
    intro x hx
    rcases List.mem_append.1 hx with h | h
    · exact hX x h
    · rw [(List.mem_replicate.1 h).2]; omega
  have hPlc : Plc Pl n := ⟨fun c hc => by rw [hPl, tab_length] at hc; rw [hPl, sq_tab, if_pos hc]; omega, fun x y hxy hy => by rw [hPl, tab_length] at hy; rw [hPl, sq_tab, sq_tab, if_pos (by omega), if_pos hy]; omega⟩
  have hsol : solveF W Pl p = some (code X p) := by
    have := solveF_code hX (p := p) (by rw [hl]; omega)
    rw [hl] at this
    rw [hW, hPl]
    exact this
  have HSV : Hid (∀ u g cg b cb, Lies u u.heap.size (some ⟨g, 0, none⟩) (u8s W) → Lies u u.heap.size (some ⟨b, 0, none⟩) (nats Pl) → Calls Tryz.prog 66 #[.slice (some ⟨g, 0, none⟩) n cg, .int .i64 (n : Int), .int .i64 (k : Int), .slice (some ⟨b, 0, none⟩) p cb] u fun e w' => (∃ v, e = .returned (.tuple #[v, .bool true]) ∧ Rd (code X p) v w' ∧ FrB u.heap.size v) ∧ Below u.heap.size u w') := Lib.hid fun u g cg b cb h1 h2 => by
    have := rsolve_any (some ⟨g, 0, none⟩) cg W (some ⟨b, 0, none⟩) cb Pl n k p u hWB hWl hn hp0 hkp hPlc (by omega) h1 h2
    rw [hsol, hPlen] at this
    exact this
  have HTS : Hid (∀ c, nats (tab (c + 1) fun q => k + q) = nats (tab c fun q => k + q) ++ [.int .i64 ((k + c : Nat) : Int)]) := Lib.hid fun c => by rw [tab_snoc, nats_snoc]
  have HPE : Hid (nats (tab p fun q => k + q) = nats Pl) := Lib.hid (by rw [hPl])
  have HWE : Hid (u8s X ++ List.replicate p (.int .u8 0) = u8s W) := Lib.hid (by rw [hW, u8s_append, u8s_zero])
  have HR := Lib.hid hr
  have HXL : Hid ((u8s X).length = k) := Lib.hid (by rw [u8s_length, hl])
  have HX1 := Lib.hid (u8s_one X)
  have HK0 := Lib.hid hk0
  have HP0 := Lib.hid hp0
  have HNK : Hid (k ≤ 255 ∧ p ≤ 255 ∧ n ≤ 255 ∧ k + p = n) := Lib.hid (by omega)
  have hb1 : (n : Int) - (k : Int) = (p : Int) := by omega
  have hb2 : (n : Int) ≤ 255 := by omega
  have hb3 : (p : Int) ≤ 255 := by omega
  have hb4 : (k : Int) ≤ 255 := by omega
  have hpm : 0 < (p : Int) := by omega
  have hkm : 0 < (k : Int) := by omega
  clear hPl hW hPlen hWl hWB hPlc hsol hr hl hk0 hp0 hkp hn hX
  go_enter Tryz.func38, Tryz.ntmps38
  go_wp2
  go_loopw [7, 8] (fun v I wr => ∃ c i : Nat, c ≤ p ∧ i = k + c ∧ I = .int .i64 (i : Int) ∧ wr.ownsRow w.heap.size 3 1 v c (nats (tab c fun q => k + q)) ∧ Below w.heap.size w wr) (fun _ I _ => n - (intOf I).toNat)
  case atStart => exact ⟨0, k, Nat.zero_le _, rfl, rfl, own_zero w _, alloc_below _ _⟩
  case round =>
    obtain ⟨c, i, hc, hi, rfl, hown, hbw⟩ := hrel
    by_cases hlt : c < p
    · have hi1 : (i : Int) < n := by have := HNK.out; omega
      have hi2 : (i : Int) ≤ 255 := by omega
      have HST0 := HTS.out c
      rw [← hi] at HST0
      have HST := Lib.hid HST0
      have HOW := Lib.hid (hown.alloc (.cells #[.int .i64 (i : Int)] 3))
      have HL : Hid (Lies (wr.alloc (.cells #[.int .i64 (i : Int)] 3)) (wr.alloc (.cells #[.int .i64 (i : Int)] 3)).heap.size (some ⟨wr.heap.size, 0, none⟩) [.int .i64 (i : Int)]) := Lib.hid (Lies.new [_] _ _)
      have HO1 : Hid ((Value.int .i64 (i : Int)).oneCell' = true) := Lib.hid rfl
      have HPK : Big (c + 1 ≤ 1099511627776) := ⟨by have := HNK.out; omega⟩
      have HB2 := Lib.hid (hbw.alloc hbw.size (.cells #[.int .i64 (i : Int)] 3))
      have HZ2 := Lib.hid HB2.out.size
      obtain ⟨a3, c3, rfl, _⟩ := own_form2 hown
      have HOL : Hid (∀ s, (Value.slice a3 c c3).ownBlock = some s → w.heap.size ≤ s) := Lib.hid fun s hs => (hown.lt s hs).1
      have HI := Lib.hid hi
      have HC := Lib.hid hlt
      have HIN : Hid (i < n) := Lib.hid (by have := HNK.out; omega)
      clear hown hbw HST0 hi hlt hc
      go_wp2_with ((with_reducible refine wpAppend1K HOW.out Tryz.underlying48 one_int HL.out HO1.out HPK HZ2.out ?_ ?_); rfl; intro v3 w3 g3 q3 k3; have HV3 := Lib.hid g3; have HG3 := Lib.hid q3; clear g3 q3 k3)
      go_roundw
      case rel => exact ⟨c + 1, i + 1, by have := HC.out; omega, by have := HI.out; omega, by go_num, by rw [HST.out]; exact HV3.out, HB2.out.grown HG3.out HB2.out.size HOL.out⟩
      case measure => simp [intOf]; have := HIN.out; omega
    · have ec : c = p := by omega
      have hige : ¬ (i : Int) < n := by have := HNK.out; omega
      rw [ec, HPE.out] at hown
      obtain ⟨b, cb, zs, rfl, hcb, hbb, hrow⟩ := own_some hown HP0.out
      have RP := Lib.hid hrow
      have BB := Lib.hid hbb
      have BW := Lib.hid hbw
      have RP1 := Lib.hid (hrow.step (alloc_below wr (.cells #[] 5)))
      have HOW0 := Lib.hid (own_zero wr 5)
      have HR1 := Lib.hid ((HR.out.step hbw).step (alloc_below wr (.cells #[] 5)))
      have HZ0 : Hid (wr.heap.size ≤ (wr.alloc (.cells #[] 5)).heap.size) := Lib.hid (by simp)
      have HBIG : Big (0 + k ≤ 1099511627776) := ⟨by have := HNK.out; omega⟩
      have HBIG2 : Big (k + p ≤ 1099511627776) := ⟨by have := HNK.out; omega⟩
      have HI8 : Hid ((Tryz.prog.info? 5).map (fun i => (i.zero, i.size, i.bytes)) = some (some (.int .u8 0), 1, 8) ∨ (Tryz.prog.info? 5).map (fun i => (i.zero, i.size, i.bytes)) = some (some (.int .u8 0), 1, 1)) := Lib.hid (Or.inr info_byte)
      have HZC : Hid ((Value.int .u8 0).cells = #[.int .u8 0]) := Lib.hid rfl
      have HZ1 : Hid ((Value.int .u8 0).oneCell' = true) := Lib.hid rfl
      clear hown hbw hrow hbb hi ec hlt hc
      go_wp2_with (first
        | ((with_reducible refine wpAppendK (base := wr.heap.size) cap HOW0.out Tryz.underlying78 one_byte HR1.out HXL.out HK0.out HX1.out HBIG HZ0.out ?_ ?_); rfl; intro v4 w4 g4 q4 k4; rw [Nat.zero_add, List.nil_append] at g4; obtain ⟨d4, e4, y4, rfl, _⟩ := own_some g4 HK0.out; have O4 := Lib.hid g4; have B4 : Hid (Below wr.heap.size wr w4) := Lib.hid ((alloc_below wr _).grown q4 HZ0.out (fun j hj => (HOW0.out.lt j hj).1)); clear g4 q4 k4)
        | ((with_reducible refine wpAppendMadeOwnK .i64 O4.out Tryz.underlying78 Tryz.underlying3 HI8.out HZC.out HZ1.out HP0.out HBIG2 B4.out.size ?_ ?_); rfl; intro v5 w5 g5 q5; rw [HWE.out, HNK.out.2.2.2] at g5; obtain ⟨d5, e5, y5, rfl, _, _, row5⟩ := own_some g5 (by have := HNK.out; have := HK0.out; omega); have L5 := Lib.hid (rs_lies row5); have B5 : Hid (Below wr.heap.size wr w5) := Lib.hid (B4.out.grown q5 B4.out.size (fun j hj => (O4.out.lt j hj).1)); have LP := Lib.hid (rs_lies (RP.out.step B5.out)); clear g5 q5 row5)
        | (go_at_call 66; (with_reducible refine (HSV.out w5 d5 e5 b cb L5.out LP.out).mono ?_); rintro e w6 ⟨⟨v6, rfl, r6, f6⟩, b6⟩; have R6 := Lib.hid r6; have F6 : Hid (FrB w.heap.size v6) := Lib.hid fun g o n c e => Nat.le_trans (BW.out.next B5.out).size (f6 g o n c e); have B6 : Hid (Below w.heap.size w w6) := Lib.hid ((BW.out.next B5.out).next b6); clear r6 f6 b6))
      go_ret
      exact ⟨⟨_, rfl, R6.out, F6.out⟩, B6.out⟩
theorem refEncode_any (a : Option Addr) (cap : Nat) (X : List Nat) (n k p : Nat) (w : World) (hX : By X) (hl : X.length = k) (hk0 : 0 < k) (hp0 : 0 < p) (hkp : k + p = n) (hn : n ≤ 255) (hr : Lies w w.heap.size a (u8s X)) :
    Calls Tryz.prog 38 #[.slice a k cap, .int .i64 (n : Int), .int .i64 (k : Int)] w fun e w' => (∃ v, e = .returned v ∧ Rd (code X p) v w') ∧ Below w.heap.size w w' :=
  (refEncode_fr a cap X n k p w hX hl hk0 hp0 hkp hn hr).mono fun e w' ⟨⟨v, h1, h2, _⟩, h3⟩ => ⟨⟨v, h1, h2⟩, h3⟩
end Go.Proofs.YtpoipbngefcdnaaGreat
