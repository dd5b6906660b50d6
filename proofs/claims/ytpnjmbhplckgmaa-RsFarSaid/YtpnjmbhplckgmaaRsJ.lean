/- Contracts of the document's There, Values, Right. -/
import Derived.Test.YtpnjmbhplckgmaaRsI
import Derived.Test.YtpnjmbhplckgmaaInvS
namespace Go.Proofs.Ytpnjmbhplckgmaa
open Go.RowKit GfMath PolyMath RsMath
set_option linter.unusedVariables false

theorem there_yes (n k : Int) (w : World) (h : 1 ≤ k ∧ k < n ∧ n ≤ 255 ∧ n - k ≤ 64) : Calls Try.prog 11 #[.int .i64 n, .int .i64 k] w fun e w' => e = .returned (.bool true) ∧ w = w' := by
  obtain ⟨h1, h2, h3, h4⟩ := h
  have h5 : IntKind.i64.wrap (n - k) = n - k := by rw [IntKind.wrap_i64]; omega
  have h6 : ¬ 255 < n := by omega
  have h7 : ¬ 64 < n - k := by omega
  go_enter Try.func11, Try.ntmps11
  go_wp2
  go_ret
  exact ⟨rfl, rfl⟩
theorem there_no (n k : Int) (w : World) (h : ¬ (1 ≤ k ∧ k < n ∧ n ≤ 255 ∧ n - k ≤ 64)) : Calls Try.prog 11 #[.int .i64 n, .int .i64 k] w fun e w' => e = .returned (.bool false) ∧ w = w' := by
  by_cases h1 : 1 ≤ k
  · by_cases h2 : k < n
    · by_cases h3 : n ≤ 255
      · have h5 : IntKind.i64.wrap (n - k) = n - k := by rw [IntKind.wrap_i64]; omega
        have h7 : ¬ n - k ≤ 64 := by omega
        clear h
        go_enter Try.func11, Try.ntmps11
        go_wp2
        go_ret
        exact ⟨rfl, rfl⟩
      · clear h
        go_enter Try.func11, Try.ntmps11
        go_wp2
        go_ret
        exact ⟨rfl, rfl⟩
    · clear h
      go_enter Try.func11, Try.ntmps11
      go_wp2
      go_ret
      exact ⟨rfl, rfl⟩
  · clear h
    go_enter Try.func11, Try.ntmps11
    go_wp2
    go_ret
    exact ⟨rfl, rfl⟩

theorem ev_lo {l : List Nat} (hl : By l) {x : Nat} (hx : x < 256) : E (sq (lo l)) (lo l).length x = ev l x := by
  rw [← ev_beh hx hl, ev_E hx hl.beh, lo_length]
  exact E_congr fun k _ => by rw [sq_lo, cf_beh]
theorem gm_ex_two (i : Nat) : gm (ex i) 2 = ex (i + 1) := ex_add i 1
theorem vals_by {l : List Nat} (hl : By l) (p : Nat) : By (vals l p) := tab_by _ fun n _ => ev_lt hl (ex_lt n)
theorem vals_snoc (l : List Nat) (p : Nat) : vals l (p + 1) = vals l p ++ [ev l (ex p)] := tab_snoc p _

set_option maxHeartbeats 1000000 in
theorem rvalues_any (a : Option Addr) (cap : Nat) (l : List Nat) (p : Nat) (w : World) (hb : By l) (hl : l.length ≤ 1000) (hp : p ≤ 1000) (hr : Lies w w.heap.size a (u8s l)) :
    Calls Try.prog 18 #[.slice a l.length cap, .int .i64 (p : Int)] w fun e w' => (∃ v, e = .returned v ∧ IReads w' v (vals l p)) ∧ Below w.heap.size w w' := by
  have HO := Lib.hid (of_any a cap l w hb (by omega) hr)
  have HB := Lib.hid hb
  clear hr hb
  go_enter Try.func18, Try.ntmps18
  go_wp2_with (go_at_call 34; (with_reducible refine HO.out.mono ?_); rintro e w1 ⟨⟨v1, rfl, a1, c1, rfl, hc1, hl1⟩, b1⟩; have L1 := Lib.hid hl1; have B1 := Lib.hid b1; clear hl1 b1)
  go_loopw [6, 7, 8] (fun v x i wr => ∃ j : Nat, j ≤ p ∧ i = .int .i64 j ∧ x = .int .i64 ((ex j : Nat) : Int) ∧ wr.ownsRow w1.heap.size 3 1 v j (nats (vals l j)) ∧ Below w1.heap.size w1 wr) (fun _ _ i _ => p - (intOf i).toNat)
  case atStart => exact ⟨0, Nat.zero_le _, rfl, rfl, own_zero w1 _, alloc_below _ _⟩
  case round =>
    obtain ⟨j, hj, rfl, rfl, hown, hbw⟩ := hrel
    have hlw := L1.out.step hbw
    obtain ⟨av, cv, rfl, hcv, hlv⟩ := own_form2 hown
    clear hcv hlv
    by_cases hlt : j < p
    · have hj1 : (j : Int) < p := by omega
      have hx8 := ex_lt j
      have hst := vals_snoc l j
      have HE0 := reval_any a1 c1 (lo l) (ex j) wr (lo_by HB.out) hx8 (by have := lo_le l; omega) hlw
      rw [ev_lo HB.out hx8] at HE0
      have HM0 := rmul_any (ex j) 2
      rw [gm_ex_two] at HM0
      have hy8 := ev_lt HB.out hx8
      obtain ⟨x, hx⟩ : ∃ x, ex j = x := ⟨_, rfl⟩
      have HX := Lib.hid hx
      obtain ⟨y, hy⟩ : ∃ y, ev l (ex j) = y := ⟨_, rfl⟩
      rw [hy] at HE0 hst hy8
      rw [hx] at HE0 HM0 hx8
      have HE := Lib.hid HE0
      have HM : Hid (∀ u : World, Calls Try.prog 36 #[.int .i64 (x : Int), .int .i64 2] u fun e w' => e = .returned (.int .i64 (ex (j + 1) : Int)) ∧ u = w') := Lib.hid fun u => HM0 u hx8
      have HST := Lib.hid hst
      have HLW := Lib.hid hlw
      have HOWN := Lib.hid hown
      have HBW := Lib.hid hbw
      have HOW2 := Lib.hid (HOWN.out.alloc (.cells #[.int .i64 (y : Int)] 3))
      have HL2 : Hid (Lies (wr.alloc (.cells #[.int .i64 (y : Int)] 3)) (wr.alloc (.cells #[.int .i64 (y : Int)] 3)).heap.size (some ⟨wr.heap.size, 0, none⟩) [.int .i64 (y : Int)]) := Lib.hid (Lies.new [_] _ _)
      have HBW2 := Lib.hid (HBW.out.alloc HBW.out.size (.cells #[.int .i64 (y : Int)] 3))
      have HO1 : Hid ((Value.int .i64 (y : Int)).oneCell' = true) := Lib.hid rfl
      have HPK : Big (j + 1 ≤ 1099511627776) := ⟨by omega⟩
      have HOL : Hid (∀ q, (Value.slice av j cv).ownBlock = some q → w1.heap.size ≤ q) := Lib.hid fun q hq => (HOWN.out.lt q hq).1
      have HOL2 : Hid (∀ q, (Value.slice av j cv).ownBlock = some q → q < wr.heap.size) := Lib.hid fun q hq => (HOWN.out.lt q hq).2
      have HZ2 := Lib.hid HBW2.out.size
      rw [hx]
      clear hown hbw hst hx hy HE0 HM0 hlw hx8
      go_wp2_with (first
        | (go_at_call 35; (with_reducible refine HE.out.mono ?_); rintro e w2 ⟨rfl, rfl⟩)
        | (go_at_call 36; (with_reducible refine (HM.out _).mono ?_); rintro e w2 ⟨rfl, rfl⟩)
        | ((with_reducible refine wpAppend1K HOW2.out Try.underlying38 one_int HL2.out HO1.out HPK HZ2.out ?_ ?_); rfl; intro v1 w2 g1 g2 g3; have HV1 := Lib.hid g1; have HG1 := Lib.hid g2; clear g1 g2 g3))
      go_roundw
      case rel => exact ⟨j + 1, by omega, by go_num, rfl, by rw [HST.out, nats_snoc]; exact HV1.out, HBW2.out.grown HG1.out HBW2.out.size HOL.out⟩
      case measure => first | (simp [intOf]; done) | (simp [intOf]; omega)
    · have ej : j = p := by omega
      subst ej
      have HF2 : Hid (IReads wr (.slice av j cv) (vals l j)) := Lib.hid (by
        obtain ⟨a', c', e, h1, h2⟩ := own_form2 hown
        cases e
        exact ⟨av, cv, by rw [vals_length], by rw [vals_length]; exact h1, h2⟩)
      have HBW := Lib.hid (B1.out.next hbw)
      clear hown hbw hlw
      go_wp2
      go_ret
      exact ⟨⟨_, rfl, HF2.out⟩, HBW.out⟩

set_option maxHeartbeats 1000000 in
theorem rright_any (a : Option Addr) (cap : Nat) (l : List Nat) (n k p : Nat) (w : World) (hb : By l) (hl : l.length = n) (hn : n ≤ 255) (hk : k + p = n) (hr : Lies w w.heap.size a (u8s l)) :
    Calls Try.prog 19 #[.slice a n cap, .int .i64 (n : Int), .int .i64 (k : Int)] w fun e w' => e = .returned (.bool (allz (vals l p))) ∧ Below w.heap.size w w' := by
  have HV0 := rvalues_any a cap l p w hb (by omega) (by omega) hr
  rw [hl] at HV0
  have HV := Lib.hid HV0
  have hsub : (n : Int) - (k : Int) = (p : Int) := by omega
  have hnb : (n : Int) ≤ 255 := by omega
  have hkb : (k : Int) ≤ 255 := by omega
  have hpb : (p : Int) ≤ 255 := by omega
  have hpw : IntKind.i64.wrap (p : Int) = (p : Int) := by rw [IntKind.wrap_i64]; omega
  obtain ⟨V, hV⟩ : ∃ V, vals l p = V := ⟨_, rfl⟩
  have hVl : V.length = p := by rw [← hV, vals_length]
  rw [hV] at HV ⊢
  have HVL := Lib.hid hVl
  clear hr hb HV0 hV hl hk
  go_enter Try.func19, Try.ntmps19
  go_wp2_with (go_at_call 18; (with_reducible refine HV.out.mono ?_); rintro e w1 ⟨⟨v1, rfl, a1, c1, rfl, hc1, hl1⟩, b1⟩; have L1 := Lib.hid hl1; have B1 := Lib.hid b1; clear hl1 b1)
  go_loop [8] (fun i => ∃ j : Nat, j ≤ V.length ∧ i = .int .i64 j ∧ ∀ q, q < j → sq V q = 0) (fun i => V.length - (intOf i).toNat)
  case atStart => exact ⟨0, Nat.zero_le _, rfl, fun j hj => absurd hj (by omega)⟩
  case round =>
    obtain ⟨j, hj, rfl, hz⟩ := hrel
    have HZ := Lib.hid hz
    clear hz
    by_cases hlt : j < V.length
    · have hj1 : (j : Int) < V.length := by omega
      have hjb : V.length ≤ 255 := by omega
      obtain ⟨b2, off, rfl, hbb, hc⟩ := L1.out (by rw [nats_length]; omega)
      have hcell := nats_sq (B := 0) hc j hlt
      obtain ⟨x, hx⟩ : ∃ x, sq V j = x := ⟨_, rfl⟩
      rw [hx] at hcell
      by_cases h0 : x = 0
      · subst h0
        have HX := Lib.hid hx
        have hcell2 : w1.cell? ⟨b2, off + j, none⟩ = some (.int .i64 0) := hcell
        clear hx hc hcell
        go_wp2
        go_round
        case rel => exact ⟨j + 1, by omega, by go_num, fun q hq => by
          by_cases e : q = j
          · rw [e]; exact HX.out
          · exact HZ.out q (by omega)⟩
        case measure => simp [intOf]; omega
      · have hxn : ¬ (x : Int) = 0 := by omega
        have hxb : ((x : Int) != 0) = true := by simp; omega
        have HA : Hid (allz V = false) := Lib.hid (by
          cases h : allz V with
          | false => rfl
          | true => exact absurd ((allz_iff V).1 h j hlt) (by rw [hx]; exact h0))
        clear hx hc
        go_wp2
        go_ret
        exact ⟨ret_bool HA.out.symm, B1.out⟩
    · have HA : Hid (allz V = true) := Lib.hid ((allz_iff V).2 fun q hq => HZ.out q (by omega))
      go_wp2
      go_ret
      exact ⟨ret_bool HA.out.symm, B1.out⟩

end Go.Proofs.Ytpnjmbhplckgmaa
