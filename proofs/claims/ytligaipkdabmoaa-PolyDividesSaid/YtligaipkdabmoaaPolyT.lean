/- Contracts of the document's Eval, Derive, Add. -/
import Derived.Test.YtligaipkdabmoaaPolyS
namespace Go.Proofs.Ytligaipkdabmoaa
open Go.RowKit GfMath PolyMath
set_option linter.unusedVariables false

theorem E_succ (f : Nat → Nat) (k x : Nat) : E f (k + 1) x = E f k x ^^^ gm (f k) (pw x k) := rfl
theorem E_lt {f : Nat → Nat} (hf : ∀ i, f i < 256) {x : Nat} (hx : x < 256) (k : Nat) : E f k x < 256 := xs_lt _ fun i _ => gm_lt (hf i) (pw_lt hx i)

set_option maxHeartbeats 1000000 in
theorem reval_any (a : Option Addr) (cap : Nat) (l : List Nat) (x : Nat) (w : World) (hb : By l) (hx : x < 256) (hl : l.length ≤ 1000000) (hr : Lies w w.heap.size a (nats l)) :
    Calls Try.prog 25 #[.slice a l.length cap, .int .i64 (x : Int)] w fun e w' => e = .returned (.int .i64 (E (sq l) l.length x : Int)) ∧ w = w' := by
  have HB := Lib.hid hb
  have HX := Lib.hid hx
  clear hb hx
  go_enter Try.func25, Try.ntmps25
  go_wp2
  go_loop [5, 6, 7] (fun s p i => ∃ k : Nat, k ≤ l.length ∧ i = .int .i64 k ∧ s = .int .i64 (E (sq l) k x : Int) ∧ p = .int .i64 (pw x k : Int)) (fun _ _ i => l.length - (intOf i).toNat)
  case atStart => exact ⟨0, Nat.zero_le _, rfl, rfl, rfl⟩
  case round =>
    obtain ⟨k, hk, rfl, rfl, rfl⟩ := hrel
    by_cases hlt : k < l.length
    · obtain ⟨b2, off, rfl, hbb, hc⟩ := hr (by rw [nats_length]; omega)
      have hcell := nats_sq (B := 0) hc k hlt
      have hk1 : (k : Int) < l.length := by omega
      have hk0 : 0 ≤ (k : Int) := by omega
      have hst := E_succ (sq l) k x
      have hs8 := E_lt (fun i => HB.out.sq i) HX.out k
      have hp8 := pw_lt HX.out k
      have hd8 := HB.out.sq k
      have hps : pw x (k + 1) = gm (pw x k) x := rfl
      obtain ⟨d, hd⟩ : ∃ d, sq l k = d := ⟨_, rfl⟩
      obtain ⟨p, hp⟩ : ∃ p, pw x k = p := ⟨_, rfl⟩
      obtain ⟨s, hs⟩ : ∃ s, E (sq l) k x = s := ⟨_, rfl⟩
      rw [hd] at hcell hst hd8
      rw [hp] at hst hp8 hps
      rw [hs] at hst hs8
      rw [hp, hs]
      have hq8 := gm_lt hd8 hp8
      have HM1 : Hid (∀ u, Calls Try.prog 37 #[.int .i64 (d : Int), .int .i64 (p : Int)] u fun e w' => e = .returned (.int .i64 (gm d p : Int)) ∧ u = w') := Lib.hid fun u => rmul_any d p u hd8
      have HM2 : Hid (∀ u, Calls Try.prog 37 #[.int .i64 (p : Int), .int .i64 (x : Int)] u fun e w' => e = .returned (.int .i64 (gm p x : Int)) ∧ u = w') := Lib.hid fun u => rmul_any p x u hp8
      obtain ⟨q, hq⟩ : ∃ q, gm d p = q := ⟨_, rfl⟩
      rw [hq] at HM1 hst hq8
      have hxr := xor_i64 s q (by omega) (by omega)
      rw [← hst] at hxr
      have HS := Lib.hid hxr
      have HP := Lib.hid hps
      clear hr hc hbb hst hs8 hp8 hd8 hps hd hp hs hq8 hq hxr
      go_wp2_with (first
        | (go_at_call 37; (with_reducible refine (HM1.out _).mono ?_); rintro e w1 ⟨rfl, rfl⟩)
        | (go_at_call 37; (with_reducible refine (HM2.out _).mono ?_); rintro e w1 ⟨rfl, rfl⟩))
      go_round
      case rel => exact ⟨k + 1, by omega, by go_num, congrArg (Value.int .i64) HS.out, by rw [HP.out]⟩
      case measure => first | (simp [intOf]; done) | (simp [intOf]; omega)
    · have ek : k = l.length := by omega
      subst ek
      clear hr
      go_wp2
      go_ret
      exact ⟨rfl, rfl⟩

set_option maxHeartbeats 1000000 in
theorem rderive_any (a : Option Addr) (cap : Nat) (l : List Nat) (w : World) (hb : By l) (hl : l.length ≤ 1000000) (hr : Lies w w.heap.size a (nats l)) :
    Calls Try.prog 27 #[.slice a l.length cap] w fun e w' => (∃ v, e = .returned v ∧ IReads w' v (rder l)) ∧ Below w.heap.size w w' := by
  obtain ⟨f, hf⟩ : ∃ f : Nat → Nat, f = fun n => if (n + 1) % 2 = 1 then sq l (n + 1) else 0 := ⟨_, rfl⟩
  have HFE : Hid (∀ n, f n = if (n + 1) % 2 = 1 then sq l (n + 1) else 0) := Lib.hid fun n => by rw [hf]
  have HRD : Hid (cut (tab (l.length - 1) f) = rder l) := Lib.hid (by rw [hf]; rfl)
  have HT8 : Hid (By (tab (l.length - 1) f)) := Lib.hid (tab_by _ fun n _ => by rw [hf]; dsimp only; split; exact hb.sq _; omega)
  have HB := Lib.hid hb
  have HR := Lib.hid hr
  have H0 : Hid ((w.alloc (.cells #[] 3)).ownsRow w.heap.size 3 1 (.slice (some ⟨w.heap.size, 0, none⟩) 0 0) 0 (nats (tab 0 f))) := Lib.hid (own_zero w _)
  clear hf hb hr
  go_enter Try.func27, Try.ntmps27
  go_wp2
  go_loopw [3, 4] (fun v i wr => ∃ k : Nat, k ≤ l.length - 1 ∧ i = .int .i64 ((k + 1 : Nat) : Int) ∧ wr.ownsRow w.heap.size 3 1 v k (nats (tab k f)) ∧ Below w.heap.size w wr) (fun _ i _ => l.length - (intOf i).toNat)
  case atStart => exact ⟨0, Nat.zero_le _, rfl, H0.out, alloc_below _ _⟩
  case round =>
    clear H0
    obtain ⟨k, hk, rfl, hown, hbw⟩ := hrel
    obtain ⟨i, hi⟩ : ∃ i, k + 1 = i := ⟨_, rfl⟩
    rw [hi]
    obtain ⟨ad, c2, rfl, hc2, hlies⟩ := own_form2 hown
    by_cases hlt : i < l.length
    · obtain ⟨b2, off, rfl, hbb, hc⟩ := HR.out (by rw [nats_length]; omega)
      have hcell : wr.cell? ⟨b2, off + i, none⟩ = some (.int .i64 (sq l i : Int)) := (hbw.cell (p := ⟨b2, off + i, none⟩) hbb).trans (nats_sq (B := 0) hc i hlt)
      have hi1 : (i : Int) < l.length := by omega
      have hi0 : 0 ≤ (i : Int) := by omega
      have hfe := HFE.out k
      rw [hi] at hfe
      have hd8 := HB.out.sq i
      have hts := tab_snoc k f
      rw [hi] at hts
      obtain ⟨d, hd⟩ : ∃ d, sq l i = d := ⟨_, rfl⟩
      rw [hd] at hcell hfe hd8
      have HOWN := Lib.hid hown
      have HBW := Lib.hid hbw
      have HFK := Lib.hid hfe
      have HTS := Lib.hid hts
      have HD8 := Lib.hid hd8
      have HI := Lib.hid hi
      have hx1 := xor_i64 0 d (by omega) (by omega)
      rw [Nat.zero_xor] at hx1
      have hx2 := xor_i64 d d (by omega) (by omega)
      rw [Nat.xor_self] at hx2
      have hx1' : bits .xor .i64 0 (d : Int) = (d : Int) := hx1
      have hx2' : bits .xor .i64 (d : Int) (d : Int) = 0 := hx2
      have HX1 := Lib.hid hx1'
      have HX2 := Lib.hid hx2'
      clear hown hbw hlies hc hbb hfe hts hd8 hd hc2 hi hx1 hx2 hx1' hx2'
      go_wp2
      go_loop [5, 6] (fun c j => ∃ m : Nat, m ≤ i ∧ j = .int .i64 m ∧ c = .int .i64 ((if m % 2 = 1 then d else 0 : Nat) : Int)) (fun _ j => i - (intOf j).toNat)
      case atStart => exact ⟨0, Nat.zero_le _, rfl, rfl⟩
      case round =>
        obtain ⟨m, hm, rfl, rfl⟩ := hrel
        by_cases hmi : m < i
        · have hm1 : (m : Int) < i := by omega
          by_cases ho : m % 2 = 1
          · rw [if_pos ho]
            have HN : Hid ((if (m + 1) % 2 = 1 then d else 0) = 0) := Lib.hid (if_neg (by omega))
            go_wp2
            go_round
            case rel => exact ⟨m + 1, by omega, by go_num, by rw [HN.out]; exact congrArg (Value.int .i64) HX2.out⟩
            case measure => first | (simp [intOf]; done) | (simp [intOf]; omega)
          · rw [if_neg ho]
            have HN : Hid ((if (m + 1) % 2 = 1 then d else 0) = d) := Lib.hid (if_pos (by omega))
            go_wp2
            go_round
            case rel => exact ⟨m + 1, by omega, by go_num, by rw [HN.out]; exact congrArg (Value.int .i64) HX1.out⟩
            case measure => first | (simp [intOf]; done) | (simp [intOf]; omega)
        · have em : m = i := by omega
          obtain ⟨x, hx⟩ : ∃ x, (if m % 2 = 1 then d else 0) = x := ⟨_, rfl⟩
          rw [hx]
          have HXX : Hid (f k = x) := Lib.hid (by rw [HFK.out, ← em]; exact hx)
          have HOW2 := Lib.hid (HOWN.out.alloc (.cells #[.int .i64 (x : Int)] 3))
          have HL2 : Hid (Lies (wr.alloc (.cells #[.int .i64 (x : Int)] 3)) (wr.alloc (.cells #[.int .i64 (x : Int)] 3)).heap.size (some ⟨wr.heap.size, 0, none⟩) [.int .i64 (x : Int)]) := Lib.hid (Lies.new [_] _ _)
          have HBW2 := Lib.hid (HBW.out.alloc HBW.out.size (.cells #[.int .i64 (x : Int)] 3))
          have HO1 : Hid ((Value.int .i64 (x : Int)).oneCell' = true) := Lib.hid rfl
          have HPK : Big (k + 1 ≤ 1099511627776) := ⟨by omega⟩
          have HOL : Hid (∀ j, (Value.slice ad k c2).ownBlock = some j → w.heap.size ≤ j) := Lib.hid fun j hj => (HOWN.out.lt j hj).1
          have HZ2 := Lib.hid HBW2.out.size
          clear hx em
          go_wp2_with (first
            | ((with_reducible refine wpAppend1K HOW2.out Try.underlying27 one_int HL2.out HO1.out HPK HZ2.out ?_ ?_); rfl; intro v1 w1 g1 g2 g3; have HV1 := Lib.hid g1; have HG1 := Lib.hid g2; clear g1 g2 g3))
          go_roundw
          case rel => exact ⟨i, by omega, by go_num, by rw [HTS.out, ← HI.out, nats_snoc, HXX.out]; exact HV1.out, HBW2.out.grown HG1.out HBW2.out.size HOL.out⟩
          case measure => first | (simp [intOf]; done) | (simp [intOf]; omega)
    · have ek : k = l.length - 1 := by omega
      have hil : (l.length : Int) ≤ i := by omega
      have HCU : Hid (Calls Try.prog 36 #[.slice ad k c2] wr fun e w' => (∃ v, e = .returned v ∧ IReads wr v (rder l)) ∧ wr = w') := Lib.hid (by
        have h := cut_any ad c2 (tab k f) wr (by rw [ek]; exact HT8.out) (by rw [tab_length]; omega) (by rw [tab_length]; exact hc2) hlies
        rw [tab_length] at h
        rw [← HRD.out, ← ek]
        exact h)
      have HBW := Lib.hid hbw
      clear hown hbw hlies hi ek
      go_wp2_with (go_at_call 36; (with_reducible refine HCU.out.mono ?_); rintro e w2 ⟨⟨v, rfl, hv⟩, rfl⟩; have HV := Lib.hid hv; clear hv)
      go_ret
      exact ⟨⟨_, rfl, HV.out⟩, HBW.out⟩

set_option maxHeartbeats 1000000 in
theorem radd_any (a c : Option Addr) (ca cc : Nat) (A C : List Nat) (w : World) (hA : By A) (hC : By C) (hla : A.length ≤ 1000000) (hlc : C.length ≤ 1000000) (hr : Lies w w.heap.size a (nats A)) (hs : Lies w w.heap.size c (nats C)) :
    Calls Try.prog 14 #[.slice a A.length ca, .slice c C.length cc] w fun e w' => (∃ v, e = .returned v ∧ IReads w' v (radd A C)) ∧ Below w.heap.size w w' := by
  obtain ⟨f, hf⟩ : ∃ f : Nat → Nat, f = fun n => sq A n ^^^ sq C n := ⟨_, rfl⟩
  have HFE : Hid (∀ n, f n = sq A n ^^^ sq C n) := Lib.hid fun n => by rw [hf]
  have HRD : Hid (cut (tab (max A.length C.length) f) = radd A C) := Lib.hid (by rw [hf]; rfl)
  have HT8 : Hid (By (tab (max A.length C.length) f)) := Lib.hid (tab_by _ fun n _ => by rw [hf]; exact xor_lt (hA.sq n) (hC.sq n))
  have HA := Lib.hid hA
  have HC := Lib.hid hC
  have HR := Lib.hid hr
  have HS := Lib.hid hs
  have H0 : Hid ((w.alloc (.cells #[] 3)).ownsRow w.heap.size 3 1 (.slice (some ⟨w.heap.size, 0, none⟩) 0 0) 0 (nats (tab 0 f))) := Lib.hid (own_zero w _)
  clear hf hA hC hr hs
  go_enter Try.func14, Try.ntmps14
  go_wp2
  go_loopw [5, 6] (fun v i wr => ∃ k : Nat, k ≤ max A.length C.length ∧ i = .int .i64 k ∧ wr.ownsRow w.heap.size 3 1 v k (nats (tab k f)) ∧ Below w.heap.size w wr) (fun _ i _ => max A.length C.length - (intOf i).toNat)
  case atStart => exact ⟨0, Nat.zero_le _, rfl, H0.out, alloc_below _ _⟩
  case round =>
    clear H0
    obtain ⟨k, hk, rfl, hown, hbw⟩ := hrel
    obtain ⟨ad, c2, rfl, hc2, hlies⟩ := own_form2 hown
    by_cases hlt : k < A.length ∨ k < C.length
    · have hk0 : 0 ≤ (k : Int) := by omega
      have hlm : k < max A.length C.length := by omega
      have hkb : k ≤ 1000000 := by omega
      have HAT : Hid (Calls Try.prog 35 #[.slice a A.length ca, .int .i64 (k : Int)] wr fun e w' => e = .returned (.int .i64 (sq A k : Int)) ∧ wr = w') := Lib.hid (at_any a ca A k wr (HR.out.step hbw))
      have HCT : Hid (Calls Try.prog 35 #[.slice c C.length cc, .int .i64 (k : Int)] wr fun e w' => e = .returned (.int .i64 (sq C k : Int)) ∧ wr = w') := Lib.hid (at_any c cc C k wr (HS.out.step hbw))
      have hp8 := HA.out.sq k
      have hq8 := HC.out.sq k
      have hfe := HFE.out k
      have hts := tab_snoc k f
      obtain ⟨p, hp⟩ : ∃ p, sq A k = p := ⟨_, rfl⟩
      obtain ⟨q, hq⟩ : ∃ q, sq C k = q := ⟨_, rfl⟩
      rw [hp] at hfe hp8 HAT
      rw [hq] at hfe hq8 HCT
      have hxr := xor_i64 p q (by omega) (by omega)
      rw [← hfe] at hxr
      obtain ⟨x, hx⟩ : ∃ x, f k = x := ⟨_, rfl⟩
      rw [hx] at hxr hts
      have HOWN := Lib.hid hown
      have HBW := Lib.hid hbw
      have HOW2 := Lib.hid (HOWN.out.alloc (.cells #[.int .i64 (x : Int)] 3))
      have HL2 : Hid (Lies (wr.alloc (.cells #[.int .i64 (x : Int)] 3)) (wr.alloc (.cells #[.int .i64 (x : Int)] 3)).heap.size (some ⟨wr.heap.size, 0, none⟩) [.int .i64 (x : Int)]) := Lib.hid (Lies.new [_] _ _)
      have HBW2 := Lib.hid (HBW.out.alloc HBW.out.size (.cells #[.int .i64 (x : Int)] 3))
      have HO1 : Hid ((Value.int .i64 (x : Int)).oneCell' = true) := Lib.hid rfl
      have HPK : Big (k + 1 ≤ 1099511627776) := ⟨by omega⟩
      have HOL : Hid (∀ j, (Value.slice ad k c2).ownBlock = some j → w.heap.size ≤ j) := Lib.hid fun j hj => (HOWN.out.lt j hj).1
      have HZ2 := Lib.hid HBW2.out.size
      have HTS := Lib.hid hts
      have HLM := Lib.hid hlm
      clear hown hbw hlies hc2 hp hq hfe hts hp8 hq8 hx hk hlm
      by_cases hkA : k < A.length
      · have h1 : (k : Int) < A.length := by omega
        clear hlt
        go_wp2_with (first
          | (go_at_call 35; (with_reducible refine HAT.out.mono ?_); rintro e w1 ⟨rfl, rfl⟩)
          | (go_at_call 35; (with_reducible refine HCT.out.mono ?_); rintro e w1 ⟨rfl, rfl⟩)
          | ((with_reducible refine wpAppend1K HOW2.out Try.underlying27 one_int HL2.out HO1.out HPK HZ2.out ?_ ?_); rfl; intro v1 w1 g1 g2 g3; have HV1 := Lib.hid g1; have HG1 := Lib.hid g2; clear g1 g2 g3))
        go_roundw
        case rel => exact ⟨k + 1, HLM.out, by go_num, by rw [HTS.out, nats_snoc]; exact HV1.out, HBW2.out.grown HG1.out HBW2.out.size HOL.out⟩
        case measure => have := HLM.out; first | (simp [intOf]; done) | (simp [intOf]; omega)
      · have h1 : (A.length : Int) ≤ k := by omega
        have h2 : (k : Int) < C.length := by omega
        clear hlt
        go_wp2_with (first
          | (go_at_call 35; (with_reducible refine HAT.out.mono ?_); rintro e w1 ⟨rfl, rfl⟩)
          | (go_at_call 35; (with_reducible refine HCT.out.mono ?_); rintro e w1 ⟨rfl, rfl⟩)
          | ((with_reducible refine wpAppend1K HOW2.out Try.underlying27 one_int HL2.out HO1.out HPK HZ2.out ?_ ?_); rfl; intro v1 w1 g1 g2 g3; have HV1 := Lib.hid g1; have HG1 := Lib.hid g2; clear g1 g2 g3))
        go_roundw
        case rel => exact ⟨k + 1, HLM.out, by go_num, by rw [HTS.out, nats_snoc]; exact HV1.out, HBW2.out.grown HG1.out HBW2.out.size HOL.out⟩
        case measure => have := HLM.out; first | (simp [intOf]; done) | (simp [intOf]; omega)
    · have ek : k = max A.length C.length := by omega
      have h1 : (A.length : Int) ≤ k := by omega
      have h2 : (C.length : Int) ≤ k := by omega
      have HCU : Hid (Calls Try.prog 36 #[.slice ad k c2] wr fun e w' => (∃ v, e = .returned v ∧ IReads wr v (radd A C)) ∧ wr = w') := Lib.hid (by
        have h := cut_any ad c2 (tab k f) wr (by rw [ek]; exact HT8.out) (by rw [tab_length]; omega) (by rw [tab_length]; exact hc2) hlies
        rw [tab_length] at h
        rw [← HRD.out, ← ek]
        exact h)
      have HBW := Lib.hid hbw
      clear hown hbw hlies ek hlt
      go_wp2_with (go_at_call 36; (with_reducible refine HCU.out.mono ?_); rintro e w2 ⟨⟨v, rfl, hv⟩, rfl⟩; have HV := Lib.hid hv; clear hv)
      go_ret
      exact ⟨⟨_, rfl, HV.out⟩, HBW.out⟩

end Go.Proofs.Ytligaipkdabmoaa
