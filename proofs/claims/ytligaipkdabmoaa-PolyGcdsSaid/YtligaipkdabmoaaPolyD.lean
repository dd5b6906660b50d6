/- Contracts of poly's Eval, Derive, Shift, Mul, Add. -/
import Derived.Test.YtligaipkdabmoaaPolyIn
namespace Go.Proofs.Ytligaipkdabmoaa
open Go.RowKit GfMath PolyMath
set_option linter.unusedVariables false

theorem ev_take (l : List Nat) (k : Nat) (h : k < l.length) (x : Nat) : ev (l.take (k + 1)) x = gm (ev (l.take k) x) x ^^^ sq l k := by rw [take_snoc l k h, ev_snoc, sq_get l k h]
theorem by_take {l : List Nat} (h : By l) (k : Nat) : By (l.take k) := fun x hx => h x (List.mem_of_mem_take hx)

set_option maxHeartbeats 1000000 in
theorem eval_any (b : Nat) (a : Option Addr) (cap : Nat) (l : List Nat) (x : Nat) (w : World) (hf : Fld w b) (hb : By l) (hx : x < 256) (hl : l.length ≤ 140737488351232) (hr : Lies w w.heap.size a (u8s l)) :
    Calls Try.prog 24 #[.pointer (some ⟨b, 0, none⟩), .slice a l.length cap, .int .u8 (x : Int)] w fun e w' => e = .returned (.int .u8 (ev l x : Int)) ∧ Below w.heap.size w w' := by
  have HF := Lib.hid hf
  have HR := Lib.hid hr
  have HB := Lib.hid hb
  clear hf hr hb
  go_enter Try.func24, Try.ntmps24
  go_wp2
  go_loopw [7, 14] (fun p i wr => ∃ k : Nat, k ≤ l.length ∧ i = .int .i64 k ∧ p = .int .u8 (ev (l.take k) x : Int) ∧ Below w.heap.size w wr) (fun _ i _ => l.length - (intOf i).toNat)
  case atStart => exact ⟨0, Nat.zero_le _, rfl, rfl, Below.refl _ _⟩
  case round =>
    obtain ⟨k, hk, rfl, rfl, hbw⟩ := hrel
    by_cases hlt : k < l.length
    · have hk1 : (k : Int) < l.length := by omega
      obtain ⟨b2, off, rfl, hbb, hcl⟩ := HR.out (by rw [u8s_length]; omega)
      have hcell : wr.cell? ⟨b2, off + k, none⟩ = some (.int .u8 (sq l k : Int)) := by rw [sq_get l k hlt]; exact (hbw.cell (p := ⟨b2, off + k, none⟩) hbb).trans (hcl k _ (u8s_get l k hlt))
      have hst := ev_take l k hlt x
      have hv8 := ev_lt (by_take HB.out k) hx
      have hd8 := HB.out.sq k
      obtain ⟨d, hd⟩ : ∃ d, sq l k = d := ⟨_, rfl⟩
      rw [hd] at hcell hst hd8
      obtain ⟨v, hv⟩ : ∃ v, ev (l.take k) x = v := ⟨_, rfl⟩
      rw [hv] at hst hv8
      rw [hv]
      have hq8 := gm_lt hv8 hx
      have HM0 := fun (u : World) (hf : Fld u b) => mul2 b v x 5 hv8 hx u hf
      obtain ⟨q, hq⟩ : ∃ q, gm v x = q := ⟨_, rfl⟩
      rw [hq] at HM0 hst hq8
      have HM := Lib.hid HM0
      have HA := Lib.hid (fun (u : World) => add2 b q d 5 hq8 hd8 u)
      have HS := Lib.hid hst
      have HW := Lib.hid hbw
      have HFR : Hid (Fld wr b) := Lib.hid (HF.out.step hbw)
      clear HM0 hst hbw hv8 hd8 hq8 hcl hbb hd hv hq
      go_wp2_with (first
        | (go_at_call 31; (with_reducible refine (HM.out wr HFR.out).mono ?_); rintro e w1 ⟨rfl, b1⟩; have B1 := Lib.hid b1; clear b1)
        | (go_at_call 32; (with_reducible refine (HA.out w1).mono ?_); rintro e w2 ⟨rfl, b2⟩; have B2 := Lib.hid b2; clear b2))
      go_roundw
      case rel => exact ⟨k + 1, by omega, by go_num, by rw [HS.out], (HW.out.next B1.out).next B2.out⟩
      case measure => simp [intOf]; omega
    · have ek : k = l.length := by omega
      have HV : Hid (ev (l.take k) x = ev l x) := Lib.hid (by rw [ek, List.take_of_length_le (Nat.le_refl _)])
      have HW := Lib.hid hbw
      clear hbw
      go_wp2
      go_ret
      exact ⟨by rw [← HV.out]; rfl, HW.out⟩

theorem info_byte1 : (Try.prog.info? 5).map (·.size) = some 1 := by kernel_rfl

set_option maxHeartbeats 1000000 in
theorem derive_any (b : Nat) (a : Option Addr) (cap : Nat) (l : List Nat) (w : World) (hb : By l) (hl : l.length ≤ 1000000) (hr : Lies w w.heap.size a (u8s l)) :
    Calls Try.prog 26 #[.pointer (some ⟨b, 0, none⟩), .slice a l.length cap] w fun e w' => (∃ v, e = .returned v ∧ Reads w' v (beh (dl l))) ∧ Below w.heap.size w w' := by
  by_cases h0 : l.length = 0
  · have hi : (l.length : Int) = 0 := by omega
    have hi1 : ((l.length : Int) == 0) = true := beq_iff_eq.2 hi
    have HE : Hid (beh (dl l) = []) := Lib.hid (by have : l = [] := List.eq_nil_of_length_eq_zero h0; subst this; rfl)
    clear hr h0
    go_enter Try.func26, Try.ntmps26
    go_wp2
    go_ret
    exact ⟨⟨_, rfl, by rw [HE.out]; exact Reads.nil _⟩, Below.refl _ _⟩
  · obtain ⟨N, hN⟩ : ∃ N, l.length - 1 = N := ⟨_, rfl⟩
    have hNi : (l.length : Int) - 1 = (N : Int) := by omega
    have hNc : (N : Int) ≤ 1000000 := by omega
    have ha0 : ¬ (l.length : Int) = 0 := by omega
    have ha1 : ((l.length : Int) == 0) = false := beq_false_of_ne ha0
    obtain ⟨b2, off, rfl, hbb, hcl⟩ := hr (by rw [u8s_length]; omega)
    obtain ⟨g, hg⟩ : ∃ g, g = w.heap.size := ⟨_, rfl⟩
    have HG := Lib.hid hg
    have HN := Lib.hid hN
    have HCL := Lib.hid hcl
    have HBB := Lib.hid hbb
    have HI8 : Hid ((Try.prog.info? 5).map (fun i => (i.zero, i.size, i.bytes)) = some (some (.int .u8 0), 1, 8) ∨ (Try.prog.info? 5).map (fun i => (i.zero, i.size, i.bytes)) = some (some (.int .u8 0), 1, 1)) := Lib.hid (Or.inr info_byte)
    have HLL : Hid (N ≤ N) := Lib.hid (Nat.le_refl _)
    have HLM0 : Hid (N ≤ 1099511627776) := Lib.hid (by omega)
    have HZC : Hid ((Value.int .u8 0).cells = #[.int .u8 0]) := Lib.hid rfl
    have HNB : Hid (N ≤ 1000000) := Lib.hid (by omega)
    have HLN : Hid (l.length = N + 1) := Lib.hid (by omega)
    have HB8 := Lib.hid hb
    clear hr hg hN hcl hbb h0 hl hb
    go_enter Try.func26, Try.ntmps26
    go_wp2_with (first
      | ((with_reducible refine wpMakeK 28 5 (.int .u8 0) N N Try.underlying28 HI8.out HZC.out HLL.out HLM0.out ?_ ?_); rfl; intro w1 r1 b1 s1; have R1 := Lib.hid r1; have B1 := Lib.hid b1; clear r1 b1 s1))
    have RG : Hid (Row w1 g 5 (u8s (tab N (fun i => if i < 0 ∧ (N - i) % 2 = 1 then sq l i else 0)))) := Lib.hid (by
      have h := R1.out
      rw [← HG.out] at h
      have e : u8s (tab N (fun i => if i < 0 ∧ (N - i) % 2 = 1 then sq l i else 0)) = List.replicate N (.int .u8 0) := by
        rw [show tab N (fun i => if i < 0 ∧ (N - i) % 2 = 1 then sq l i else 0) = List.replicate N 0 from (by rw [tab_zero]; exact tab_congr N fun n _ => by rw [if_neg (by omega)]), u8s, List.map_replicate]; rfl
      rw [e]; exact h)
    rw [← HG.out]
    clear R1
    go_loopw [21] (fun i wr => ∃ k : Nat, k ≤ N ∧ i = .int .i64 k ∧ Row wr g 5 (u8s (tab N (fun i => if i < k ∧ (N - i) % 2 = 1 then sq l i else 0))) ∧ Below w.heap.size w wr) (fun i _ => N - (intOf i).toNat)
    case atStart => exact ⟨0, Nat.zero_le _, rfl, RG.out, B1.out⟩
    case round =>
      clear RG B1
      obtain ⟨k, hk, rfl, hrow, hbw⟩ := hrel
      by_cases hlt : k < N
      · have hk1 : (k : Int) < N := by omega
        have hk2 : (k : Int) < l.length := by have := HLN.out; omega
        have hcell : wr.cell? ⟨b2, off + k, none⟩ = some (.int .u8 (sq l k : Int)) := by rw [sq_get l k (by have := HLN.out; omega)]; exact (hbw.cell (p := ⟨b2, off + k, none⟩) HBB.out).trans (HCL.out k _ (u8s_get l k (by have := HLN.out; omega)))
        obtain ⟨p, hp⟩ : ∃ p, N - k = p := ⟨_, rfl⟩
        have hpi : (N : Int) - (k : Int) = (p : Int) := by omega
        have hpb : (p : Int) ≤ 1000000 := by have := HNB.out; omega
        by_cases hodd : p % 2 = 1
        · obtain ⟨d, hd⟩ : ∃ d, sq l k = d := ⟨_, rfl⟩
          have hst : (tab N (fun i => if i < k ∧ (N - i) % 2 = 1 then sq l i else 0)).set k d = tab N (fun i => if i < k + 1 ∧ (N - i) % 2 = 1 then sq l i else 0) := by
            rw [tab_set]
            refine tab_congr N fun n _ => ?_
            by_cases e : n = k
            · subst e; rw [if_pos rfl, if_pos (by omega), hd]
            · rw [if_neg e]
              by_cases h : n < k ∧ (N - n) % 2 = 1
              · rw [if_pos h, if_pos (by omega)]
              · rw [if_neg h, if_neg (by omega)]
          have HST : Hid ((u8s (tab N (fun i => if i < k ∧ (N - i) % 2 = 1 then sq l i else 0))).set k (.int .u8 (d : Int)) = u8s (tab N (fun i => if i < k + 1 ∧ (N - i) % 2 = 1 then sq l i else 0))) := Lib.hid (by rw [u8s_set, hst])
          rw [hd] at hcell
          have ht1 : ((p : Int).tmod 2 == 1) = true := by rw [show (p : Int).tmod 2 = ((p % 2 : Nat) : Int) from rfl, hodd]; rfl
          have ht2 : (p : Int).tmod 2 = 1 := by rw [show (p : Int).tmod 2 = ((p % 2 : Nat) : Int) from rfl, hodd]; rfl
          have ht3 : (p : Int) % 2 = 1 := by omega
          have HROW := Lib.hid hrow
          have HBW := Lib.hid hbw
          have HLM : Hid (k < (u8s (tab N (fun i => if i < k ∧ (N - i) % 2 = 1 then sq l i else 0))).length) := Lib.hid (by rw [u8s_length, tab_length]; exact hlt)
          have HVC : Hid ((Value.int .u8 (d : Int)).cells = #[.int .u8 (d : Int)]) := Lib.hid rfl
          have HVO : Hid ((Value.int .u8 (d : Int)).oneCell' = true) := Lib.hid rfl
          have HS1 := Lib.hid info_byte1
          have HGB : Hid (w.heap.size ≤ g) := Lib.hid (by rw [HG.out]; exact Nat.le_refl _)
          clear hrow hbw hst hd hp hodd
          go_wp2_with (first
            | ((with_reducible refine HROW.out.wpStore1K k 5 (.int .u8 (d : Int)) HS1.out HLM.out HVC.out HVO.out ?_ ?_); rfl; intro w2 r2 o2 s2; have R2 := Lib.hid r2; have O2 := Lib.hid o2; clear r2 o2 s2))
          go_roundw
          case rel => exact ⟨k + 1, by omega, by go_num, by have h := R2.out; rw [HST.out] at h; exact h, HBW.out.trans (O2.out.below HGB.out HBW.out.size)⟩
          case measure => simp [intOf]; omega
        · have hst : tab N (fun i => if i < k ∧ (N - i) % 2 = 1 then sq l i else 0) = tab N (fun i => if i < k + 1 ∧ (N - i) % 2 = 1 then sq l i else 0) := by
            refine tab_congr N fun n _ => ?_
            by_cases e : n = k
            · subst e; rw [if_neg (by omega), if_neg (by omega)]
            · by_cases h : n < k ∧ (N - n) % 2 = 1
              · rw [if_pos h, if_pos (by omega)]
              · rw [if_neg h, if_neg (by omega)]
          rw [hst] at hrow
          have he : p % 2 = 0 := by omega
          have ht1 : ((p : Int).tmod 2 == 1) = false := by rw [show (p : Int).tmod 2 = ((p % 2 : Nat) : Int) from rfl, he]; rfl
          have ht2 : (p : Int).tmod 2 = 0 := by rw [show (p : Int).tmod 2 = ((p % 2 : Nat) : Int) from rfl, he]; rfl
          have ht3 : (p : Int) % 2 = 0 := by omega
          have HROW := Lib.hid hrow
          have HBW := Lib.hid hbw
          clear hrow hbw hst hp hodd he
          go_wp2
          go_roundw
          case rel => exact ⟨k + 1, by omega, by go_num, HROW.out, HBW.out⟩
          case measure => simp [intOf]; omega
      · have ek : k = N := by omega
        have e1 : tab N (fun i => if i < k ∧ (N - i) % 2 = 1 then sq l i else 0) = dl l := by
          rw [dl, HN.out]
          refine tab_congr N fun n hn => ?_
          by_cases h : (N - n) % 2 = 1
          · rw [if_pos (by omega), if_pos h]
          · rw [if_neg (by omega), if_neg h]
        rw [e1] at hrow
        have hdl : (dl l).length = N := by rw [dl, tab_length, HN.out]
        obtain ⟨D, hD⟩ : ∃ D, dl l = D := ⟨_, rfl⟩
        rw [hD] at hrow hdl
        have HBE : Hid (Calls Try.prog 39 #[.slice (some ⟨g, 0, none⟩) N N] wr fun e w' => (∃ v, e = .returned v ∧ Reads w' v (beh D)) ∧ wr = w') := Lib.hid (by
          have h := behind_any (some ⟨g, 0, none⟩) N D wr (by have := HNB.out; omega) (by omega) (fun _ => ⟨g, 0, rfl, hrow.lt, fun j u hu => by rw [Nat.zero_add, hrow.cell]; exact hu⟩)
          rw [hdl] at h
          exact h.mono fun e w' ⟨⟨v, h1, h2⟩, h3⟩ => ⟨⟨v, h1, by rw [← h3]; exact h2⟩, h3⟩)
        have HBW := Lib.hid hbw
        have HD := Lib.hid hD
        clear hrow hbw ek e1 hdl hD
        go_wp2_with (go_at_call 39; (with_reducible refine HBE.out.mono ?_); rintro e w2 ⟨⟨v, rfl, hv⟩, rfl⟩; have HV := Lib.hid hv; clear hv)
        go_ret
        exact ⟨⟨_, rfl, by rw [HD.out]; exact HV.out⟩, HBW.out⟩

end Go.Proofs.Ytligaipkdabmoaa
