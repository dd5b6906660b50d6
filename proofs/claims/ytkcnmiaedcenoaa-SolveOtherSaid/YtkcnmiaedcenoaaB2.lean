/- The texts PolyE, PolyF, InvS, PolyMath2, PolyMath3, PolyMath4, PolyMath5, PolyX, PolyH, PolyR, PolyS, PolyT, PolyMath6, PolyMath7, RsMath, RsA, RsB, RsC, RsD, RsE, Grow, RsF, RsG, RsH, PolyZ, one behind the other. -/
import Derived.Test.YtkcnmiaedcenoaaB1
/- Contracts of poly's Shift, Mul, Add. -/
namespace Go.Proofs.Ytkcnmiaedcenoaa
open Go.RowKit GfMath PolyMath
set_option linter.unusedVariables false

theorem row_lies {w : World} {g : Nat} {t : TypeId} {xs : List Value} (h : Row w g t xs) : Lies w w.heap.size (some ⟨g, 0, none⟩) xs := fun _ => ⟨g, 0, rfl, h.lt, fun j u hu => by rw [Nat.zero_add, h.cell]; exact hu⟩

/-- How far is shifted. -/
def shn (n : Int) : Nat := (min (max n 0) 1000).toNat
set_option maxRecDepth 100000 in
set_option maxHeartbeats 1000000 in
theorem shift_any (a : Option Addr) (cap : Nat) (l : List Nat) (n : Int) (w : World) (hl : l.length ≤ 1000000) (hcap : l.length ≤ cap) (hr : Lies w w.heap.size a (u8s l)) :
    Calls Try.prog 38 #[.slice a l.length cap, .int .i64 n] w fun e w' => (∃ v, e = .returned v ∧ Reads w' v (shl l (shn n))) ∧ Below w.heap.size w w' := by
  have hbl := beh_le l
  by_cases h0 : (beh l).length = 0
  · have HB := Lib.hid (behind_none a cap l w (by omega) hcap hr h0)
    have HE : Hid (shl l (shn n) = []) := Lib.hid (by unfold shl; exact if_pos h0)
    clear hr h0 hbl
    go_enter Try.func38, Try.ntmps38
    go_wp2_with (go_at_call 57; (with_reducible refine HB.out.mono ?_); rintro e w1 ⟨rfl, rfl⟩)
    go_ret
    exact ⟨⟨_, rfl, by rw [HE.out]; exact Reads.nil _⟩, Below.refl _ _⟩
  · have HB := Lib.hid (behind_some a cap l w (by omega) hcap hr (by omega))
    have hsh : shl l (shn n) = beh l ++ List.replicate (shn n) 0 := by unfold shl; exact if_neg h0
    have hmb : (beh l).length ≤ 1000000 := by omega
    obtain ⟨m, hm⟩ : ∃ m, beh l = m := ⟨_, rfl⟩
    rw [hm] at HB h0 hsh hmb
    obtain ⟨k, hk⟩ : ∃ k, shn n = k := ⟨_, rfl⟩
    have hki : min (max n 0) 1000 = (k : Int) := by rw [← hk, shn]; omega
    have hkb : k ≤ 1000 := by omega
    rw [hk] at hsh ⊢
    obtain ⟨M, hM⟩ : ∃ M, m.length + k = M := ⟨_, rfl⟩
    have hMi : (m.length : Int) + (k : Int) = (M : Int) := by omega
    have hMw : IntKind.i64.wrap (M : Int) = (M : Int) := by rw [IntKind.wrap_i64]; omega
    have hMb : (M : Int) ≤ 2000000 := by omega
    have hM0 : 0 ≤ (M : Int) := by omega
    have ha0 : ¬ (m.length : Int) = 0 := by omega
    have ha1 : ((m.length : Int) == 0) = false := beq_false_of_ne ha0
    have HSH := Lib.hid hsh
    have HI8 : Hid ((Try.prog.info? 5).map (fun i => (i.zero, i.size, i.bytes)) = some (some (.int .u8 0), 1, 8) ∨ (Try.prog.info? 5).map (fun i => (i.zero, i.size, i.bytes)) = some (some (.int .u8 0), 1, 1)) := Lib.hid (Or.inr info_byte)
    have HLL : Hid (M ≤ M) := Lib.hid (Nat.le_refl _)
    have HLM0 : Hid (M ≤ 1099511627776) := Lib.hid (by omega)
    have HZC : Hid ((Value.int .u8 0).cells = #[.int .u8 0]) := Lib.hid rfl
    have HML : Hid (m.length ≤ M) := Lib.hid (by omega)
    have HMK : Hid (M = m.length + k) := Lib.hid hM.symm
    have HM0 : Hid (0 < m.length) := Lib.hid (by omega)
    have HU : Hid ((u8s m).length = m.length) := Lib.hid (u8s_length m)
    have HU1 : Hid ((u8s m).all (·.oneCell') = true) := Lib.hid (u8s_one m)
    have HRP : Hid ((List.replicate m.length (Value.int .u8 0)).length = m.length) := Lib.hid List.length_replicate
    have HRW : Hid (∀ u : World, Row u w.heap.size 5 (List.replicate M (.int .u8 0)) → Row u w.heap.size 5 ([] ++ List.replicate m.length (.int .u8 0) ++ List.replicate k (.int .u8 0))) := Lib.hid fun u h => by rw [List.nil_append, List.replicate_append_replicate, ← HMK.out]; exact h
    have hcase : (n < 0 ∧ k = 0) ∨ (1000 < n ∧ k = 1000) ∨ (0 ≤ n ∧ n ≤ 1000 ∧ n = (k : Int)) := by omega
    rcases hcase with ⟨hn1, hk0⟩ | ⟨hn1, hk0⟩ | ⟨hn1, hn2, hn3⟩
    · have hMj : (m.length : Int) = (M : Int) := by omega
      have hb0 : ¬ (M : Int) = 0 := by omega
      have hb1 : ((M : Int) == 0) = false := beq_false_of_ne hb0
      clear hMi hk0
      have hq : min (max n 0) 1000 = (0 : Int) := by omega
      clear hr hm hk hM hsh hbl h0 hl hki
      go_enter Try.func38, Try.ntmps38
      go_wp2_with (first
        | (go_at_call 57; (with_reducible refine HB.out.mono ?_); rintro e w1 ⟨⟨g3, o3, c3, rfl, hc3, hm3⟩, rfl⟩; have HM3 := Lib.hid hm3; clear hm3 hc3)
        | ((with_reducible refine wpMakeK 22 5 (.int .u8 0) M M Try.underlying22 HI8.out HZC.out HLL.out HLM0.out ?_ ?_); rfl; intro w1 r1 b1 s1; have R1 := Lib.hid (HRW.out w1 r1); have B1 := Lib.hid b1; clear r1 b1 s1)
        | ((with_reducible refine R1.out.wpCopyLK (i := 0) (dLen := M) (m := m.length) rfl 22 M c3 Try.underlying22 one_byte (HM3.out.step B1.out) HU.out HM0.out HML.out HRP.out HU1.out ?_ ?_); rfl; intro w2 r2 o2 s2; have R2 := Lib.hid r2; have O2 := Lib.hid o2; clear r2 o2 s2))
      go_ret
      refine ⟨⟨_, rfl, ?_⟩, B1.out.trans (O2.out.below (Nat.le_refl _) B1.out.size)⟩
      rw [HSH.out]
      refine ⟨_, _, by rw [List.length_append, List.length_replicate, ← HMK.out]; rfl, by rw [List.length_append, List.length_replicate, ← HMK.out]; exact Nat.le_refl _, ?_⟩
      have h := R2.out
      rw [List.nil_append] at h
      have e : u8s (m ++ List.replicate k 0) = u8s m ++ List.replicate k (.int .u8 0) := by rw [u8s_append]; congr 1; rw [u8s, List.map_replicate]; rfl
      rw [e]
      exact row_lies h
    · have hMj : (m.length : Int) + 1000 = (M : Int) := by omega
      clear hMi hk0
      have hq : min (max n 0) 1000 = (1000 : Int) := by omega
      clear hr hm hk hM hsh hbl h0 hl hki
      go_enter Try.func38, Try.ntmps38
      go_wp2_with (first
        | (go_at_call 57; (with_reducible refine HB.out.mono ?_); rintro e w1 ⟨⟨g3, o3, c3, rfl, hc3, hm3⟩, rfl⟩; have HM3 := Lib.hid hm3; clear hm3 hc3)
        | ((with_reducible refine wpMakeK 22 5 (.int .u8 0) M M Try.underlying22 HI8.out HZC.out HLL.out HLM0.out ?_ ?_); rfl; intro w1 r1 b1 s1; have R1 := Lib.hid (HRW.out w1 r1); have B1 := Lib.hid b1; clear r1 b1 s1)
        | ((with_reducible refine R1.out.wpCopyLK (i := 0) (dLen := M) (m := m.length) rfl 22 M c3 Try.underlying22 one_byte (HM3.out.step B1.out) HU.out HM0.out HML.out HRP.out HU1.out ?_ ?_); rfl; intro w2 r2 o2 s2; have R2 := Lib.hid r2; have O2 := Lib.hid o2; clear r2 o2 s2))
      go_ret
      refine ⟨⟨_, rfl, ?_⟩, B1.out.trans (O2.out.below (Nat.le_refl _) B1.out.size)⟩
      rw [HSH.out]
      refine ⟨_, _, by rw [List.length_append, List.length_replicate, ← HMK.out]; rfl, by rw [List.length_append, List.length_replicate, ← HMK.out]; exact Nat.le_refl _, ?_⟩
      have h := R2.out
      rw [List.nil_append] at h
      have e : u8s (m ++ List.replicate k 0) = u8s m ++ List.replicate k (.int .u8 0) := by rw [u8s_append]; congr 1; rw [u8s, List.map_replicate]; rfl
      rw [e]
      exact row_lies h
    · subst hn3
      have hq : max (k : Int) 0 = (k : Int) := by omega
      have hq2 : min (k : Int) 1000 = (k : Int) := by omega
      clear hr hm hk hM hsh hbl h0 hl hki
      go_enter Try.func38, Try.ntmps38
      go_wp2_with (first
        | (go_at_call 57; (with_reducible refine HB.out.mono ?_); rintro e w1 ⟨⟨g3, o3, c3, rfl, hc3, hm3⟩, rfl⟩; have HM3 := Lib.hid hm3; clear hm3 hc3)
        | ((with_reducible refine wpMakeK 22 5 (.int .u8 0) M M Try.underlying22 HI8.out HZC.out HLL.out HLM0.out ?_ ?_); rfl; intro w1 r1 b1 s1; have R1 := Lib.hid (HRW.out w1 r1); have B1 := Lib.hid b1; clear r1 b1 s1)
        | ((with_reducible refine R1.out.wpCopyLK (i := 0) (dLen := M) (m := m.length) rfl 22 M c3 Try.underlying22 one_byte (HM3.out.step B1.out) HU.out HM0.out HML.out HRP.out HU1.out ?_ ?_); rfl; intro w2 r2 o2 s2; have R2 := Lib.hid r2; have O2 := Lib.hid o2; clear r2 o2 s2))
      go_ret
      refine ⟨⟨_, rfl, ?_⟩, B1.out.trans (O2.out.below (Nat.le_refl _) B1.out.size)⟩
      rw [HSH.out]
      refine ⟨_, _, by rw [List.length_append, List.length_replicate, ← HMK.out]; rfl, by rw [List.length_append, List.length_replicate, ← HMK.out]; exact Nat.le_refl _, ?_⟩
      have h := R2.out
      rw [List.nil_append] at h
      have e : u8s (m ++ List.replicate k 0) = u8s m ++ List.replicate k (.int .u8 0) := by rw [u8s_append]; congr 1; rw [u8s, List.map_replicate]; rfl
      rw [e]
      exact row_lies h

theorem Polys.get {w : World} {ts : List Hd} {ls : List (List Nat)} (h : Polys w ts ls) (k : Nat) (hk : k < ls.length) :
    ∃ a c, ts[k]'(by rw [h.len]; exact hk) = (a, ls[k].length, c) ∧ ls[k].length ≤ c ∧ c ≤ 140737488351232 ∧ By ls[k] ∧ Lies w w.heap.size a (u8s ls[k]) := by
  obtain ⟨h1, h2, h3, h4, h5⟩ := h.at_ k (by rw [h.len]; exact hk) hk
  have hk' : k < ts.length := by rw [h.len]; exact hk
  refine ⟨(ts[k]'hk').1, (ts[k]'hk').2.2, ?_, h2, h3, h4, h5⟩
  rw [← h1]
theorem Polys.by {w : World} {ts : List Hd} {ls : List (List Nat)} (h : Polys w ts ls) : ∀ l ∈ ls, By l := by
  intro l hl
  obtain ⟨i, hi, rfl⟩ := List.mem_iff_getElem.1 hl
  exact (h.at_ i (by rw [h.len]; exact hi) hi).2.2.2.1

set_option maxHeartbeats 1000000 in
theorem pmul_any (b : Nat) (a : Option Addr) (cap : Nat) (ts : List Hd) (ls : List (List Nat)) (w : World) (hf : Fld w b) (hp : Polys w ts ls) (hn : ls.length ≤ 100) (hl : ∀ l ∈ ls, l.length ≤ 5000) (hr : Lies w w.heap.size a (slvs ts)) :
    Calls Try.prog 37 #[.pointer (some ⟨b, 0, none⟩), .slice a ls.length cap] w fun e w' => (∃ v, e = .returned v ∧ Reads w' v (pms ls)) ∧ Below w.heap.size w w' := by
  have HF := Lib.hid hf
  have HR := Lib.hid hr
  have HP := Lib.hid hp
  have HL := Lib.hid hl
  have HN : Hid (ls.length ≤ 100) := Lib.hid hn
  have H0 : Hid (Reads (w.alloc (.cells #[.int .u8 1] 5)) (.slice (some ⟨w.heap.size, 0, none⟩) 1 1) (pms [])) := Lib.hid ⟨_, 1, rfl, by decide, Lies.new [.int .u8 1] w _⟩
  clear hf hr hp hl
  go_enter Try.func37, Try.ntmps37
  go_wp2
  go_loopw [5, 13] (fun p i wr => ∃ k : Nat, k ≤ ls.length ∧ i = .int .i64 k ∧ Reads wr p (pms (ls.take k)) ∧ Below w.heap.size w wr) (fun _ i _ => ls.length - (intOf i).toNat)
  case atStart => exact ⟨0, Nat.zero_le _, rfl, H0.out, alloc_below _ _⟩
  case round =>
    clear H0
    obtain ⟨k, hk, rfl, ⟨ap, cp, rfl, hcp, hp⟩, hbw⟩ := hrel
    by_cases hlt : k < ls.length
    · have hk1 : (k : Int) < ls.length := by omega
      obtain ⟨q, c, ht, hqc, hc1, hq8, hql⟩ := HP.out.get k hlt
      have hkt : k < ts.length := by rw [HP.out.len]; exact hlt
      obtain ⟨b2, off, rfl, hbb, hcl⟩ := HR.out (by rw [slvs_length]; omega)
      have hcell : wr.cell? ⟨b2, off + k, none⟩ = some (.slice q ls[k].length c) := by
        have h1 := (hbw.cell (p := ⟨b2, off + k, none⟩) hbb).trans (hcl k _ (slvs_get ts k hkt))
        rw [ht] at h1
        exact h1
      have hst : pms (ls.take (k + 1)) = pm (pms (ls.take k)) (beh ls[k]) := by rw [take_snoc ls k hlt, pms_snoc]
      have hby : ∀ l ∈ ls.take k, By l := fun l h => HP.out.by l (List.mem_of_mem_take h)
      obtain ⟨hP8, _⟩ := pms_all (ls.take k) hby
      have hPl := pms_le (ls.take k) 5000 fun l h => HL.out l (List.mem_of_mem_take h)
      rw [List.length_take] at hPl
      have hPl2 : (pms (ls.take k)).length ≤ 1000000 := by have := HN.out; omega
      have hql5 := HL.out ls[k] (List.getElem_mem hlt)
      obtain ⟨l, hle⟩ : ∃ l, ls[k] = l := ⟨_, rfl⟩
      rw [hle] at hcell hst hqc hq8 hql hql5
      obtain ⟨P, hP⟩ : ∃ P, pms (ls.take k) = P := ⟨_, rfl⟩
      rw [hP] at hst hp hcp hP8 hPl2
      rw [hP]
      have hmb := beh_le l
      have hm8 := hq8.beh
      have HBE := Lib.hid (behind_any q c l wr (by omega) hqc (hql.step hbw))
      obtain ⟨m, hm⟩ : ∃ m, beh l = m := ⟨_, rfl⟩
      rw [hm] at HBE hst hmb hm8
      have HT : Hid (∀ (u : World) (q2 : Option Addr) (c2 : Nat), Fld u b → Lies u u.heap.size ap (u8s P) → Lies u u.heap.size q2 (u8s m) → Calls Try.prog 21 #[.pointer (some ⟨b, 0, none⟩), .slice ap P.length cp, .slice q2 m.length c2] u fun e w' => (∃ v, e = .returned v ∧ Reads w' v (pm P m)) ∧ Below u.heap.size u w') :=
        Lib.hid fun u q2 c2 h3 h4 h5 => ptimes_any b ap q2 cp c2 P m u h3 hP8 hm8 hPl2 (by omega) h4 h5
      have HPP := Lib.hid hp
      have HS := Lib.hid hst
      have HW := Lib.hid hbw
      have HFR : Hid (Fld wr b) := Lib.hid (HF.out.step hbw)
      clear hp hst hbw hcl hbb hP hcp hP8 hPl hPl2 hql hqc hq8 hle hm8 hmb hm ht hql5 hc1
      go_wp2_with (first
        | (go_at_call 57; (with_reducible refine HBE.out.mono ?_); rintro e w1 ⟨⟨v, rfl, q2, c2, rfl, _, hv⟩, rfl⟩; have HV := Lib.hid hv; clear hv)
        | (go_at_call 21; (with_reducible refine (HT.out wr q2 c2 HFR.out HPP.out HV.out).mono ?_); rintro e w2 ⟨⟨v, rfl, hv⟩, b2⟩; have V2 := Lib.hid hv; have B2 := Lib.hid b2; clear hv b2))
      go_roundw
      case rel => exact ⟨k + 1, by omega, by go_num, by rw [HS.out]; exact V2.out, HW.out.next B2.out⟩
      case measure => simp [intOf]; omega
    · have ek : k = ls.length := by omega
      have HV : Hid (Reads wr (.slice ap (pms (ls.take k)).length cp) (pms ls)) := Lib.hid (by
        rw [ek, List.take_of_length_le (Nat.le_refl _)] at hp hcp ⊢
        exact ⟨ap, cp, rfl, hcp, hp⟩)
      have HW := Lib.hid hbw
      clear hp hbw
      go_wp2
      go_ret
      exact ⟨⟨_, rfl, HV.out⟩, HW.out⟩

end Go.Proofs.Ytkcnmiaedcenoaa

/- The contract of poly's Add. -/
namespace Go.Proofs.Ytkcnmiaedcenoaa
open Go.RowKit GfMath PolyMath
set_option linter.unusedVariables false

theorem u8s_zero (N : Nat) : u8s (List.replicate N 0) = List.replicate N (.int .u8 0) := by rw [u8s, List.map_replicate]; rfl
theorem hi_zero (N : Nat) : hi N (sumf []) = List.replicate N 0 := (tab_zero N).symm

set_option maxRecDepth 100000 in
set_option maxHeartbeats 1000000 in
theorem padd_any (b : Nat) (a : Option Addr) (cap : Nat) (ts : List Hd) (ls : List (List Nat)) (w : World) (hp : Polys w ts ls) (hn : ls.length ≤ 100) (hl : ∀ l ∈ ls, l.length ≤ 5000) (hr : Lies w w.heap.size a (slvs ts)) :
    Calls Try.prog 36 #[.pointer (some ⟨b, 0, none⟩), .slice a ls.length cap] w fun e w' => (∃ v, e = .returned v ∧ Reads w' v (addl ls)) ∧ Below w.heap.size w w' := by
  have HR := Lib.hid hr
  have HP := Lib.hid hp
  have HL := Lib.hid hl
  have hN := mx_le ls 5000 hl
  obtain ⟨N, hNe⟩ : ∃ N, mx ls = N := ⟨_, rfl⟩
  rw [hNe] at hN
  have HNE := Lib.hid hNe
  have HI8 : Hid ((Try.prog.info? 5).map (fun i => (i.zero, i.size, i.bytes)) = some (some (.int .u8 0), 1, 8) ∨ (Try.prog.info? 5).map (fun i => (i.zero, i.size, i.bytes)) = some (some (.int .u8 0), 1, 1)) := Lib.hid (Or.inr info_byte)
  have HLL : Hid (N ≤ N) := Lib.hid (Nat.le_refl _)
  have HLM0 : Hid (N ≤ 1099511627776) := Lib.hid (by omega)
  have HZC : Hid ((Value.int .u8 0).cells = #[.int .u8 0]) := Lib.hid rfl
  have HS1 := Lib.hid info_byte1
  have hNi : (N : Int) ≤ 5000 := by omega
  obtain ⟨g, hg⟩ : ∃ g, g = w.heap.size := ⟨_, rfl⟩
  have HG := Lib.hid hg
  clear hr hp hl hNe hg
  go_enter Try.func36, Try.ntmps36
  go_wp2
  go_loop [5, 18] (fun n i => ∃ k : Nat, k ≤ ls.length ∧ i = .int .i64 k ∧ n = .int .i64 (mx (ls.take k) : Int)) (fun _ i => ls.length - (intOf i).toNat)
  case atStart => exact ⟨0, Nat.zero_le _, rfl, rfl⟩
  case round =>
    obtain ⟨k, hk, rfl, rfl⟩ := hrel
    by_cases hlt : k < ls.length
    · have hk1 : (k : Int) < ls.length := by omega
      obtain ⟨q, c, ht, hqc, hc1, hq8, hql⟩ := HP.out.get k hlt
      have hkt : k < ts.length := by rw [HP.out.len]; exact hlt
      obtain ⟨b2, off, rfl, hbb, hcl⟩ := HR.out (by rw [slvs_length]; omega)
      have hcell : w.cell? ⟨b2, off + k, none⟩ = some (.slice q ls[k].length c) := by
        have h1 := hcl k _ (slvs_get ts k hkt)
        rw [ht] at h1
        exact h1
      have hst : mx (ls.take (k + 1)) = max (mx (ls.take k)) ls[k].length := by rw [take_snoc ls k hlt, mx_snoc]
      have hm1 := mx_le (ls.take k) 5000 fun l h => HL.out l (List.mem_of_mem_take h)
      have hm2 := HL.out ls[k] (List.getElem_mem hlt)
      obtain ⟨M, hM⟩ : ∃ M, mx (ls.take k) = M := ⟨_, rfl⟩
      obtain ⟨d, hd⟩ : ∃ d, ls[k].length = d := ⟨_, rfl⟩
      rw [hM, hd] at hst
      rw [hM] at hm1 ⊢
      rw [hd] at hm2 hcell
      by_cases hMd : M < d
      · have HS : Hid (mx (ls.take (k + 1)) = d) := Lib.hid (by rw [hst]; omega)
        have h1 : (M : Int) < d := by omega
        have hq : max (M : Int) (d : Int) = (d : Int) := by omega
        clear hst hM hd hcl hbb ht hqc hc1 hq8 hql
        go_wp2
        go_round
        case rel => exact ⟨k + 1, by omega, by go_num, by rw [HS.out]⟩
        case measure => simp [intOf]; omega
      · have HS : Hid (mx (ls.take (k + 1)) = M) := Lib.hid (by rw [hst]; omega)
        have h1 : (d : Int) ≤ M := by omega
        have hq : max (M : Int) (d : Int) = (M : Int) := by omega
        clear hst hM hd hcl hbb ht hqc hc1 hq8 hql
        go_wp2
        go_round
        case rel => exact ⟨k + 1, by omega, by go_num, by rw [HS.out]⟩
        case measure => simp [intOf]; omega
    · have ek : k = ls.length := by omega
      rw [ek, List.take_of_length_le (Nat.le_refl _), HNE.out]
      clear ek hlt
      go_wp2_with (first
        | ((with_reducible refine wpMakeK 22 5 (.int .u8 0) N N Try.underlying22 HI8.out HZC.out HLL.out HLM0.out ?_ ?_); rfl; intro w1 r1 b1 s1; have R1 := Lib.hid r1; have B1 := Lib.hid b1; clear r1 b1 s1))
      have RG : Hid (Row w1 g 5 (u8s (hi N (sumf (ls.take 0))))) := Lib.hid (by
        have h := R1.out
        rw [← HG.out] at h
        rw [List.take_zero, hi_zero, u8s_zero]
        exact h)
      rw [← HG.out]
      clear R1
      go_loopw [31] (fun i wr => ∃ k : Nat, k ≤ ls.length ∧ i = .int .i64 k ∧ Row wr g 5 (u8s (hi N (sumf (ls.take k)))) ∧ Below w.heap.size w wr) (fun i _ => ls.length - (intOf i).toNat)
      case atStart => exact ⟨0, Nat.zero_le _, rfl, RG.out, B1.out⟩
      case round =>
        clear RG B1
        obtain ⟨k, hk, rfl, hrow, hbw⟩ := hrel
        by_cases hlt : k < ls.length
        · have hk1 : (k : Int) < ls.length := by omega
          obtain ⟨q, c, ht, hqc, hc1, hq8, hql⟩ := HP.out.get k hlt
          have hkt : k < ts.length := by rw [HP.out.len]; exact hlt
          obtain ⟨b2, off, rfl, hbb, hcl⟩ := HR.out (by rw [slvs_length]; omega)
          have hcell : wr.cell? ⟨b2, off + k, none⟩ = some (.slice q ls[k].length c) := by
            have h1 := (hbw.cell (p := ⟨b2, off + k, none⟩) hbb).trans (hcl k _ (slvs_get ts k hkt))
            rw [ht] at h1
            exact h1
          have hm2 := HL.out ls[k] (List.getElem_mem hlt)
          have hmx := le_mx ls ls[k] (List.getElem_mem hlt)
          rw [HNE.out] at hmx
          have hsl := sumf_lt (ls.take k) fun l h => HP.out.by l (List.mem_of_mem_take h)
          have hfull := adj_full N (ls.take k) ls[k] hmx
          rw [← take_snoc ls k hlt] at hfull
          obtain ⟨p, hpe⟩ : ∃ p, ls[k] = p := ⟨_, rfl⟩
          rw [hpe] at hcell hqc hq8 hql hm2 hmx hfull
          obtain ⟨S, hS⟩ : ∃ S, sumf (ls.take k) = S := ⟨_, rfl⟩
          rw [hS] at hrow hsl hfull
          rw [← adj_zero N S p] at hrow
          have HFULL := Lib.hid hfull
          have HSL := Lib.hid hsl
          have HQ8 := Lib.hid hq8
          have HQL := Lib.hid hql
          have HQW : Hid (w.heap.size ≤ w.heap.size) := Lib.hid (Nat.le_refl _)
          have R0 := Lib.hid hrow
          have B0 := Lib.hid hbw
          by_cases hp0 : p.length = 0
          · have hDi : (N : Int) - (p.length : Int) = (N : Int) := by omega
            have hDN : N - N = p.length := by omega
            have hm3 : (p.length : Int) ≤ 5000 := by omega
            have hp1 : (p.length : Int) = 0 := by omega
            clear hcl hrow hbw hbb ht hc1 hq8 hql hsl hfull hpe hS
            go_wp2
            go_loopw [43] (fun i wr => i = .int .i64 0 ∧ Row wr g 5 (u8s (tab N (adj N S p p.length))) ∧ Below w.heap.size w wr) (fun i _ => p.length - (intOf i).toNat)
            case atStart => exact ⟨rfl, by rw [hp0]; exact R0.out, B0.out⟩
            case round =>
              clear R0 B0
              obtain ⟨rfl, hrow, hbw⟩ := hrel
              have HROW : Hid (Row wr g 5 (u8s (hi N (sumf (ls.take (k + 1)))))) := Lib.hid (by rw [← HFULL.out]; exact hrow)
              have HBW := Lib.hid hbw
              clear hrow hbw
              go_wp2
              go_roundw
              case rel => exact ⟨k + 1, by omega, by go_num, HROW.out, HBW.out⟩
              case measure => simp [intOf]; omega
          · obtain ⟨D, hD⟩ : ∃ D, N - p.length = D := ⟨_, rfl⟩
            have HD := Lib.hid hD
            have hND : ¬ N = D := by omega
            have hDi : (N : Int) - (p.length : Int) = (D : Int) := by omega
            have hDN : N - D = p.length := by omega
            have hDl : (D : Int) ≤ N := by omega
            have hD0 : 0 ≤ (D : Int) := by omega
            have hm3 : (p.length : Int) ≤ 5000 := by omega
            clear hcl hrow hbw hbb ht hc1 hq8 hql hsl hfull hpe hS hD
            go_wp2
            go_loopw [43] (fun i wr => ∃ j : Nat, j ≤ p.length ∧ i = .int .i64 j ∧ Row wr g 5 (u8s (tab N (adj N S p j))) ∧ Below w.heap.size w wr) (fun i _ => p.length - (intOf i).toNat)
            case atStart => exact ⟨0, Nat.zero_le _, rfl, R0.out, B0.out⟩
            case round =>
              clear R0 B0
              obtain ⟨j, hj, rfl, hrow, hbw⟩ := hrel
              by_cases hlj : j < p.length
              · have hj1 : (j : Int) < p.length := by omega
                obtain ⟨b3, off3, rfl, hbb3, hcl3⟩ := HQL.out (by rw [u8s_length]; omega)
                have hcell3 : wr.cell? ⟨b3, off3 + j, none⟩ = some (.int .u8 (sq p j : Int)) := by rw [sq_get p j hlj]; exact (hbw.cell (p := ⟨b3, off3 + j, none⟩) hbb3).trans (hcl3 j _ (u8s_get p j hlj))
                have hDj : D + j < N := by omega
                have hcp : wr.cell? ⟨g, D + j, none⟩ = some (.int .u8 (adj N S p j (D + j) : Int)) := by
                  rw [hrow.cell, u8s, List.getElem?_map, tab_get _ _ _ hDj]; rfl
                have hst := adj_step N S p j
                rw [HD.out] at hst
                have hx8 := adj_lt (N := N) HSL.out HQ8.out j (D + j)
                have hy8 := HQ8.out.sq j
                obtain ⟨x, hx⟩ : ∃ x, adj N S p j (D + j) = x := ⟨_, rfl⟩
                obtain ⟨y, hy⟩ : ∃ y, sq p j = y := ⟨_, rfl⟩
                rw [hx, hy] at hst
                rw [hx] at hcp hx8
                rw [hy] at hcell3 hy8
                have HA0 := fun (u : World) => add2 b x y 5 hx8 hy8 u
                obtain ⟨r, hr⟩ : ∃ r, x ^^^ y = r := ⟨_, rfl⟩
                rw [hr] at hst HA0
                have HA := Lib.hid HA0
                have HROW := Lib.hid hrow
                have HBW := Lib.hid hbw
                have HGB : Hid (w.heap.size ≤ g) := Lib.hid (by rw [HG.out]; exact Nat.le_refl _)
                have HLM : Hid (D + j < (u8s (tab N (adj N S p j))).length) := Lib.hid (by rw [u8s_length, tab_length]; exact hDj)
                have HVC : Hid ((Value.int .u8 (r : Int)).cells = #[.int .u8 (r : Int)]) := Lib.hid rfl
                have HVO : Hid ((Value.int .u8 (r : Int)).oneCell' = true) := Lib.hid rfl
                have HST : Hid ((u8s (tab N (adj N S p j))).set (D + j) (.int .u8 (r : Int)) = u8s (tab N (adj N S p (j + 1)))) := Lib.hid (by rw [u8s_set, hst])
                clear HA0 hrow hbw hst hx hy hr hcl3 hbb3 hx8 hy8
                go_wp2_with (first
                  | (go_at_call 43; (with_reducible refine (HA.out wr).mono ?_); rintro e w1 ⟨rfl, b1⟩; have B1 := Lib.hid b1; have R1 := Lib.hid (HROW.out.step b1); clear b1)
                  | ((with_reducible refine R1.out.wpStore1K (D + j) 5 (.int .u8 (r : Int)) HS1.out HLM.out HVC.out HVO.out ?_ ?_); rfl; intro w2 r2 o2 s2; have R2 := Lib.hid r2; have O2 := Lib.hid o2; clear r2 o2 s2))
                go_roundw
                case rel => exact ⟨j + 1, by omega, by go_num, by have h := R2.out; rw [HST.out] at h; exact h, (HBW.out.next B1.out).trans (O2.out.below HGB.out (HBW.out.next B1.out).size)⟩
                case measure => simp [intOf]; omega
              · have ej : j = p.length := by omega
                have HROW : Hid (Row wr g 5 (u8s (hi N (sumf (ls.take (k + 1)))))) := Lib.hid (by rw [← HFULL.out, ← ej]; exact hrow)
                have HBW := Lib.hid hbw
                clear hrow hbw ej
                go_wp2
                go_roundw
                case rel => exact ⟨k + 1, by omega, by go_num, HROW.out, HBW.out⟩
                case measure => simp [intOf]; omega
        · have ek : k = ls.length := by omega
          rw [ek, List.take_of_length_le (Nat.le_refl _)] at hrow
          obtain ⟨T, hT⟩ : ∃ T, hi N (sumf ls) = T := ⟨_, rfl⟩
          have hTl : T.length = N := by rw [← hT, hi_length]
          rw [hT] at hrow
          have HBE : Hid (Calls Try.prog 57 #[.slice (some ⟨g, 0, none⟩) N N] wr fun e w' => (∃ v, e = .returned v ∧ Reads w' v (addl ls)) ∧ wr = w') := Lib.hid (by
            have h := behind_any (some ⟨g, 0, none⟩) N T wr (by omega) (by omega) (row_lies hrow)
            rw [hTl] at h
            exact h.mono fun e w' ⟨⟨v, h1, h2⟩, h3⟩ => ⟨⟨v, h1, by rw [addl, HNE.out, hT, ← h3]; exact h2⟩, h3⟩)
          have HBW := Lib.hid hbw
          clear hrow hbw ek hT hTl
          go_wp2_with (go_at_call 57; (with_reducible refine HBE.out.mono ?_); rintro e w2 ⟨⟨v, rfl, hv⟩, rfl⟩; have HV := Lib.hid hv; clear hv)
          go_ret
          exact ⟨⟨_, rfl, HV.out⟩, HBW.out⟩

end Go.Proofs.Ytkcnmiaedcenoaa

/- A region that draws its order and whose last operation writes into one of the call's blocks: all but some late ones (X: pure, of no world) stand ahead of it. -/
namespace Go.Proofs.Ytkcnmiaedcenoaa
open Go.RowKit

section
variable {P : Program} {ops : Array Oper} {Q : Exit → Act → World → Prop}

/-- Each operation waits for none behind it, as far as waiting binds. -/
def ordX (ops : Array Oper) : Bool := (List.range ops.size).all fun i => (ops[i]?.map fun o => o.after.all fun e => !Region.binds .any e || decide (e.on < i)).getD true

theorem all_listedX (hord : ordX ops = true) {listed : Array Bool} (hs : listed.size = ops.size) (h : Region.ready .any ops listed = []) : ∀ i, listed.getD i true = true := by
  intro i
  induction i using Nat.strongRecOn with
  | ind i ih =>
    cases hi : listed.getD i true with
    | true => rfl
    | false =>
      have hlt : i < ops.size := by
        rw [← hs]
        by_cases hl : i < listed.size
        · exact hl
        · simp [Array.getD, hl] at hi
      have : i ∈ Region.ready .any ops listed := by
        refine mem_ready.2 ⟨hlt, hi, _, Array.getElem?_eq_getElem hlt, fun e he hbd => ?_⟩
        unfold ordX at hord
        rw [List.all_eq_true] at hord
        have h1 := hord i (List.mem_range.2 hlt)
        rw [Array.getElem?_eq_getElem hlt] at h1
        simp only [Option.map_some, Option.getD_some, Array.all_eq_true_iff_forall_mem] at h1
        have h2 := h1 e (by simpa using he)
        have hlt2 : e.on < i := by simpa [hbd] using h2
        have h3 := ih e.on hlt2
        have hl : e.on < listed.size := by omega
        simpa [Array.getD, hl] using h3
      rw [h] at this
      cases this

/-- An operation that yields nothing leaves the frame. -/
theorem upon_none {o : Oper} {a : Act} {R : World → Prop} (hd : o.dst = none) (r : Result Next)
    (h : o.upon P a (fun a' w' => a'.defers = a.defers ∧ R w') Q r) : o.upon P a (fun a' w' => a' = a ∧ R w') Q r := by
  have hput : ∀ v, a.put o.dst v = a := fun v => by rw [hd]; rfl
  have hk : ∀ v w', (fun (a' : Act) (w' : World) => a'.defers = a.defers ∧ R w') (a.put o.dst v) w' → (fun (a' : Act) (w' : World) => a' = a ∧ R w') (a.put o.dst v) w' := fun v w' h => ⟨hput v, h.2⟩
  cases r with
  | ok n w' =>
    cases n with
    | value v => exact hk v w' h
    | skip => exact hk undef w' h
    | defer e =>
      simp only [Oper.upon, hd, Act.put] at h
      have := congrArg List.length h.1
      simp at this
    | enter f args =>
      simp only [Oper.upon] at h ⊢
      refine Calls.mono h fun e w'' he => ?_
      cases e with
      | returned v => exact hk v w'' he
      | panicked c => exact he
      | outgrown => exact he
    | row row args =>
      simp only [Oper.upon] at h ⊢
      exact Rows.mono h fun v w'' he => hk v w'' he
    | _ => exact h
  | halt x w' => cases x <;> exact h
theorem wpOp_none {i : Nat} {o : Oper} {a : Act} {w : World} {R : World → Prop} (ho : ops[i]? = some o) (hd : o.dst = none)
    (h : wpOp P ops Q i (fun a' w' => a'.defers = a.defers ∧ R w') a w) : wpOp P ops Q i (fun a' w' => a' = a ∧ R w') a w := by
  unfold wpOp at *
  rw [ho] at h ⊢
  simp only at h ⊢
  split at h
  · rename_i hw
    rw [if_pos hw]
    rcases h with h | h
    · exact Or.inl (upon_none hd _ h)
    · exact Or.inr h
  · rename_i hw
    rw [if_neg hw]
    refine ⟨by rw [hd]; rfl, h.2⟩

/-- As region_inv, where some edges bind in one of the two orders alone. -/
theorem region_invX {id : Nat} {a : Act} {w : World} (D : List (Nat × Nat)) (φ : Nat → Value → World → Prop) (G : World → Prop) (hm : P.follows .mixedOrders = true)
    (hord : ordX ops = true) (hD1 : D.map (·.1) = List.range ops.size) (hD2 : (D.map (·.2)).Nodup) (hD3 : (D.all fun p => (ops[p.1]?.bind (·.dst)) == some p.2) = true) (hD4 : (D.all fun p => Nat.blt p.2 a.tmps.size) = true)
    (hmono : ∀ i v w w', φ i v w → Below w.heap.size w w' → φ i v w') (hG : G w.drew)
    (step : ∀ p ∈ D, ∀ u w, G w → Came ops φ u w p.1 →
      wpOp P ops Q p.1 (fun a' w' => a'.defers = (puts D a u).defers ∧ φ p.1 (a'.tmps.getD p.2 undef) w' ∧ G w' ∧ Below w.heap.size w w') (puts D a u) w)
    (fin : ∀ u w, G w → (∀ p ∈ D, φ p.1 (u p.1) w) → Q .normal (puts D a u) w) : (Code.region id ops true).wp P Q a w := by
  refine wp_region_any hm ?_
  have hnd1 : (D.map (·.1)).Nodup := by rw [hD1]; exact List.nodup_range
  have key : ∀ (fuel : Nat) (listed : Array Bool) (w : World) (u : Nat → Value) (L : List Nat), listed.size = ops.size → L.length ≤ fuel → (∀ i, listed.getD i true = false → i ∈ L) → G w →
      (∀ i, i < ops.size → listed.getD i true = true → φ i (u i) w) → wpAny P .any ops Q fuel listed (puts D a u) w := by
    intro fuel
    induction fuel with
    | zero =>
      intro listed w u L hs hL hin hg hφ
      have hall : ∀ i, listed.getD i true = true := fun i => by
        cases hi : listed.getD i true with
        | true => rfl
        | false => have := hin i hi; rw [List.length_eq_zero_iff.1 (Nat.le_zero.1 hL)] at this; cases this
      refine ⟨?_, fin u w hg fun p hp => hφ p.1 ?_ (hall _)⟩
      · rw [List.eq_nil_iff_forall_not_mem]
        intro i hi
        have := (mem_ready.1 hi).2.1
        rw [hall i] at this
        cases this
      · have : p.1 ∈ D.map (·.1) := List.mem_map.2 ⟨p, hp, rfl⟩
        rw [hD1] at this
        exact List.mem_range.1 this
    | succ fuel ih =>
      intro listed w u L hs hL hin hg hφ
      refine ⟨fun hr => fin u w hg fun p hp => hφ p.1 ?_ (all_listedX hord hs hr _), fun i hi => ?_⟩
      · have : p.1 ∈ D.map (·.1) := List.mem_map.2 ⟨p, hp, rfl⟩
        rw [hD1] at this
        exact List.mem_range.1 this
      · obtain ⟨h1, h2, o, ho, h3⟩ := mem_ready.1 hi
        have hiD : i ∈ D.map (·.1) := by rw [hD1]; exact List.mem_range.2 h1
        obtain ⟨⟨i', d⟩, hp, rfl⟩ := List.mem_map.1 hiD
        have hst := step _ hp u w hg (fun o' ho' e he hb => by
          have heq : o' = o := Option.some.inj (ho'.symm.trans ho)
          subst heq
          have hl := h3 e he hb
          have hlt : e.on < ops.size := by
            rw [← hs]
            by_cases hl2 : e.on < listed.size
            · exact hl2
            · simp [Array.getD, hl2] at hl
          refine hφ e.on hlt ?_
          have hl2 : e.on < listed.size := by omega
          simpa [Array.getD, hl2] using hl)
        have hd3 := List.all_eq_true.1 hD3 _ hp
        have hd4 := List.all_eq_true.1 hD4 _ hp
        simp only [ho, Option.bind_some, beq_iff_eq] at hd3
        have hd5 : d < a.tmps.size := by simp [Nat.blt] at hd4; omega
        have hst2 := wpOp_value (R := fun v w' => φ i' v w' ∧ G w' ∧ Below w.heap.size w w') ho hd3 (by rw [puts_size]; exact hd5) hst
        clear hst
        refine wpOp_mono ?_ hst2
        rintro a' w' ⟨v, rfl, hv, hg', hb'⟩
        rw [puts_put u i' d v D a hnd1 hD2 hp]
        refine ih _ w' (upd u i' v) (L.erase i') (by simpa using hs) ?_ ?_ hg' ?_
        · rw [List.length_erase_of_mem (hin i' h2)]
          omega
        · intro j hj
          have hji : j ≠ i' := fun e => by
            subst e
            have : j < listed.size := by omega
            simp [Array.getD, this] at hj
          refine (List.mem_erase_of_ne hji).2 (hin j ?_)
          simp only [Array.getD] at hj ⊢
          split at hj
          · rename_i hl
            rw [Array.size_setIfInBounds] at hl
            rw [dif_pos hl]
            rwa [Array.getInternal_eq_getElem, Array.getElem_setIfInBounds_ne (h := Ne.symm hji)] at hj
          · cases hj
        · intro j hj hl
          by_cases hji : j = i'
          · subst hji
            simpa [upd] using hv
          · have e1 : upd u i' v j = u j := by simp [upd, hji]
            rw [e1]
            refine hmono j _ w w' (hφ j hj ?_) hb'
            have hl2 : j < listed.size := by omega
            simp only [Array.getD, Array.size_setIfInBounds, hl2, dif_pos, Array.getInternal_eq_getElem] at hl ⊢
            rwa [Array.getElem_setIfInBounds_ne (h := Ne.symm hji)] at hl
  have hu : ∃ u : Nat → Value, puts D a u = a := by
    refine ⟨fun i => ((D.find? fun p => p.1 == i).map fun p => a.tmps.getD p.2 undef).getD undef, puts_self _ _ _ fun p hp => ?_⟩
    have : D.find? (fun q => q.1 == p.1) = some p := by
      clear fin step hD2 hD1 hD3 hD4 key
      induction D with
      | nil => cases hp
      | cons q D ih =>
        rw [List.map_cons, List.nodup_cons] at hnd1
        rcases List.mem_cons.1 hp with rfl | hp
        · simp
        · have hne : (q.1 == p.1) = false := by
            rw [beq_eq_false_iff_ne]
            intro e
            exact hnd1.1 (List.mem_map.2 ⟨p, hp, e.symm⟩)
          rw [List.find?_cons, hne]
          exact ih hnd1.2 hp
    simp only [this, Option.map_some, Option.getD_some]
  obtain ⟨u, hu⟩ := hu
  have := key ops.size (Array.replicate ops.size false) w.drew u (List.range ops.size) (by simp) (by simp) (fun i hi => by
    rw [List.mem_range]
    by_cases hl : i < ops.size
    · exact hl
    · simp [Array.getD, hl] at hi) hG (fun i hi hl => by simp [Array.getD, hi] at hl)
  rw [hu] at this
  exact this

theorem getD_tf {l : Array Bool} {i : Nat} (h : i < l.size) : l.getD i true = l.getD i false := by simp [Array.getD, h]

theorem region_store {id : Nat} {a : Act} {w : World} (s : Nat) (X : List Nat) (D : List (Nat × Nat)) (φ : Nat → Value → World → Prop) (G H : World → Prop) (hm : P.follows .mixedOrders = true)
    (hsz : ops.size = s + 1) (hord : ordX ops = true) (hcl : ((List.range s).all fun j => X.contains j || reachB ops ops.size s j) = true)
    (hD1 : D.map (·.1) = List.range s) (hD2 : (D.map (·.2)).Nodup) (hD3 : (D.all fun p => (ops[p.1]?.bind (·.dst)) == some p.2) = true) (hD4 : (D.all fun p => Nat.blt p.2 a.tmps.size) = true)
    (hS : (ops[s]?.map (·.dst)) = some none) (hmono : ∀ i v w w', φ i v w → Below w.heap.size w w' → φ i v w') (hG : G w.drew)
    (step : ∀ p ∈ D, ∀ u w, G w → Came ops φ u w p.1 →
      wpOp P ops Q p.1 (fun a' w' => a'.defers = (puts D a u).defers ∧ φ p.1 (a'.tmps.getD p.2 undef) w' ∧ G w' ∧ Below w.heap.size w w') (puts D a u) w)
    (stepX : ∀ p ∈ D, p.1 ∈ X → ∀ u w, H w → Came ops (fun i v _ => ∃ w1, φ i v w1) u w p.1 →
      wpOp P ops Q p.1 (fun a' w' => a'.defers = (puts D a u).defers ∧ (∃ w1, φ p.1 (a'.tmps.getD p.2 undef) w1) ∧ H w') (puts D a u) w)
    (stepS : ∀ u w, G w → (∀ p ∈ D, p.1 ∉ X → φ p.1 (u p.1) w) → wpOp P ops Q s (fun a' w' => a'.defers = (puts D a u).defers ∧ H w') (puts D a u) w)
    (fin : ∀ u w, H w → (∀ p ∈ D, ∃ w1, φ p.1 (u p.1) w1) → Q .normal (puts D a u) w) : (Code.region id ops true).wp P Q a w := by
  refine wp_region_any hm ?_
  have hnd1 : (D.map (·.1)).Nodup := by rw [hD1]; exact List.nodup_range
  have hmemD : ∀ i, i < s → ∃ d, (i, d) ∈ D := fun i hi => by
    have : i ∈ D.map (·.1) := by rw [hD1]; exact List.mem_range.2 hi
    obtain ⟨⟨i', d⟩, hp, rfl⟩ := List.mem_map.1 this
    exact ⟨d, hp⟩
  have hltD : ∀ p ∈ D, p.1 < s := fun p hp => by
    have : p.1 ∈ D.map (·.1) := List.mem_map.2 ⟨p, hp, rfl⟩
    rw [hD1] at this
    exact List.mem_range.1 this
  have hclX : ∀ j, j < s → j ∉ X → reachB ops ops.size s j = true := fun j hj hx => by
    have := List.all_eq_true.1 hcl j (List.mem_range.2 hj)
    rw [Bool.or_eq_true] at this
    rcases this with h | h
    · exact absurd (by simpa using h) hx
    · exact h
  have hslot : ∀ p ∈ D, ∀ o, ops[p.1]? = some o → o.dst = some p.2 ∧ p.2 < a.tmps.size := fun p hp o ho => by
    have hd3 := List.all_eq_true.1 hD3 _ hp
    have hd4 := List.all_eq_true.1 hD4 _ hp
    simp only [ho, Option.bind_some, beq_iff_eq] at hd3
    exact ⟨hd3, by simp [Nat.blt] at hd4; omega⟩
  -- behind the write
  have keyB : ∀ (fuel : Nat) (listed : Array Bool) (w : World) (u : Nat → Value) (L : List Nat), listed.size = ops.size → L.length ≤ fuel → (∀ i, listed.getD i true = false → i ∈ L) → H w →
      (∀ i, listed.getD i true = false → i < s ∧ i ∈ X) → (∀ i, i < s → listed.getD i true = true → ∃ w1, φ i (u i) w1) → wpAny P .any ops Q fuel listed (puts D a u) w := by
    intro fuel
    induction fuel with
    | zero =>
      intro listed w u L hs hL hin hh hX hφ
      have hall : ∀ i, listed.getD i true = true := fun i => by
        cases hi : listed.getD i true with
        | true => rfl
        | false => have := hin i hi; rw [List.length_eq_zero_iff.1 (Nat.le_zero.1 hL)] at this; cases this
      refine ⟨?_, fin u w hh fun p hp => hφ p.1 (hltD p hp) (hall _)⟩
      rw [List.eq_nil_iff_forall_not_mem]
      intro i hi
      have := (mem_ready.1 hi).2.1
      rw [hall i] at this
      cases this
    | succ fuel ih =>
      intro listed w u L hs hL hin hh hX hφ
      refine ⟨fun hr => fin u w hh fun p hp => hφ p.1 (hltD p hp) (all_listedX hord hs hr _), fun i hi => ?_⟩
      obtain ⟨h1, h2, o, ho, h3⟩ := mem_ready.1 hi
      obtain ⟨his, hiX⟩ := hX i h2
      obtain ⟨d, hp⟩ := hmemD i his
      have hst := stepX _ hp hiX u w hh (fun o' ho' e he hb => by
        obtain rfl := Option.some.inj (ho'.symm.trans ho)
        have hl := h3 e he hb
        have hlt : e.on < ops.size := by
          rw [← hs]
          by_cases hl2 : e.on < listed.size
          · exact hl2
          · simp [Array.getD, hl2] at hl
        have hes : e.on < s := by
          unfold ordX at hord
          have h4 := List.all_eq_true.1 hord i (List.mem_range.2 h1)
          rw [ho] at h4
          simp only [Option.map_some, Option.getD_some, Array.all_eq_true_iff_forall_mem] at h4
          have h5 := h4 e (by simpa using he)
          have h6 : e.on < i := by simpa [hb] using h5
          omega
        refine hφ e.on hes ?_
        rw [getD_tf (by omega)]
        exact hl)
      obtain ⟨hd3, hd5⟩ := hslot _ hp o ho
      have hst2 := wpOp_value (R := fun v w' => (∃ w1, φ i v w1) ∧ H w') ho hd3 (by rw [puts_size]; exact hd5) hst
      refine wpOp_mono ?_ hst2
      rintro a' w' ⟨v, rfl, hv, hh'⟩
      rw [puts_put u i d v D a hnd1 hD2 hp]
      refine ih _ w' (upd u i v) (L.erase i) (by simpa using hs) ?_ ?_ hh' ?_ ?_
      · rw [List.length_erase_of_mem (hin i h2)]
        omega
      · intro j hj
        have hji : j ≠ i := fun e => by
          subst e
          have : j < listed.size := by omega
          simp [Array.getD, this] at hj
        rw [getD_set_other (Ne.symm hji)] at hj
        exact (List.mem_erase_of_ne hji).2 (hin j hj)
      · intro j hj
        have hji : j ≠ i := fun e => by
          subst e
          have : j < listed.size := by omega
          simp [Array.getD, this] at hj
        rw [getD_set_other (Ne.symm hji)] at hj
        exact hX j hj
      · intro j hj hl
        by_cases hji : j = i
        · subst hji
          simpa [upd] using hv
        · have e1 : upd u i v j = u j := by simp [upd, hji]
          rw [e1]
          rw [getD_set_other (Ne.symm hji)] at hl
          exact hφ j hj hl
  -- ahead of the write
  have keyA : ∀ (fuel : Nat) (listed : Array Bool) (w : World) (u : Nat → Value) (L : List Nat), listed.size = ops.size → L.length ≤ fuel → (∀ i, listed.getD i true = false → i ∈ L) → listed.getD s true = false → Anc ops listed → G w →
      (∀ i, i < s → listed.getD i true = true → φ i (u i) w) → wpAny P .any ops Q fuel listed (puts D a u) w := by
    intro fuel
    induction fuel with
    | zero =>
      intro listed w u L hs hL hin hns _ hg hφ
      have := hin s hns
      rw [List.length_eq_zero_iff.1 (Nat.le_zero.1 hL)] at this
      cases this
    | succ fuel ih =>
      intro listed w u L hs hL hin hns hanc hg hφ
      refine ⟨fun hr => ?_, fun i hi => ?_⟩
      · have := all_listedX hord hs hr s
        rw [hns] at this
        cases this
      · obtain ⟨h1, h2, o, ho, h3⟩ := mem_ready.1 hi
        have hancn : Anc ops (listed.setIfInBounds i true) := by
          intro j o' ho' hl e he hb
          by_cases ej : i = j
          · subst ej
            obtain rfl := Option.some.inj (ho'.symm.trans ho)
            have := h3 e he hb
            by_cases e2 : i = e.on
            · rw [← e2, getD_set_self (by omega)]
            · rw [getD_set_other e2]; exact this
          · rw [getD_set_other ej] at hl
            have := hanc j o' ho' hl e he hb
            by_cases e2 : i = e.on
            · rw [← e2, getD_set_self (by omega)]
            · rw [getD_set_other e2]; exact this
        by_cases his : i = s
        · subst his
          have hall : ∀ j, j < i → j ∉ X → listed.getD j false = true := fun j hj hx =>
            reach_listed hanc ops.size i j (fun o' ho' e he hb => by
              obtain rfl := Option.some.inj (ho'.symm.trans ho)
              exact h3 e he hb) (hclX j hj hx)
          have hod : o.dst = none := by
            rw [ho] at hS
            simpa using hS
          refine wpOp_mono ?_ (wpOp_none ho hod (stepS u w hg fun p hp hx => hφ p.1 (hltD p hp) (by rw [getD_tf (by have := hltD p hp; omega)]; exact hall p.1 (hltD p hp) hx)))
          rintro a' w' ⟨rfl, hh⟩
          refine keyB fuel _ w' u (L.erase i) (by simpa using hs) ?_ ?_ hh ?_ ?_
          · rw [List.length_erase_of_mem (hin i h2)]
            omega
          · intro j hj
            have hji : j ≠ i := fun e => by
              subst e
              have : j < listed.size := by omega
              simp [Array.getD, this] at hj
            rw [getD_set_other (Ne.symm hji)] at hj
            exact (List.mem_erase_of_ne hji).2 (hin j hj)
          · intro j hj
            have hji : j ≠ i := fun e => by
              subst e
              have : j < listed.size := by omega
              simp [Array.getD, this] at hj
            rw [getD_set_other (Ne.symm hji)] at hj
            have hjl : j < listed.size := by
              by_cases hl : j < listed.size
              · exact hl
              · simp [Array.getD, hl] at hj
            refine ⟨by omega, Classical.byContradiction fun hx => ?_⟩
            have := hall j (by omega) hx
            rw [← getD_tf hjl, hj] at this
            cases this
          · intro j hj hl
            have hji : i ≠ j := by omega
            rw [getD_set_other hji] at hl
            exact ⟨w, hφ j hj hl⟩
        · have his2 : i < s := by omega
          obtain ⟨d, hp⟩ := hmemD i his2
          have hst := step _ hp u w hg (fun o' ho' e he hb => by
            obtain rfl := Option.some.inj (ho'.symm.trans ho)
            have hl := h3 e he hb
            have hlt : e.on < listed.size := by
              by_cases hl2 : e.on < listed.size
              · exact hl2
              · simp [Array.getD, hl2] at hl
            have hes : e.on < s := by
              unfold ordX at hord
              have h4 := List.all_eq_true.1 hord i (List.mem_range.2 h1)
              rw [ho] at h4
              simp only [Option.map_some, Option.getD_some, Array.all_eq_true_iff_forall_mem] at h4
              have h5 := h4 e (by simpa using he)
              have h6 : e.on < i := by simpa [hb] using h5
              omega
            refine hφ e.on hes ?_
            rw [getD_tf hlt]
            exact hl)
          obtain ⟨hd3, hd5⟩ := hslot _ hp o ho
          have hst2 := wpOp_value (R := fun v w' => φ i v w' ∧ G w' ∧ Below w.heap.size w w') ho hd3 (by rw [puts_size]; exact hd5) hst
          refine wpOp_mono ?_ hst2
          rintro a' w' ⟨v, rfl, hv, hg', hb'⟩
          rw [puts_put u i d v D a hnd1 hD2 hp]
          refine ih _ w' (upd u i v) (L.erase i) (by simpa using hs) ?_ ?_ (by rw [getD_set_other his]; exact hns) hancn hg' ?_
          · rw [List.length_erase_of_mem (hin i h2)]
            omega
          · intro j hj
            have hji : j ≠ i := fun e => by
              subst e
              have : j < listed.size := by omega
              simp [Array.getD, this] at hj
            rw [getD_set_other (Ne.symm hji)] at hj
            exact (List.mem_erase_of_ne hji).2 (hin j hj)
          · intro j hj hl
            by_cases hji : j = i
            · subst hji
              simpa [upd] using hv
            · have e1 : upd u i v j = u j := by simp [upd, hji]
              rw [e1]
              rw [getD_set_other (Ne.symm hji)] at hl
              exact hmono j _ w w' (hφ j hj hl) hb'
  have hu : ∃ u : Nat → Value, puts D a u = a := by
    refine ⟨fun i => ((D.find? fun p => p.1 == i).map fun p => a.tmps.getD p.2 undef).getD undef, puts_self _ _ _ fun p hp => ?_⟩
    have : D.find? (fun q => q.1 == p.1) = some p := by
      clear fin step stepX stepS hD2 hD1 hD3 hD4 keyA keyB hmemD hltD hslot
      induction D with
      | nil => cases hp
      | cons q D ih =>
        rw [List.map_cons, List.nodup_cons] at hnd1
        rcases List.mem_cons.1 hp with rfl | hp
        · simp
        · have hne : (q.1 == p.1) = false := by
            rw [beq_eq_false_iff_ne]
            intro e
            exact hnd1.1 (List.mem_map.2 ⟨p, hp, e.symm⟩)
          rw [List.find?_cons, hne]
          exact ih hnd1.2 hp
    simp only [this, Option.map_some, Option.getD_some]
  obtain ⟨u, hu⟩ := hu
  have hfF : ∀ i, (Array.replicate ops.size false).getD i false = false := fun i => by
    by_cases h : i < ops.size <;> simp [Array.getD, h]
  have := keyA ops.size (Array.replicate ops.size false) w.drew u (List.range ops.size) (by simp) (by simp) (fun i hi => by
    rw [List.mem_range]
    by_cases hl : i < ops.size
    · exact hl
    · simp [Array.getD, hl] at hi) (by simp [Array.getD, hsz]) (fun i o _ hl => by rw [hfF] at hl; cases hl) hG (fun i hi hl => by
    have : i < ops.size := by omega
    simp [Array.getD, this] at hl)
  rw [hu] at this
  exact this
end

end Go.Proofs.Ytkcnmiaedcenoaa

/- Values of sums, products, shifted polynomials. No program. -/
namespace PolyMath
open GfMath
set_option linter.unusedVariables false

theorem ev_zeros {l : List Nat} {x : Nat} (hl : By l) (hx : x < 256) : ∀ k, ev (l ++ List.replicate k 0) x = gm (ev l x) (pw x k)
  | 0 => by rw [List.replicate_zero, List.append_nil]; exact (gm_one (ev_lt hl hx)).symm
  | k + 1 => by
    rw [List.replicate_succ', ← List.append_assoc, ev_snoc, ev_zeros hl hx k, Nat.xor_zero, pw, gm_assoc (ev_lt hl hx) (pw_lt hx k) hx]
theorem ev_shl {l : List Nat} {x : Nat} (hl : By l) (hx : x < 256) (k : Nat) : ev (shl l k) x = gm (ev l x) (pw x k) := by
  unfold shl
  split
  · rename_i h
    have : beh l = [] := List.eq_nil_of_length_eq_zero h
    rw [← ev_beh hx hl, this]
    exact (gm_zero_left _).symm
  · rw [ev_zeros hl.beh hx, ev_beh hx hl]
theorem shl_le (l : List Nat) (k : Nat) : (shl l k).length ≤ l.length + k := by
  unfold shl
  have := beh_le l
  split
  · simp
  · rw [List.length_append, List.length_replicate]; omega
theorem shl_by {l : List Nat} (h : By l) (k : Nat) : By (shl l k) := by
  unfold shl
  split
  · exact by_nil
  · intro x hx
    rcases List.mem_append.1 hx with h1 | h1
    · exact h.beh x h1
    · rw [(List.mem_replicate.1 h1).2]; omega
theorem E_xor (f g : Nat → Nat) (N x : Nat) : E (fun k => f k ^^^ g k) N x = E f N x ^^^ E g N x := by
  rw [E, E, E, ← xs_xor]
  exact xs_congr N fun k _ => gm_add_left _ _ _
theorem addl_le (ls : List (List Nat)) : (addl ls).length ≤ mx ls := by
  have := beh_le (hi (mx ls) (sumf ls))
  rw [hi_length] at this
  exact this
theorem addl_can (ls : List (List Nat)) : Can (addl ls) := beh_can _
theorem ev_addl2 {a b : List Nat} {x : Nat} (ha : By a) (hb : By b) (hx : x < 256) : ev (addl [a, b]) x = ev a x ^^^ ev b x := by
  have h8 : ∀ l ∈ [a, b], By l := by intro l hl; simp at hl; rcases hl with rfl | rfl <;> assumption
  have hm : mx [a, b] = max a.length b.length := by simp [mx]
  have h1 := addl_le [a, b]
  rw [ev_E_le hx (addl_by _ h8) (N := max a.length b.length) (by omega), ev_E_le hx ha (N := max a.length b.length) (by omega), ev_E_le hx hb (N := max a.length b.length) (by omega), ← E_xor]
  refine E_congr fun k _ => ?_
  rw [addl_cf]
  simp [sumf]
theorem ev_one {x : Nat} : ev [1] x = 1 := by show gm 0 x ^^^ 1 = 1; rw [gm_zero_left]; rfl
theorem ev_pms2 {a b : List Nat} {x : Nat} (ha : By a) (hb : By b) (hx : x < 256) : ev (pms [a, b]) x = gm (ev a x) (ev b x) := by
  have h1 : By [1] := by_one (by omega)
  show ev (pm (pm [1] (beh a)) (beh b)) x = _
  rw [ev_pm (pm_by h1 ha.beh) hb.beh hx, ev_pm h1 ha.beh hx, ev_one, gm_one_left (ev_lt ha.beh hx), ev_beh hx ha, ev_beh hx hb]

end PolyMath

/- Polynomials with the lowest power first, as the document's answers have them. No program. -/
namespace PolyMath
open GfMath
set_option linter.unusedVariables false

theorem sq_cf (l : List Nat) (n : Nat) : sq l n = cf l.reverse n := by
  by_cases h : n < l.length
  · rw [cf_in _ _ (by simpa using h), sq_get l n h, sq_get _ _ (by simp; omega), List.getElem_reverse]
    congr 1; simp; omega
  · rw [cf_out _ _ (by simp; omega), sq_out l n (by omega)]
theorem cf_sq (l : List Nat) (n : Nat) : cf l n = sq l.reverse n := by rw [sq_cf, List.reverse_reverse]
def cut (l : List Nat) : List Nat := (beh l.reverse).reverse
def lo (l : List Nat) : List Nat := (beh l).reverse
theorem cut_reverse (l : List Nat) : cut l.reverse = lo l := by rw [cut, List.reverse_reverse, lo]
theorem sq_cut (l : List Nat) (n : Nat) : sq (cut l) n = sq l n := by rw [sq_cf, cut, List.reverse_reverse, cf_beh, ← sq_cf]
theorem sq_lo (l : List Nat) (n : Nat) : sq (lo l) n = cf l n := by rw [sq_cf, lo, List.reverse_reverse, cf_beh]
theorem lo_length (l : List Nat) : (lo l).length = (beh l).length := by rw [lo, List.length_reverse]
theorem lo_by {l : List Nat} (h : By l) : By (lo l) := fun x hx => h.beh x (by simpa [lo] using hx)
theorem cut_by {l : List Nat} (h : By l) : By (cut l) := fun x hx => by
  have h2 : By l.reverse := fun y hy => h y (by simpa using hy)
  exact h2.beh x (by simpa [cut] using hx)
theorem cut_take (l : List Nat) : cut l = l.take (cut l).length := by
  have e : cut l = l.take (l.length - zs l.reverse) := by rw [cut, beh, List.drop_reverse, List.reverse_reverse]
  have h := congrArg List.length e
  rw [List.length_take] at h
  rw [h, Nat.min_eq_left (by omega)]
  exact e
theorem cut_le (l : List Nat) : (cut l).length ≤ l.length := by
  have := congrArg List.length (cut_take l)
  rw [List.length_take] at this
  omega
theorem cut_len (l : List Nat) (k : Nat) (hk : k ≤ l.length) (h0 : ∀ j, k ≤ j → j < l.length → sq l j = 0) (h1 : k = 0 ∨ sq l (k - 1) ≠ 0) : (cut l).length = k := by
  rw [cut, List.length_reverse, beh_length, List.length_reverse]
  have hs : ∀ j, j < l.length → sq l.reverse j = sq l (l.length - 1 - j) := fun j hj => by
    rw [sq_cf l, cf_in _ _ (by simp; omega), List.length_reverse]; congr 1; omega
  by_cases hz : k = 0
  · subst hz
    rw [zs_all l.reverse fun j hj => by rw [List.length_reverse] at hj; rw [hs j hj]; exact h0 _ (by omega) (by omega), List.length_reverse]
    omega
  · rw [zs_eq l.reverse (l.length - k) (fun j hj => by rw [hs j (by omega)]; exact h0 _ (by omega) (by omega)) (by rw [hs _ (by omega), show l.length - 1 - (l.length - k) = k - 1 by omega]; exact h1.resolve_left hz)]
    omega
theorem cut_idem (l : List Nat) : cut (cut l) = cut l := by
  rw [cut, show (cut l).reverse = beh l.reverse by rw [cut, List.reverse_reverse], (beh_can _).beh, cut]
theorem cut_lo (l : List Nat) : cut (lo l) = lo l := by rw [← cut_reverse, cut_idem]
/-- Are they alike? -/
def sameB (a b : List Nat) : Bool := decide (a = (cut b).reverse)
theorem same_of {a b : List Nat} (ha : Can a) (h : ∀ k, cf a k = sq b k) : sameB a b = true := by
  refine decide_eq_true (can_eq ha ?_ fun k => ?_)
  · rw [cut, List.reverse_reverse]; exact beh_can _
  · rw [cut, List.reverse_reverse, cf_beh, ← sq_cf, h k]
/-- The document's sum, product, derivative. -/
def radd (a b : List Nat) : List Nat := cut (tab (max a.length b.length) (fun n => sq a n ^^^ sq b n))
theorem sq_radd (a b : List Nat) (n : Nat) : sq (radd a b) n = sq a n ^^^ sq b n := by
  rw [radd, sq_cut, sq_tab]
  split
  · rfl
  · rw [sq_out a n (by omega), sq_out b n (by omega)]; rfl
def rmul (a b : List Nat) : List Nat := cut (tab (a.length + b.length + 1) (cvk (sq a) (sq b) a.length))
theorem sq_rmul (a b : List Nat) (n : Nat) : sq (rmul a b) n = cv (sq a) (sq b) n := by
  rw [rmul, sq_cut, sq_tab]
  split
  · exact cvk_full _ _ _ _ fun i hi => sq_out a i hi
  · exact (cv_out (N := a.length) (M := b.length) (fun i hi => sq_out a i hi) (fun i hi => sq_out b i hi) (by omega)).symm
def rder (a : List Nat) : List Nat := cut (tab (a.length - 1) (fun n => if (n + 1) % 2 = 1 then sq a (n + 1) else 0))
theorem sq_rder (a : List Nat) (n : Nat) : sq (rder a) n = if n % 2 = 0 then sq a (n + 1) else 0 := by
  rw [rder, sq_cut, sq_tab]
  split
  · by_cases h : n % 2 = 0
    · rw [if_pos h, if_pos (by omega)]
    · rw [if_neg h, if_neg (by omega)]
  · rw [sq_out a _ (by omega)]; split <;> rfl
theorem radd_by {a b : List Nat} (ha : By a) (hb : By b) : By (radd a b) := cut_by (tab_by _ fun n _ => xor_lt (ha.sq n) (hb.sq n))
theorem rmul_by {a b : List Nat} (ha : By a) (hb : By b) : By (rmul a b) := cut_by (tab_by _ fun n _ => cvk_lt (fun i => ha.sq i) (fun i => hb.sq i) _ _)
theorem rder_by {a : List Nat} (ha : By a) : By (rder a) := cut_by (tab_by _ fun n _ => by split; exact ha.sq _; omega)
theorem radd_le (a b : List Nat) : (radd a b).length ≤ max a.length b.length := by have := cut_le (tab (max a.length b.length) (fun n => sq a n ^^^ sq b n)); rw [tab_length] at this; exact this
theorem rmul_le (a b : List Nat) : (rmul a b).length ≤ a.length + b.length + 1 := by have := cut_le (tab (a.length + b.length + 1) (cvk (sq a) (sq b) a.length)); rw [tab_length] at this; exact this
theorem rder_le (a : List Nat) : (rder a).length ≤ a.length := by have := cut_le (tab (a.length - 1) (fun n => if (n + 1) % 2 = 1 then sq a (n + 1) else 0)); rw [tab_length] at this; rw [rder]; omega
/-- A step of a reversed list. -/
theorem drop_rev (l : List Nat) (m : Nat) (h : m < l.length) : (l.drop m).reverse = (l.drop (m + 1)).reverse ++ [sq l m] := by
  rw [List.drop_eq_getElem_cons h, List.reverse_cons, sq_get l m h]
theorem tab_snoc (N : Nat) (f : Nat → Nat) : tab (N + 1) f = tab N f ++ [f N] := by simp [tab, List.range_succ]

end PolyMath

/- Sums and products as the law reckons them. No program. -/
namespace PolyMath
open GfMath
set_option linter.unusedVariables false

def rsum (ls : List (List Nat)) : List Nat := ls.foldl (fun s l => radd s (lo l)) []
def rprod (ls : List (List Nat)) : List Nat := ls.foldl (fun p l => rmul p (lo l)) [1]
theorem rsum_snoc (ls : List (List Nat)) (l : List Nat) : rsum (ls ++ [l]) = radd (rsum ls) (lo l) := by simp [rsum]
theorem rprod_snoc (ls : List (List Nat)) (l : List Nat) : rprod (ls ++ [l]) = rmul (rprod ls) (lo l) := by simp [rprod]
theorem rsum_all (ls : List (List Nat)) (h : ∀ l ∈ ls, By l) : By (rsum ls) ∧ ∀ k, sq (rsum ls) k = sumf ls k := by
  revert h
  refine snocs2 (P := fun ls => (∀ l ∈ ls, By l) → By (rsum ls) ∧ ∀ k, sq (rsum ls) k = sumf ls k) (fun _ => ⟨by_nil, fun k => rfl⟩) (fun ls l ih h => ?_) ls
  obtain ⟨h1, h2⟩ := ih fun y hy => h y (by simp [hy])
  have h3 := h l (by simp)
  rw [rsum_snoc]
  exact ⟨radd_by h1 (lo_by h3), fun k => by rw [sq_radd, h2, sq_lo, sumf_snoc]⟩
theorem rprod_all (ls : List (List Nat)) (h : ∀ l ∈ ls, By l) : By (rprod ls) ∧ ∀ k, sq (rprod ls) k = cf (pms ls) k := by
  revert h
  refine snocs2 (P := fun ls => (∀ l ∈ ls, By l) → By (rprod ls) ∧ ∀ k, sq (rprod ls) k = cf (pms ls) k) (fun _ => ⟨by_one (by omega), fun k => ?_⟩) (fun ls l ih h => ?_) ls
  · exact sq_cf [1] k
  · obtain ⟨h1, h2⟩ := ih fun y hy => h y (by simp [hy])
    have h3 := h l (by simp)
    rw [rprod_snoc, pms_snoc]
    refine ⟨rmul_by h1 (lo_by h3), fun k => ?_⟩
    have e1 : sq (rprod ls) = cf (pms ls) := funext h2
    have e2 : sq (lo l) = cf (beh l) := funext fun k => by rw [sq_lo, cf_beh]
    rw [sq_rmul, pm_cf, e1, e2]
theorem lo_le (l : List Nat) : (lo l).length ≤ l.length := by rw [lo_length]; exact beh_le l
theorem rsum_le (ls : List (List Nat)) (N : Nat) (h : ∀ l ∈ ls, l.length ≤ N) : (rsum ls).length ≤ N := by
  revert h
  refine snocs2 (P := fun ls => (∀ l ∈ ls, l.length ≤ N) → (rsum ls).length ≤ N) (fun _ => Nat.zero_le _) (fun ls l ih h => ?_) ls
  have h1 := ih fun y hy => h y (by simp [hy])
  have h2 := h l (by simp)
  have h3 := radd_le (rsum ls) (lo l)
  have h4 := lo_le l
  rw [rsum_snoc]
  omega
theorem rprod_le (ls : List (List Nat)) (N : Nat) (h : ∀ l ∈ ls, l.length ≤ N) : (rprod ls).length ≤ 1 + ls.length * (N + 1) := by
  revert h
  refine snocs2 (P := fun ls => (∀ l ∈ ls, l.length ≤ N) → (rprod ls).length ≤ 1 + ls.length * (N + 1)) (fun _ => by simp [rprod]) (fun ls l ih h => ?_) ls
  have h1 := ih fun y hy => h y (by simp [hy])
  have h2 := h l (by simp)
  have h3 := rmul_le (rprod ls) (lo l)
  have h4 := lo_le l
  rw [rprod_snoc, List.length_append, List.length_singleton, Nat.add_mul]
  omega

end PolyMath

/- Division. No program. -/
namespace PolyMath
open GfMath
set_option linter.unusedVariables false

/-- The first i factors of the quotient, the highest first. -/
def qs (A B : List Nat) : Nat → List Nat
  | 0 => []
  | i + 1 => qs A B i ++ [gm (sq A i ^^^ cvk (sq (qs A B i)) (sq B) i i) (iv (sq B 0))]
theorem qs_length (A B : List Nat) : ∀ i, (qs A B i).length = i
  | 0 => rfl
  | i + 1 => by rw [qs, List.length_append, qs_length A B i]; rfl
theorem sq_append (l m : List Nat) (n : Nat) (h : n < l.length) : sq (l ++ m) n = sq l n := by
  rw [sq_get _ _ (by rw [List.length_append]; omega), sq_get _ _ h, List.getElem_append_left h]
theorem qs_keep (A B : List Nat) (i n : Nat) (h : n < i) : ∀ d, sq (qs A B (i + d)) n = sq (qs A B i) n
  | 0 => rfl
  | d + 1 => by rw [← Nat.add_assoc, qs, sq_append _ _ _ (by rw [qs_length]; omega), qs_keep A B i n h d]
theorem cvk_congr {f f' g : Nat → Nat} {i n : Nat} (h : ∀ j, j < i → f j = f' j) : cvk f g i n = cvk f' g i n := xs_congr _ fun j hj => by rw [h j hj]
theorem qs_step (A B : List Nat) {N i : Nat} (h : i < N) : sq (qs A B N) i = gm (sq A i ^^^ cvk (sq (qs A B N)) (sq B) i i) (iv (sq B 0)) := by
  obtain ⟨d, rfl⟩ : ∃ d, N = i + 1 + d := ⟨N - (i + 1), by omega⟩
  have e1 : cvk (sq (qs A B (i + 1 + d))) (sq B) i i = cvk (sq (qs A B i)) (sq B) i i := cvk_congr fun j hj => by
    rw [show i + 1 + d = i + (1 + d) by omega, qs_keep A B i j hj]
  rw [e1, qs_keep A B (i + 1) i (by omega) d, qs, sq_get _ _ (by rw [List.length_append, qs_length]; simp), List.getElem_append_right (by rw [qs_length]; exact Nat.le_refl _)]
  simp [qs_length]
theorem qs_by {A B : List Nat} (hA : By A) (hB : By B) : ∀ i, By (qs A B i)
  | 0 => by_nil
  | i + 1 => by
    have h := qs_by hA hB i
    rw [qs]
    intro x hx
    rcases List.mem_append.1 hx with h1 | h1
    · exact h x h1
    · simp only [List.mem_singleton] at h1
      rw [h1]
      exact gm_lt (xor_lt (hA.sq i) (cvk_lt (fun j => h.sq j) (fun j => hB.sq j) _ _)) (iv_lt _)
/-- What is left when i factors are known. -/
def rst (A B Q : List Nat) (i n : Nat) : Nat := sq A n ^^^ cvk (sq Q) (sq B) i n
theorem rst_lt {A B Q : List Nat} (hA : By A) (hB : By B) (hQ : By Q) (i n : Nat) : rst A B Q i n < 256 := xor_lt (hA.sq n) (cvk_lt (fun j => hQ.sq j) (fun j => hB.sq j) _ _)
theorem rst_zero (A B Q : List Nat) : tab A.length (rst A B Q 0) = A := by
  rw [tab_congr A.length (g := sq A) fun n _ => by rw [rst]; exact Nat.xor_zero _]
  exact tab_self A
theorem rst_gone {A B : List Nat} {N n : Nat} (hA : By A) (hB : By B) (h0 : sq B 0 ≠ 0) (h : n < N) : rst A B (qs A B N) N n = 0 := by
  have e1 : cvk (sq (qs A B N)) (sq B) N n = cvk (sq (qs A B N)) (sq B) (n + 1) n := xs_ext _ (by omega) fun i hi _ => if_neg (by omega)
  have hx : sq A n ^^^ cvk (sq (qs A B N)) (sq B) n n < 256 := xor_lt (hA.sq n) (cvk_lt (fun j => (qs_by hA hB N).sq j) (fun j => hB.sq j) _ _)
  have e2 : gm (sq (qs A B N) n) (sq B 0) = sq A n ^^^ cvk (sq (qs A B N)) (sq B) n n := by
    rw [qs_step A B h, gm_assoc hx (iv_lt _) (hB.sq 0), iv_gm (hB.sq 0) h0, gm_one hx]
  rw [rst, e1, cvk_succ, if_pos (Nat.le_refl _), Nat.sub_self, e2, ← Nat.xor_assoc, Nat.xor_self]
/-- Quotient and rest. -/
def dq (a b : List Nat) : List Nat := if (beh a).length < (beh b).length then [] else qs (beh a) (beh b) ((beh a).length - (beh b).length + 1)
def dr (a b : List Nat) : List Nat := if (beh a).length < (beh b).length then beh a else beh (tab (beh a).length (rst (beh a) (beh b) (dq a b) ((beh a).length - (beh b).length + 1)))
theorem div_spec {a b : List Nat} (ha : By a) (hb : By b) (h0 : 0 < (beh b).length) :
    By (dq a b) ∧ Can (dq a b) ∧ By (dr a b) ∧ Can (dr a b) ∧ (dr a b).length < (beh b).length ∧ (dq a b).length ≤ (beh a).length ∧ ∀ k, cf a k = cv (cf (dq a b)) (cf b) k ^^^ cf (dr a b) k := by
  have hb0 : sq (beh b) 0 ≠ 0 := beh_can b h0
  have hbeq : cf (beh b) = cf b := funext (cf_beh b)
  by_cases hlt : (beh a).length < (beh b).length
  · have e1 : dq a b = [] := by unfold dq; exact if_pos hlt
    have e2 : dr a b = beh a := by unfold dr; exact if_pos hlt
    rw [e1, e2]
    refine ⟨by_nil, fun h => absurd h (by simp), ha.beh, beh_can a, hlt, Nat.zero_le _, fun k => ?_⟩
    rw [cf_beh, show cv (cf []) (cf b) k = 0 from xs_zero _ fun i _ => by rw [cf_out [] i (Nat.zero_le _), gm_zero_left], Nat.zero_xor]
  · have e1 : dq a b = qs (beh a) (beh b) ((beh a).length - (beh b).length + 1) := by unfold dq; exact if_neg hlt
    have e2 : dr a b = beh (tab (beh a).length (rst (beh a) (beh b) (dq a b) ((beh a).length - (beh b).length + 1))) := by unfold dr; exact if_neg hlt
    have hA := ha.beh
    have hB := hb.beh
    have hcA := beh_can a
    have hcf : ∀ k, cf (beh a) k = cf a k := cf_beh a
    rw [e2, e1]
    rw [← hbeq]
    generalize beh a = A at *
    generalize beh b = B at *
    obtain ⟨N, hN⟩ : ∃ N, A.length - B.length + 1 = N := ⟨_, rfl⟩
    rw [hN]
    have hQ := qs_by hA hB N
    have hQl := qs_length A B N
    have hz : ∀ n, n < N → sq (tab A.length (rst A B (qs A B N) N)) n = 0 := fun n hn => by rw [sq_tab, if_pos (by omega), rst_gone hA hB hb0 hn]
    refine ⟨hQ, fun h => ?_, (tab_by _ fun n _ => rst_lt hA hB hQ _ _).beh, beh_can _, ?_, by rw [hQl]; omega, fun k => ?_⟩
    · rw [qs_step A B (by omega), show cvk (sq (qs A B N)) (sq B) 0 0 = 0 from rfl, Nat.xor_zero]
      refine gm_ne (hA.sq 0) (iv_lt _) (hcA (by omega)) fun e => ?_
      have := gm_iv (hB.sq 0) hb0
      rw [e, gm_zero_right] at this
      exact absurd this (by omega)
    · rw [beh_length, tab_length]
      by_cases hzs : zs (tab A.length (rst A B (qs A B N) N)) < N
      · exact absurd (hz _ hzs) (zs_ne _ (by rw [tab_length]; omega))
      · omega
    · rw [cf_beh, ← hcf k]
      by_cases hk : k < A.length
      · have h1 := cvk_rev (qs A B N) B (by omega) h0 k (by omega)
        rw [hQl, show N + B.length - 1 - 1 - k = A.length - 1 - k by omega] at h1
        rw [cf_in A k hk, cf_in _ k (by rw [tab_length]; exact hk), tab_length, sq_tab, if_pos (by omega), rst, h1, Nat.xor_comm (sq A _), ← Nat.xor_assoc, Nat.xor_self, Nat.zero_xor]
      · rw [cf_out A k (by omega), cf_out _ k (by rw [tab_length]; omega), cv_out (N := N) (M := B.length) (fun i hi => cf_out _ i (by omega)) (fun i hi => cf_out B i hi) (by omega)]
        rfl

end PolyMath

/- The contract of poly's DivMod. -/
namespace Go.Proofs.Ytkcnmiaedcenoaa
open Go.RowKit GfMath PolyMath
set_option linter.unusedVariables false

def rsj (A C Q : List Nat) (k j n : Nat) : Nat := sq A n ^^^ cvj Q C k j n
theorem rsj_zero (A C Q : List Nat) (k n : Nat) : rsj A C Q k 0 n = rst A C Q k n := by rw [rsj, cvj_zero]; rfl
theorem rsj_full (A C Q : List Nat) (k n : Nat) : rsj A C Q k C.length n = rst A C Q (k + 1) n := by rw [rsj, cvj_full]; rfl
theorem rsj_step (A C Q : List Nat) (N k j : Nat) : (tab N (rsj A C Q k j)).set (k + j) (rsj A C Q k j (k + j) ^^^ gm (sq Q k) (sq C j)) = tab N (rsj A C Q k (j + 1)) := by
  rw [tab_set]
  refine tab_congr N fun n _ => ?_
  by_cases e : n = k + j
  · subst e
    rw [if_pos rfl, rsj, rsj, cvj, cvj, if_neg (by omega), if_pos (by omega), show k + j - k = j by omega, Nat.xor_zero, Nat.xor_assoc]
  · rw [if_neg e, rsj, rsj, cvj, cvj]
    by_cases h : k ≤ n ∧ n - k < j
    · rw [if_pos h, if_pos (by omega)]
    · rw [if_neg h, if_neg (by omega)]
theorem rsj_lt {A C Q : List Nat} (hA : By A) (hC : By C) (hQ : By Q) (k j n : Nat) : rsj A C Q k j n < 256 := xor_lt (hA.sq n) (cvj_lt hQ hC k j n)

theorem u8s_sq' {w : World} {b off : Nat} {l : List Nat} (h : ∀ j u, (u8s l)[j]? = some u → w.cell? ⟨b, off + j, none⟩ = some u) (j : Nat) (hj : j < l.length) : w.cell? ⟨b, off + j, none⟩ = some (.int .u8 (sq l j : Int)) := by
  rw [sq_get l j hj]; exact h j _ (u8s_get l j hj)
theorem divmod_zero (b : Nat) (a c : Option Addr) (ca cc : Nat) (X Y : List Nat) (w : World) (hlx : X.length ≤ 140737488355328) (hly : Y.length ≤ 140737488355328) (h1 : X.length ≤ ca) (h2 : Y.length ≤ cc) (h0 : (beh Y).length = 0)
    (hr : Lies w w.heap.size a (u8s X)) (hs : Lies w w.heap.size c (u8s Y)) :
    Calls Try.prog 40 #[.pointer (some ⟨b, 0, none⟩), .slice a X.length ca, .slice c Y.length cc] w fun e w' => e = .returned (.tuple #[.slice none 0 0, .slice none 0 0, .bool false]) ∧ w = w' := by
  have HB := Lib.hid (behind_any a ca X w hlx h1 hr)
  have HC := Lib.hid (behind_none c cc Y w hly h2 hs h0)
  clear hr hs h0
  go_enter Try.func40, Try.ntmps40
  go_wp2_with (first
    | (go_at_call 57; (with_reducible refine HC.out.mono ?_); rintro e w1 ⟨rfl, rfl⟩)
    | (go_at_call 57; (with_reducible refine HB.out.mono ?_); rintro e w1 ⟨⟨v, rfl, _⟩, rfl⟩))
  go_ret3
  exact ⟨rfl, rfl⟩

theorem divmod_less (b : Nat) (a c : Option Addr) (ca cc : Nat) (X Y : List Nat) (w : World) (hlx : X.length ≤ 1000000) (hly : Y.length ≤ 1000000) (h1 : X.length ≤ ca) (h2 : Y.length ≤ cc) (h0 : 0 < (beh Y).length) (hlt : (beh X).length < (beh Y).length)
    (hr : Lies w w.heap.size a (u8s X)) (hs : Lies w w.heap.size c (u8s Y)) :
    Calls Try.prog 40 #[.pointer (some ⟨b, 0, none⟩), .slice a X.length ca, .slice c Y.length cc] w fun e w' => (∃ v, e = .returned (.tuple #[.slice none 0 0, v, .bool true]) ∧ Reads w' v (beh X)) ∧ Below w.heap.size w w' := by
  have hbx := beh_le X
  have hby := beh_le Y
  have HC := Lib.hid (behind_some c cc Y w (by omega) h2 hs h0)
  have HB0 := Lib.hid (behind_none a ca X w (by omega) h1 hr)
  have HB1 := Lib.hid (behind_some a ca X w (by omega) h1 hr)
  obtain ⟨A, hA⟩ : ∃ A, beh X = A := ⟨_, rfl⟩
  obtain ⟨C, hC⟩ : ∃ C, beh Y = C := ⟨_, rfl⟩
  rw [hA] at HB0 HB1 hlt hbx ⊢
  rw [hC] at HC hlt hby h0
  have hlti : (A.length : Int) < C.length := by omega
  have hc0 : ¬ (C.length : Int) = 0 := by omega
  have hc1 : ((C.length : Int) == 0) = false := beq_false_of_ne hc0
  have hAb : A.length ≤ 1000000 := by omega
  by_cases hA0 : A.length = 0
  · have HB := Lib.hid (HB0.out hA0)
    have hAe : A = [] := List.eq_nil_of_length_eq_zero hA0
    have HAE := Lib.hid hAe
    have hlt0 : (0 : Int) < C.length := by omega
    clear hr hs h0 hlt hbx hby hA hC hlti HB0 HB1 hAe hA0
    go_enter Try.func40, Try.ntmps40
    go_wp2_with (first
      | (go_at_call 57; (with_reducible refine HB.out.mono ?_); rintro e w1 ⟨rfl, rfl⟩)
      | (go_at_call 57; (with_reducible refine HC.out.mono ?_); rintro e w1 ⟨⟨gc, oc, c2, rfl, _, _⟩, rfl⟩)
      | (go_at_call 48; (with_reducible refine (clone_nil w).mono ?_); rintro e w1 ⟨rfl, rfl⟩))
    go_ret3
    exact ⟨⟨_, rfl, by rw [HAE.out]; exact Reads.nil _⟩, Below.refl _ _⟩
  · have HB := Lib.hid (HB1.out (by omega))
    have HA0 := Lib.hid hA0
    have HAB := Lib.hid hAb
    clear hr hs h0 hlt hbx hby hA hC HB0 HB1 hA0
    go_enter Try.func40, Try.ntmps40
    go_wp2_with (first
      | (go_at_call 57; (with_reducible refine HB.out.mono ?_); rintro e w1 ⟨⟨ga, oa, a2, rfl, _, hm⟩, rfl⟩; have HM := Lib.hid hm; clear hm)
      | (go_at_call 57; (with_reducible refine HC.out.mono ?_); rintro e w1 ⟨⟨gc, oc, c2, rfl, _, _⟩, rfl⟩)
      | (go_at_call 48; (with_reducible refine (clone_any (some ⟨ga, oa, none⟩) a2 A w HAB.out (fun h => absurd h HA0.out) HM.out).mono ?_); rintro e w2 ⟨⟨v, rfl, hv⟩, b2⟩; have HV := Lib.hid hv; have B2 := Lib.hid b2; clear hv b2))
    go_ret3
    exact ⟨⟨_, rfl, HV.out⟩, B2.out⟩

set_option maxRecDepth 100000 in
set_option maxHeartbeats 4000000 in
theorem divmod_more (b : Nat) (a c : Option Addr) (ca cc : Nat) (X Y : List Nat) (w : World) (hf : Fld w b) (hX : By X) (hY : By Y) (hlx : X.length ≤ 1000000) (hly : Y.length ≤ 1000000) (h1 : X.length ≤ ca) (h2 : Y.length ≤ cc) (h0 : 0 < (beh Y).length) (hge : (beh Y).length ≤ (beh X).length)
    (hr : Lies w w.heap.size a (u8s X)) (hs : Lies w w.heap.size c (u8s Y)) :
    Calls Try.prog 40 #[.pointer (some ⟨b, 0, none⟩), .slice a X.length ca, .slice c Y.length cc] w fun e w' =>
      (∃ v v2, e = .returned (.tuple #[v, v2, .bool true]) ∧ Reads w' v (qs (beh X) (beh Y) ((beh X).length - (beh Y).length + 1)) ∧
        Reads w' v2 (beh (tab (beh X).length (rst (beh X) (beh Y) (qs (beh X) (beh Y) ((beh X).length - (beh Y).length + 1)) ((beh X).length - (beh Y).length + 1))))) ∧ Below w.heap.size w w' := by
  have hbx := beh_le X
  have hby := beh_le Y
  have HB := Lib.hid (behind_some a ca X w (by omega) h1 hr (by omega))
  have HC := Lib.hid (behind_some c cc Y w (by omega) h2 hs h0)
  have hA8 := hX.beh
  have hC8 := hY.beh
  have hy0 := beh_can Y h0
  obtain ⟨A, hA⟩ : ∃ A, beh X = A := ⟨_, rfl⟩
  obtain ⟨C, hC⟩ : ∃ C, beh Y = C := ⟨_, rfl⟩
  rw [hA] at HB hge hbx hA8
  rw [hC] at HC hge hby h0 hC8 hy0
  rw [hA, hC]
  obtain ⟨N, hN⟩ : ∃ N, A.length - C.length + 1 = N := ⟨_, rfl⟩
  rw [hN]
  have hNi : (A.length : Int) - (C.length : Int) + 1 = (N : Int) := by omega
  have hNb : (N : Int) ≤ 1000001 := by omega
  have hgei : ¬ (A.length : Int) < C.length := by omega
  have hgej : (C.length : Int) ≤ A.length := by omega
  have hc0 : ¬ (C.length : Int) = 0 := by omega
  have hc1 : ((C.length : Int) == 0) = false := beq_false_of_ne hc0
  have hcpos : 0 < (C.length : Int) := by omega
  have hcpn : 0 < C.length := by omega
  have hQ8 := qs_by hA8 hC8 N
  have hQl := qs_length A C N
  have hqst : ∀ k, k < N → gm (rst A C (qs A C N) k k) (iv (sq C 0)) = sq (qs A C N) k := fun k hk => (qs_step A C hk).symm
  obtain ⟨Q, hQ⟩ : ∃ Q, qs A C N = Q := ⟨_, rfl⟩
  rw [hQ] at hQ8 hQl hqst
  rw [hQ]
  have HAB : Hid (A.length ≤ 1000000) := Lib.hid (by omega)
  have HCB : Hid (C.length ≤ 1000000) := Lib.hid (by omega)
  have HA0 : Hid (0 < A.length) := Lib.hid (by omega)
  have HNL : Hid (A.length + 1 = N + C.length) := Lib.hid (by omega)
  have HA8 := Lib.hid hA8
  have HC8 := Lib.hid hC8
  have HQ8 := Lib.hid hQ8
  have HQL := Lib.hid hQl
  have HQST := Lib.hid hqst
  have HY0 := Lib.hid hy0
  have HF := Lib.hid hf
  have HI8 : Hid ((Try.prog.info? 5).map (fun i => (i.zero, i.size, i.bytes)) = some (some (.int .u8 0), 1, 8) ∨ (Try.prog.info? 5).map (fun i => (i.zero, i.size, i.bytes)) = some (some (.int .u8 0), 1, 1)) := Lib.hid (Or.inr info_byte)
  have HS1 := Lib.hid info_byte1
  have HLL : Hid (N ≤ N) := Lib.hid (Nat.le_refl _)
  have HLM0 : Hid (N ≤ 1099511627776) := Lib.hid (by omega)
  have HZC : Hid ((Value.int .u8 0).cells = #[.int .u8 0]) := Lib.hid rfl
  clear hr hs hf hX hY hbx hby hA hC hA8 hC8 hy0 hN hQ8 hQl hqst hQ h0 hge hlx hly
  go_enter Try.func40, Try.ntmps40
  go_wp2_with (first
    | (go_at_call 57; (with_reducible refine HB.out.mono ?_); rintro e w1 ⟨⟨ga, oa, a2, rfl, _, hm⟩, rfl⟩; have HM := Lib.hid hm; clear hm)
    | (go_at_call 57; (with_reducible refine HC.out.mono ?_); rintro e w1 ⟨⟨gc, oc, c2, rfl, _, hm⟩, rfl⟩; have HMC := Lib.hid hm; clear hm)
    | (go_at_call 48; (with_reducible refine (clone_some ga oa a2 A w HAB.out HA0.out HM.out).mono ?_); rintro e w1 ⟨⟨gr, cr, rfl, hgr, hown⟩, b1⟩; have HGRW := Lib.hid hgr; have HOWN := Lib.hid hown; have B1 := Lib.hid b1; clear hgr hown b1)
    | ((with_reducible refine wpMakeK 22 5 (.int .u8 0) N N Try.underlying22 HI8.out HZC.out HLL.out HLM0.out ?_ ?_); rfl; intro w2 r2 b2 s2; have R2 := Lib.hid r2; have B2 := Lib.hid b2; clear r2 b2 s2))
  obtain ⟨gq, hgq⟩ : ∃ gq, gq = w1.heap.size := ⟨_, rfl⟩
  rw [← hgq]
  obtain ⟨_, ys, hrow0⟩ := own_row HOWN.out
  have hcr := (own_lies HOWN.out).2
  have HNE : Hid (gr ≠ gq) := Lib.hid (by have := hrow0.lt; omega)
  have HGQW : Hid (w.heap.size ≤ gq) := Lib.hid (by rw [hgq]; exact B1.out.size)
  have HCR := Lib.hid hcr
  have HR0 : Hid (Row w2 gr 5 (u8s (tab A.length (rst A C Q 0)) ++ ys)) := Lib.hid (by rw [rst_zero]; exact hrow0.step B2.out)
  have HQ0 : Hid (Row w2 gq 5 (u8s (tab N (fun n => if n < 0 then sq Q n else 0)))) := Lib.hid (by
    rw [tab_congr N (g := fun _ => 0) fun n _ => by rw [if_neg (by omega)], ← tab_zero, u8s_zero, hgq]
    exact R2.out)
  have HB0 : Hid (Below w.heap.size w w2) := Lib.hid (B1.out.next B2.out)
  clear hrow0 hcr hgq R2 B2 B1 HOWN HM HB HC
  go_loopw [42] (fun i wr => ∃ k : Nat, k ≤ N ∧ i = .int .i64 k ∧ Row wr gr 5 (u8s (tab A.length (rst A C Q k)) ++ ys) ∧ Row wr gq 5 (u8s (tab N (fun n => if n < k then sq Q n else 0))) ∧ Below w.heap.size w wr) (fun i _ => N - (intOf i).toNat)
  case atStart => exact ⟨0, Nat.zero_le _, rfl, HR0.out, HQ0.out, HB0.out⟩
  case round =>
    clear HR0 HQ0 HB0
    obtain ⟨k, hk, rfl, hrr, hrq, hbw⟩ := hrel
    by_cases hlt : k < N
    · have hk1 : (k : Int) < N := by omega
      have hk0 : 0 ≤ (k : Int) := by omega
      have hkA : (k : Int) < A.length := by have := HNL.out; omega
      obtain ⟨bc, oc', ec, hbc, hcc⟩ := HMC.out (by rw [u8s_length]; omega)
      cases ec
      have hcy : wr.cell? ⟨gc, oc, none⟩ = some (.int .u8 (sq C 0 : Int)) := (hbw.cell (p := ⟨gc, oc, none⟩) hbc).trans (by have := u8s_sq' hcc 0 (by omega); rwa [Nat.add_zero] at this)
      have hcx : wr.cell? ⟨gr, k, none⟩ = some (.int .u8 (rst A C Q k k : Int)) := by
        rw [hrr.cell, List.getElem?_append_left (by rw [u8s_length, tab_length]; omega), u8s, List.getElem?_map, tab_get _ _ _ (by omega)]; rfl
      have hx8 := rst_lt HA8.out HC8.out HQ8.out k k
      have hy8 := HC8.out.sq 0
      have hqe := HQST.out k hlt
      have hy0 := HY0.out
      obtain ⟨x, hx⟩ : ∃ x, rst A C Q k k = x := ⟨_, rfl⟩
      obtain ⟨y, hy⟩ : ∃ y, sq C 0 = y := ⟨_, rfl⟩
      rw [hx] at hcx hx8 hqe
      rw [hy] at hcy hy8 hqe hy0
      have hDV0 : ∀ u, Fld u b → Calls Try.prog 35 #[.pointer (some ⟨b, 0, none⟩), .int .u8 (x : Int), .int .u8 (y : Int)] u fun e w' => e = .returned (.tuple #[.int .u8 (gm x (iv y) : Int), .bool true]) ∧ Below u.heap.size u w' := fun u hfu => div_any b x y u hfu hx8 hy8 hy0
      have hq8 := HQ8.out.sq k
      obtain ⟨q, hq⟩ : ∃ q, sq Q k = q := ⟨_, rfl⟩
      rw [hqe, hq] at hDV0
      rw [hq] at hq8
      have HDV := Lib.hid hDV0
      have HFR : Hid (Fld wr b) := Lib.hid (HF.out.step hbw)
      have HGR : Hid (gr < wr.heap.size) := Lib.hid hrr.lt
      have HGC : Hid (gc < wr.heap.size) := Lib.hid (Nat.lt_of_lt_of_le hbc hbw.size)
      have HCX := Lib.hid hcx
      have HCY := Lib.hid hcy
      have HRR : Hid (Row wr gr 5 (u8s (tab A.length (rsj A C Q k 0)) ++ ys)) := Lib.hid (by rw [tab_congr A.length fun n _ => rsj_zero A C Q k n]; exact hrr)
      have HRQ := Lib.hid hrq
      have HBW := Lib.hid hbw
      have HCZ : Hid (∀ u, Below wr.heap.size wr u → ∃ z, u.cell? ⟨gq, k, none⟩ = some z) := Lib.hid fun u hu => ⟨_, by rw [(hrq.step hu).cell, u8s, List.getElem?_map, tab_get _ _ _ hlt]; rfl⟩
      have HSTQ : Hid ((u8s (tab N (fun n => if n < k then sq Q n else 0))).set k (.int .u8 (q : Int)) = u8s (tab N (fun n => if n < k + 1 then sq Q n else 0))) := Lib.hid (by
        rw [u8s_set, tab_set]
        congr 1
        refine tab_congr N fun n _ => ?_
        by_cases e : n = k
        · subst e; rw [if_pos rfl, if_pos (by omega), hq]
        · rw [if_neg e]
          by_cases h : n < k
          · rw [if_pos h, if_pos (by omega)]
          · rw [if_neg h, if_neg (by omega)])
      have HQ2 := Lib.hid hq
      have HQB := Lib.hid hq8
      clear hrr hrq hbw hcc hbc hcx hcy hx8 hy8 hqe hy0 hx hy hDV0 hq hq8
      go_wp2
      refine region_store 15 [13] [(0, 46), (1, 47), (2, 48), (3, 49), (4, 50), (5, 51), (6, 52), (7, 53), (8, 54), (9, 55), (10, 56), (11, 45), (12, 57), (13, 58), (14, 59)]
        (fun i => [Is (.slice (some ⟨gq, 0, none⟩) N N), Is (.int .i64 (k : Int)), Is (.pointer (some ⟨b, 0, none⟩)), Is (.slice (some ⟨gr, 0, none⟩) A.length cr), Is (.int .i64 (k : Int)), Is (.pointer (some ⟨gr, k, none⟩)), Is (.int .u8 (x : Int)), Is (.slice (some ⟨gc, oc, none⟩) C.length c2), Is (.pointer (some ⟨gc, oc, none⟩)), Is (.int .u8 (y : Int)), Is (.tuple #[.int .u8 (q : Int), .bool true]), Is (.tuple #[.int .u8 (q : Int), .bool true]), Is (.int .u8 (q : Int)), Is (.bool true), Is (.pointer (some ⟨gq, k, none⟩))].getD i (Is undef))
        (fun w' => Below wr.heap.size wr w') (fun w' => Row w' gr 5 (u8s (tab A.length (rsj A C Q k 0)) ++ ys) ∧ Row w' gq 5 (u8s (tab N (fun n => if n < k + 1 then sq Q n else 0))) ∧ Below w.heap.size w w') (by kernel_rfl) rfl (by kernel_rfl) (by kernel_rfl) (by decide) (by decide) (by kernel_rfl) rfl rfl ?mono1 ((Below.refl _ _).drew) ?step1 ?stepX1 ?stepS1 ?fin1
      case mono1 =>
        intro i
        match i with
        | 0 | 1 | 2 | 3 | 4 | 5 | 6 | 7 | 8 | 9 | 10 | 11 | 12 | 13 | 14 => exact Is.monot _
        | _ + 15 => exact Is.monot _
      case step1 =>
        refine List.forall_mem_cons.2 ⟨?p0, List.forall_mem_cons.2 ⟨?p1, List.forall_mem_cons.2 ⟨?p2, List.forall_mem_cons.2 ⟨?p3, List.forall_mem_cons.2 ⟨?p4, List.forall_mem_cons.2 ⟨?p5, List.forall_mem_cons.2 ⟨?p6, List.forall_mem_cons.2 ⟨?p7, List.forall_mem_cons.2 ⟨?p8, List.forall_mem_cons.2 ⟨?p9, List.forall_mem_cons.2 ⟨?p10, List.forall_mem_cons.2 ⟨?p11, List.forall_mem_cons.2 ⟨?p12, List.forall_mem_cons.2 ⟨?p13, List.forall_mem_cons.2 ⟨?p14, List.forall_mem_nil _⟩⟩⟩⟩⟩⟩⟩⟩⟩⟩⟩⟩⟩⟩⟩
        case p5 =>
          intro u wx hg hC
          have hJ3 : u 3 = (.slice (some ⟨gr, 0, none⟩) A.length cr) := hC.at 3 (by kernel_rfl)
          have hJ4 : u 4 = (.int .i64 (k : Int)) := hC.at 4 (by kernel_rfl)
          clear hC
          refine wpOp_step rfl (fun K hK => ?_)
          simp only [puts, List.foldl]
          go_simp
          exact hK _ _ ⟨rfl, rfl, hg, Below.refl _ _⟩
        case p6 =>
          intro u wx hg hC
          have hJ : u 5 = (.pointer (some ⟨gr, k, none⟩)) := hC.at 5 (by kernel_rfl)
          clear hC
          have hcl : wx.cell? ⟨gr, k, none⟩ = some (.int .u8 (x : Int)) := (hg.cell (p := ⟨gr, k, none⟩) HGR.out).trans HCX.out
          refine wpOp_step rfl (fun K hK => ?_)
          simp only [puts, List.foldl]
          go_simp
          exact hK _ _ ⟨rfl, rfl, hg, Below.refl _ _⟩
        case p8 =>
          intro u wx hg hC
          have hJ7 : u 7 = (.slice (some ⟨gc, oc, none⟩) C.length c2) := hC.at 7 (by kernel_rfl)
          clear hC
          refine wpOp_step rfl (fun K hK => ?_)
          simp only [puts, List.foldl]
          go_simp
          exact hK _ _ ⟨rfl, rfl, hg, Below.refl _ _⟩
        case p9 =>
          intro u wx hg hC
          have hJ : u 8 = (.pointer (some ⟨gc, oc, none⟩)) := hC.at 8 (by kernel_rfl)
          clear hC
          have hcl : wx.cell? ⟨gc, oc, none⟩ = some (.int .u8 (y : Int)) := (hg.cell (p := ⟨gc, oc, none⟩) HGC.out).trans HCY.out
          refine wpOp_step rfl (fun K hK => ?_)
          simp only [puts, List.foldl]
          go_simp
          exact hK _ _ ⟨rfl, rfl, hg, Below.refl _ _⟩
        case p10 =>
          intro u wx hg hC
          have hJ2 : u 2 = (.pointer (some ⟨b, 0, none⟩)) := hC.at 2 (by kernel_rfl)
          have hJ6 : u 6 = (.int .u8 (x : Int)) := hC.at 6 (by kernel_rfl)
          have hJ9 : u 9 = (.int .u8 (y : Int)) := hC.at 9 (by kernel_rfl)
          clear hC
          refine wpOp_step rfl (fun K hK => ?_)
          simp only [puts, List.foldl]
          go_simp
          refine (HDV.out wx (HFR.out.step hg)).mono ?_
          rintro e w' ⟨rfl, hb'⟩
          exact hK _ _ ⟨rfl, rfl, hg.next hb', hb'⟩
        case p11 =>
          intro u wx hg hC
          have hJ10 : u 10 = (.tuple #[.int .u8 (q : Int), .bool true]) := hC.at 10 (by kernel_rfl)
          clear hC
          refine wpOp_step rfl (fun K hK => ?_)
          simp only [puts, List.foldl]
          go_simp
          exact hK _ _ ⟨rfl, rfl, hg, Below.refl _ _⟩
        case p12 =>
          intro u wx hg hC
          have hJ11 : u 11 = (.tuple #[.int .u8 (q : Int), .bool true]) := hC.at 11 (by kernel_rfl)
          clear hC
          refine wpOp_step rfl (fun K hK => ?_)
          simp only [puts, List.foldl]
          go_simp
          exact hK _ _ ⟨rfl, rfl, hg, Below.refl _ _⟩
        case p13 =>
          intro u wx hg hC
          have hJ11 : u 11 = (.tuple #[.int .u8 (q : Int), .bool true]) := hC.at 11 (by kernel_rfl)
          clear hC
          refine wpOp_step rfl (fun K hK => ?_)
          simp only [puts, List.foldl]
          go_simp
          exact hK _ _ ⟨rfl, rfl, hg, Below.refl _ _⟩
        case p14 =>
          intro u wx hg hC
          have hJ0 : u 0 = (.slice (some ⟨gq, 0, none⟩) N N) := hC.at 0 (by kernel_rfl)
          have hJ1 : u 1 = (.int .i64 (k : Int)) := hC.at 1 (by kernel_rfl)
          clear hC
          refine wpOp_step rfl (fun K hK => ?_)
          simp only [puts, List.foldl]
          go_simp
          exact hK _ _ ⟨rfl, rfl, hg, Below.refl _ _⟩
        all_goals
          intro u wx hg hC
          clear hC
          refine wpOp_step rfl (fun K hK => ?_)
          simp only [puts, List.foldl]
          go_simp
          exact hK _ _ ⟨rfl, rfl, hg, Below.refl _ _⟩
      case stepX1 =>
        rintro ⟨i, d⟩ hp hx u wx hh hC
        have hi13 : i = 13 := by simpa using hx
        subst hi13
        have hd58 : d = 58 := by simpa using hp
        subst hd58
        obtain ⟨_, hJ11⟩ : ∃ w1, (Is (.tuple #[.int .u8 (q : Int), .bool true])) (u 11) w1 := hC.at 11 (by kernel_rfl)
        have hJ11' : u 11 = .tuple #[.int .u8 (q : Int), .bool true] := hJ11
        clear hC hJ11
        refine wpOp_step rfl (fun K hK => ?_)
        simp only [puts, List.foldl]
        go_simp
        exact hK _ _ ⟨rfl, ⟨wx, rfl⟩, hh⟩
      case stepS1 =>
        intro u w9 hbw9 hφ
        have h12 : u 12 = .int .u8 (q : Int) := hφ (12, 57) (by decide) (by decide)
        have h14 : u 14 = .pointer (some ⟨gq, k, none⟩) := hφ (14, 59) (by decide) (by decide)
        clear hφ
        have RQ9 := HRQ.out.step hbw9
        have RR9 := HRR.out.step hbw9
        obtain ⟨z, hz⟩ : ∃ z, w9.cell? ⟨gq, k, none⟩ = some z := HCZ.out w9 hbw9
        have hfz := RQ9.frozen k
        have HQ9 := Lib.hid RQ9
        have HR9 := Lib.hid RR9
        have HB9 := Lib.hid hbw9
        clear RQ9 RR9 hbw9
        refine wpOp_step rfl (fun K hK => ?_)
        simp only [puts, List.foldl]
        go_simp
        refine hK _ _ ⟨rfl, HR9.out.far ⟨gq, k, none⟩ _ HNE.out, ?_, (HBW.out.next HB9.out).setCell (p := ⟨gq, k, none⟩) HGQW.out _⟩
        have h := HQ9.out.set k (.int .u8 (q : Int))
        rw [HSTQ.out] at h
        exact h
      case fin1 =>
        rintro u wq ⟨hrr, hrq, hbw2⟩ hφ
        clear hφ
        simp only [puts, List.foldl]
        go_simp
        have R0 := Lib.hid hrr
        have Q0 := Lib.hid hrq
        have B0 := Lib.hid hbw2
        clear hrr hrq hbw2 HRR HRQ HBW HCZ HSTQ HCX HCY HGR HGC HDV HFR
        go_wp2
        go_loopw [62] (fun i wr => ∃ j : Nat, j ≤ C.length ∧ i = .int .i64 j ∧ Row wr gr 5 (u8s (tab A.length (rsj A C Q k j)) ++ ys) ∧ Row wr gq 5 (u8s (tab N (fun n => if n < k + 1 then sq Q n else 0))) ∧ Below w.heap.size w wr) (fun i _ => C.length - (intOf i).toNat)
        case atStart => exact ⟨0, Nat.zero_le _, rfl, R0.out, Q0.out, B0.out⟩
        case round =>
          clear R0 Q0 B0
          obtain ⟨j, hj, rfl, hrr, hrq, hbw⟩ := hrel
          by_cases hlj : j < C.length
          · have hj1 : (j : Int) < C.length := by omega
            have hj0 : 0 ≤ (j : Int) := by omega
            have hjb : (j : Int) ≤ 1000000 := by have := HCB.out; omega
            obtain ⟨bc, oc', ec, hbc, hcc⟩ := HMC.out (by rw [u8s_length]; omega)
            cases ec
            have hcell3 : wr.cell? ⟨gc, oc + j, none⟩ = some (.int .u8 (sq C j : Int)) := (hbw.cell (p := ⟨gc, oc + j, none⟩) hbc).trans (u8s_sq' hcc j hlj)
            obtain ⟨m, hm⟩ : ∃ m, k + j = m := ⟨_, rfl⟩
            have hmi : (k : Int) + (j : Int) = (m : Int) := by omega
            have hmL : m < A.length := by have := HNL.out; omega
            have hm1 : (m : Int) < A.length := by omega
            have hm0 : 0 ≤ (m : Int) := by omega
            have hmb := HAB.out
            have hmw : IntKind.i64.wrap (m : Int) = (m : Int) := by rw [IntKind.wrap_i64]; omega
            have hst := rsj_step A C Q A.length k j
            have hp8 := rsj_lt HA8.out HC8.out HQ8.out k j m
            have hcp : wr.cell? ⟨gr, m, none⟩ = some (.int .u8 (rsj A C Q k j m : Int)) := by
              rw [hrr.cell, List.getElem?_append_left (by rw [u8s_length, tab_length]; exact hmL), u8s, List.getElem?_map, tab_get _ _ _ hmL]; rfl
            have hcq : wr.cell? ⟨gq, k, none⟩ = some (.int .u8 (q : Int)) := by
              rw [hrq.cell, u8s, List.getElem?_map, tab_get _ _ _ hlt, if_pos (by omega), HQ2.out]; rfl
            rw [hm, HQ2.out] at hst
            have hd8 := HC8.out.sq j
            have hq8 := HQB.out
            obtain ⟨d, hd⟩ : ∃ d, sq C j = d := ⟨_, rfl⟩
            rw [hd] at hst hcell3 hd8
            have ht8 := gm_lt hq8 hd8
            obtain ⟨p, hp⟩ : ∃ p, rsj A C Q k j m = p := ⟨_, rfl⟩
            rw [hp] at hst hp8 hcp
            have HMU0 : ∀ (u : World) (b1 : Nat), Fld u b → Lies u u.heap.size (some ⟨b1, 0, none⟩) [.int .u8 (q : Int), .int .u8 (d : Int)] → Calls Try.prog 44 #[.pointer (some ⟨b, 0, none⟩), .slice (some ⟨b1, 0, none⟩) 2 2] u fun e w' => e = .returned (.int .u8 (gm q d : Int)) ∧ Below u.heap.size u w' := fun u b1 hf hl => mul_two b b1 2 q d u hf hq8 hd8 hl
            obtain ⟨t, ht⟩ : ∃ t, gm q d = t := ⟨_, rfl⟩
            rw [ht] at HMU0 hst ht8
            have HAD0 : ∀ (u : World) (b1 : Nat), Lies u u.heap.size (some ⟨b1, 0, none⟩) [.int .u8 (p : Int), .int .u8 (t : Int)] → Calls Try.prog 43 #[.pointer (some ⟨b, 0, none⟩), .slice (some ⟨b1, 0, none⟩) 2 2] u fun e w' => e = .returned (.int .u8 ((p ^^^ t : Nat) : Int)) ∧ Below u.heap.size u w' := fun u b1 hl => (add_two b b1 2 p t u hp8 ht8 hl).mono fun _ u' h => ⟨h.1, by rw [← h.2]; exact Below.refl _ _⟩
            obtain ⟨r, hr⟩ : ∃ r, p ^^^ t = r := ⟨_, rfl⟩
            rw [hr] at HAD0 hst
            have HMU := Lib.hid HMU0
            have HAD := Lib.hid HAD0
            have HCP := Lib.hid hcp
            have HCQ := Lib.hid hcq
            have HRR2 := Lib.hid hrr
            have HRQ2 := Lib.hid hrq
            have HBW2 := Lib.hid hbw
            have HGR2 : Hid (gr < wr.heap.size) := Lib.hid hrr.lt
            have HGQ2 : Hid (gq < wr.heap.size) := Lib.hid hrq.lt
            have HFR2 : Hid (Fld wr b) := Lib.hid (HF.out.step hbw)
            have HLM : Hid (m < (u8s (tab A.length (rsj A C Q k j)) ++ ys).length) := Lib.hid (by rw [List.length_append, u8s_length, tab_length]; omega)
            have HVC : Hid ((Value.int .u8 (r : Int)).cells = #[.int .u8 (r : Int)]) := Lib.hid rfl
            have HVO : Hid ((Value.int .u8 (r : Int)).oneCell' = true) := Lib.hid rfl
            have HST : Hid ((u8s (tab A.length (rsj A C Q k j)) ++ ys).set m (.int .u8 (r : Int)) = u8s (tab A.length (rsj A C Q k (j + 1))) ++ ys) := Lib.hid (by rw [List.set_append_left _ _ (by rw [u8s_length, tab_length]; exact hmL), u8s_set, hst])
            clear HMU0 HAD0 hcp hcq hrr hrq hbw hst hp hr hd hcc hbc hm hmL hp8 hd8 hq8 ht8 ht hmb
            go_wp2
            refine region_tail 21 [(0, 67), (1, 68), (2, 69), (3, 70), (4, 71), (5, 72), (6, 73), (7, 74), (8, 75), (9, 76), (10, 77), (11, 78), (12, 79), (13, 80), (14, 81), (15, 82), (16, 83), (17, 84), (18, 85), (19, 86), (20, 87)]
              (fun i => [Is (.slice (some ⟨gr, 0, none⟩) A.length cr), Is (.int .i64 (k : Int)), Is (.int .i64 (j : Int)), Is (.int .i64 (m : Int)), Is (.pointer (some ⟨b, 0, none⟩)), Is (.slice (some ⟨gr, 0, none⟩) A.length cr), Is (.int .i64 (k : Int)), Is (.int .i64 (j : Int)), Is (.int .i64 (m : Int)), Is (.pointer (some ⟨gr, m, none⟩)), Is (.int .u8 (p : Int)), Is (.pointer (some ⟨b, 0, none⟩)), Is (.slice (some ⟨gq, 0, none⟩) N N), Is (.int .i64 (k : Int)), Is (.pointer (some ⟨gq, k, none⟩)), Is (.int .u8 (q : Int)), Is (.int .u8 (d : Int)), New [.int .u8 (q : Int), .int .u8 (d : Int)], Is (.int .u8 (t : Int)), New [.int .u8 (p : Int), .int .u8 (t : Int)], Is (.int .u8 (r : Int))].getD i (Is undef))
              (fun w' => Below wr.heap.size wr w') (by kernel_rfl) (by decide) (by kernel_rfl) (by kernel_rfl) (by kernel_rfl) (by decide) (by decide) (by kernel_rfl) rfl ?mono ((Below.refl _ _).drew) ?step ?fin
            case mono =>
              intro i
              match i with
              | 0 | 1 | 2 | 3 | 4 | 5 | 6 | 7 | 8 | 9 | 10 | 11 | 12 | 13 | 14 | 15 | 16 | 18 | 20 => exact Is.monot _
              | 17 | 19 => exact New.monot _
              | _ + 21 => exact Is.monot _
            case step =>
              refine List.forall_mem_cons.2 ⟨?s0, List.forall_mem_cons.2 ⟨?s1, List.forall_mem_cons.2 ⟨?s2, List.forall_mem_cons.2 ⟨?s3, List.forall_mem_cons.2 ⟨?s4, List.forall_mem_cons.2 ⟨?s5, List.forall_mem_cons.2 ⟨?s6, List.forall_mem_cons.2 ⟨?s7, List.forall_mem_cons.2 ⟨?s8, List.forall_mem_cons.2 ⟨?s9, List.forall_mem_cons.2 ⟨?s10, List.forall_mem_cons.2 ⟨?s11, List.forall_mem_cons.2 ⟨?s12, List.forall_mem_cons.2 ⟨?s13, List.forall_mem_cons.2 ⟨?s14, List.forall_mem_cons.2 ⟨?s15, List.forall_mem_cons.2 ⟨?s16, List.forall_mem_cons.2 ⟨?s17, List.forall_mem_cons.2 ⟨?s18, List.forall_mem_cons.2 ⟨?s19, List.forall_mem_cons.2 ⟨?s20, List.forall_mem_nil _⟩⟩⟩⟩⟩⟩⟩⟩⟩⟩⟩⟩⟩⟩⟩⟩⟩⟩⟩⟩⟩
              case s3 =>
                intro u wx hg hC
                have hJ1 : u 1 = (.int .i64 (k : Int)) := hC.at 1 (by kernel_rfl)
                have hJ2 : u 2 = (.int .i64 (j : Int)) := hC.at 2 (by kernel_rfl)
                clear hC
                refine wpOp_step rfl (fun K hK => ?_)
                simp only [puts, List.foldl]
                go_simp
                exact hK _ _ ⟨rfl, rfl, hg, Below.refl _ _⟩
              case s8 =>
                intro u wx hg hC
                have hJ6 : u 6 = (.int .i64 (k : Int)) := hC.at 6 (by kernel_rfl)
                have hJ7 : u 7 = (.int .i64 (j : Int)) := hC.at 7 (by kernel_rfl)
                clear hC
                refine wpOp_step rfl (fun K hK => ?_)
                simp only [puts, List.foldl]
                go_simp
                exact hK _ _ ⟨rfl, rfl, hg, Below.refl _ _⟩
              case s9 =>
                intro u wx hg hC
                have hJ5 : u 5 = (.slice (some ⟨gr, 0, none⟩) A.length cr) := hC.at 5 (by kernel_rfl)
                have hJ8 : u 8 = (.int .i64 (m : Int)) := hC.at 8 (by kernel_rfl)
                clear hC
                refine wpOp_step rfl (fun K hK => ?_)
                simp only [puts, List.foldl]
                go_simp
                exact hK _ _ ⟨rfl, rfl, hg, Below.refl _ _⟩
              case s10 =>
                intro u wx hg hC
                have hJ : u 9 = (.pointer (some ⟨gr, m, none⟩)) := hC.at 9 (by kernel_rfl)
                clear hC
                have hcl : wx.cell? ⟨gr, m, none⟩ = some (.int .u8 (p : Int)) := (hg.cell (p := ⟨gr, m, none⟩) HGR2.out).trans HCP.out
                refine wpOp_step rfl (fun K hK => ?_)
                simp only [puts, List.foldl]
                go_simp
                exact hK _ _ ⟨rfl, rfl, hg, Below.refl _ _⟩
              case s14 =>
                intro u wx hg hC
                have hJ12 : u 12 = (.slice (some ⟨gq, 0, none⟩) N N) := hC.at 12 (by kernel_rfl)
                have hJ13 : u 13 = (.int .i64 (k : Int)) := hC.at 13 (by kernel_rfl)
                clear hC
                refine wpOp_step rfl (fun K hK => ?_)
                simp only [puts, List.foldl]
                go_simp
                exact hK _ _ ⟨rfl, rfl, hg, Below.refl _ _⟩
              case s15 =>
                intro u wx hg hC
                have hJ : u 14 = (.pointer (some ⟨gq, k, none⟩)) := hC.at 14 (by kernel_rfl)
                clear hC
                have hcl : wx.cell? ⟨gq, k, none⟩ = some (.int .u8 (q : Int)) := (hg.cell (p := ⟨gq, k, none⟩) HGQ2.out).trans HCQ.out
                refine wpOp_step rfl (fun K hK => ?_)
                simp only [puts, List.foldl]
                go_simp
                exact hK _ _ ⟨rfl, rfl, hg, Below.refl _ _⟩
              case s17 =>
                intro u wx hg hC
                have hJ15 : u 15 = (.int .u8 (q : Int)) := hC.at 15 (by kernel_rfl)
                have hJ16 : u 16 = (.int .u8 (d : Int)) := hC.at 16 (by kernel_rfl)
                clear hC
                refine wpOp_step rfl (fun K hK => ?_)
                simp only [puts, List.foldl]
                go_simp
                exact hK _ _ ⟨rfl, ⟨wx.heap.size, rfl, Lies.new [_, _] _ _⟩, hg.alloc hg.size _, alloc_below _ _⟩
              case s18 =>
                intro u wx hg hC
                have hJ11 : u 11 = (.pointer (some ⟨b, 0, none⟩)) := hC.at 11 (by kernel_rfl)
                obtain ⟨b1, h2, hl⟩ : New [.int .u8 (q : Int), .int .u8 (d : Int)] (u 17) wx := hC.at 17 (by kernel_rfl)
                clear hC
                simp only [List.length_cons, List.length_nil, Nat.zero_add, Nat.reduceAdd] at h2
                refine wpOp_step rfl (fun K hK => ?_)
                simp only [puts, List.foldl]
                go_simp
                refine (HMU.out wx b1 (HFR2.out.step hg) hl).mono ?_
                rintro e w' ⟨rfl, hb'⟩
                exact hK _ _ ⟨rfl, rfl, hg.next hb', hb'⟩
              case s19 =>
                intro u wx hg hC
                have hJ10 : u 10 = (.int .u8 (p : Int)) := hC.at 10 (by kernel_rfl)
                have hJ18 : u 18 = (.int .u8 (t : Int)) := hC.at 18 (by kernel_rfl)
                clear hC
                refine wpOp_step rfl (fun K hK => ?_)
                simp only [puts, List.foldl]
                go_simp
                exact hK _ _ ⟨rfl, ⟨wx.heap.size, rfl, Lies.new [_, _] _ _⟩, hg.alloc hg.size _, alloc_below _ _⟩
              case s20 =>
                intro u wx hg hC
                have hJ4 : u 4 = (.pointer (some ⟨b, 0, none⟩)) := hC.at 4 (by kernel_rfl)
                obtain ⟨b1, h2, hl⟩ : New [.int .u8 (p : Int), .int .u8 (t : Int)] (u 19) wx := hC.at 19 (by kernel_rfl)
                clear hC
                simp only [List.length_cons, List.length_nil, Nat.zero_add, Nat.reduceAdd] at h2
                refine wpOp_step rfl (fun K hK => ?_)
                simp only [puts, List.foldl]
                go_simp
                refine (HAD.out wx b1 hl).mono ?_
                rintro e w' ⟨rfl, hb'⟩
                exact hK _ _ ⟨rfl, rfl, hg.next hb', hb'⟩
              all_goals
                intro u wx hg hC
                clear hC
                refine wpOp_step rfl (fun K hK => ?_)
                simp only [puts, List.foldl]
                go_simp
                refine hK _ _ ?_
                clear hK K
                first
                  | (refine ⟨rfl, ?_, hg, Below.refl _ _⟩; rfl)
                  | (refine ⟨rfl, ?_, hg.alloc hg.size _, alloc_below _ _⟩; exact ⟨wx.heap.size, rfl, Lies.new [_] _ _⟩)
                  | (refine ⟨rfl, ?_, hg.alloc hg.size _, alloc_below _ _⟩; exact ⟨wx.heap.size, rfl, Lies.new [_, _] _ _⟩)
            case fin =>
              intro u w9 hbw9 hφ
              have h0 : u 0 = .slice (some ⟨gr, 0, none⟩) A.length cr := hφ (0, 67) (by decide)
              have h3 : u 3 = .int .i64 (m : Int) := hφ (3, 70) (by decide)
              have h20 : u 20 = .int .u8 (r : Int) := hφ (20, 87) (by decide)
              clear hφ
              simp only [puts, List.foldl]
              go_simp
              have R9 := Lib.hid (HRR2.out.step hbw9)
              have Q9 := Lib.hid (HRQ2.out.step hbw9)
              have B9 := Lib.hid hbw9
              clear hbw9
              go_wp2_with (first
                | ((with_reducible refine R9.out.wpStore1K m 5 (.int .u8 (r : Int)) HS1.out HLM.out HVC.out HVO.out ?_ ?_); rfl; intro w2 r2 o2 s2; have R2 := Lib.hid r2; have O2 := Lib.hid o2; clear r2 o2 s2))
              go_roundw
              case rel => exact ⟨j + 1, by omega, by go_num, by have h := R2.out; rw [HST.out] at h; exact h, Q9.out.only O2.out (Ne.symm HNE.out), (HBW2.out.next B9.out).trans (O2.out.below HGRW.out (HBW2.out.next B9.out).size)⟩
              case measure => first | (simp [intOf]; done) | (simp [intOf]; omega)
          · have ej : j = C.length := by omega
            have HRR : Hid (Row wr gr 5 (u8s (tab A.length (rst A C Q (k + 1))) ++ ys)) := Lib.hid (by
              rw [← tab_congr A.length (fun n _ => rsj_full A C Q k n), ← ej]; exact hrr)
            have HRQ := Lib.hid hrq
            have HBW := Lib.hid hbw
            clear hrr hrq hbw ej
            go_wp2
            go_roundw
            case rel => exact ⟨k + 1, by omega, by go_num, HRR.out, HRQ.out, HBW.out⟩
            case measure => first | (simp [intOf]; done) | (simp [intOf]; omega)
    · have ek : k = N := by omega
      rw [ek] at hrr hrq
      have HVQ : Hid (Reads wr (.slice (some ⟨gq, 0, none⟩) N N) Q) := Lib.hid (by
        refine ⟨_, _, by rw [HQL.out], by rw [HQL.out]; exact Nat.le_refl _, ?_⟩
        have e : tab N (fun n => if n < N then sq Q n else 0) = Q := by
          have h := tab_self Q
          rw [HQL.out] at h
          rw [← h]
          refine tab_congr N fun n hn => ?_
          rw [if_pos hn, h]
        rw [e] at hrq
        exact row_lies hrq)
      have hll : Lies wr wr.heap.size (some ⟨gr, 0, none⟩) (u8s (tab A.length (rst A C Q N))) := by
        have h := (row_lies hrr)
        intro h3
        obtain ⟨g2, o2, e2, h4, h5⟩ := h (by rw [List.length_append]; omega)
        exact ⟨g2, o2, e2, h4, fun j u hu => h5 j u (by rw [List.getElem?_append_left (List.getElem?_eq_some_iff.1 hu).1]; exact hu)⟩
      have HBE : Hid (Calls Try.prog 57 #[.slice (some ⟨gr, 0, none⟩) A.length cr] wr fun e w' => (∃ v, e = .returned v ∧ Reads wr v (beh (tab A.length (rst A C Q N)))) ∧ wr = w') := Lib.hid (by
        have h := behind_any (some ⟨gr, 0, none⟩) cr (tab A.length (rst A C Q N)) wr (by rw [tab_length]; have := HAB.out; omega) (by rw [tab_length]; exact HCR.out) hll
        rw [tab_length] at h
        exact h)
      have HBW := Lib.hid hbw
      clear hrr hrq hbw ek hll
      go_wp2_with (go_at_call 57; (with_reducible refine HBE.out.mono ?_); rintro e w2 ⟨⟨v, rfl, hv⟩, rfl⟩; have HV := Lib.hid hv; clear hv)
      go_ret3
      exact ⟨⟨_, _, rfl, HVQ.out, HV.out⟩, HBW.out⟩

theorem divmod_any (b : Nat) (a c : Option Addr) (ca cc : Nat) (X Y : List Nat) (w : World) (hf : Fld w b) (hX : By X) (hY : By Y) (hlx : X.length ≤ 1000000) (hly : Y.length ≤ 1000000) (h1 : X.length ≤ ca) (h2 : Y.length ≤ cc) (h0 : 0 < (beh Y).length)
    (hr : Lies w w.heap.size a (u8s X)) (hs : Lies w w.heap.size c (u8s Y)) :
    Calls Try.prog 40 #[.pointer (some ⟨b, 0, none⟩), .slice a X.length ca, .slice c Y.length cc] w fun e w' =>
      (∃ v v2, e = .returned (.tuple #[v, v2, .bool true]) ∧ Reads w' v (dq X Y) ∧ Reads w' v2 (dr X Y)) ∧ Below w.heap.size w w' := by
  by_cases hlt : (beh X).length < (beh Y).length
  · have e1 : dq X Y = [] := by unfold dq; exact if_pos hlt
    have e2 : dr X Y = beh X := by unfold dr; exact if_pos hlt
    rw [e1, e2]
    exact (divmod_less b a c ca cc X Y w hlx hly h1 h2 h0 hlt hr hs).mono fun e w' ⟨⟨v, h3, h4⟩, h5⟩ => ⟨⟨_, v, h3, Reads.nil _, h4⟩, h5⟩
  · have e1 : dq X Y = qs (beh X) (beh Y) ((beh X).length - (beh Y).length + 1) := by unfold dq; exact if_neg hlt
    have e2 : dr X Y = beh (tab (beh X).length (rst (beh X) (beh Y) (dq X Y) ((beh X).length - (beh Y).length + 1))) := by unfold dr; exact if_neg hlt
    rw [e2, e1]
    exact divmod_more b a c ca cc X Y w hf hX hY hlx hly h1 h2 h0 (by omega) hr hs

end Go.Proofs.Ytkcnmiaedcenoaa

/- The walk of PolyTimes. -/
namespace Go.Proofs.Ytkcnmiaedcenoaa
open Go.RowKit GfMath PolyMath
set_option linter.unusedVariables false

theorem two_polys {u : World} {a c : Option Addr} {ca cc : Nat} {A C : List Nat} (hA : By A) (hC : By C) (h1 : A.length ≤ ca) (h2 : C.length ≤ cc) (h3 : ca ≤ 140737488351232) (h4 : cc ≤ 140737488351232)
    (hr : Lies u u.heap.size a (u8s A)) (hs : Lies u u.heap.size c (u8s C)) : Polys u [(a, A.length, ca), (c, C.length, cc)] [A, C] := by
  refine ⟨rfl, fun i hi hi2 => ?_⟩
  match i, hi with
  | 0, _ => exact ⟨rfl, h1, h3, hA, hr⟩
  | 1, _ => exact ⟨rfl, h2, h4, hC, hs⟩
theorem pmul_two (b : Nat) {a c : Option Addr} {ca cc : Nat} {A C : List Nat} (hA : By A) (hC : By C) (h1 : A.length ≤ ca) (h2 : C.length ≤ cc) (h3 : ca ≤ 140737488351232) (h4 : cc ≤ 140737488351232) (h5 : A.length ≤ 5000) (h6 : C.length ≤ 5000)
    (u : World) (hf : Fld u b) (hr : Lies u u.heap.size a (u8s A)) (hs : Lies u u.heap.size c (u8s C)) :
    Calls Try.prog 37 #[.pointer (some ⟨b, 0, none⟩), .slice (some ⟨u.heap.size, 0, none⟩) 2 2] (u.alloc (.cells #[.slice a A.length ca, .slice c C.length cc] 22)) fun e w' => (∃ v, e = .returned v ∧ Reads w' v (pms [A, C])) ∧ Below u.heap.size u w' :=
  (pmul_any b (some ⟨u.heap.size, 0, none⟩) 2 [(a, A.length, ca), (c, C.length, cc)] [A, C] _ (hf.step (alloc_below _ _)) ((two_polys hA hC h1 h2 h3 h4 hr hs).step (alloc_below _ _)) (by simp) (by intro l hl; simp at hl; rcases hl with rfl | rfl <;> assumption)
    (Lies.new [.slice a A.length ca, .slice c C.length cc] u _)).mono fun e w' ⟨h1, h2⟩ => ⟨h1, (alloc_below _ _).next h2⟩
theorem padd_two (b : Nat) {a c : Option Addr} {ca cc : Nat} {A C : List Nat} (hA : By A) (hC : By C) (h1 : A.length ≤ ca) (h2 : C.length ≤ cc) (h3 : ca ≤ 140737488351232) (h4 : cc ≤ 140737488351232) (h5 : A.length ≤ 5000) (h6 : C.length ≤ 5000)
    (u : World) (hr : Lies u u.heap.size a (u8s A)) (hs : Lies u u.heap.size c (u8s C)) :
    Calls Try.prog 36 #[.pointer (some ⟨b, 0, none⟩), .slice (some ⟨u.heap.size, 0, none⟩) 2 2] (u.alloc (.cells #[.slice a A.length ca, .slice c C.length cc] 22)) fun e w' => (∃ v, e = .returned v ∧ Reads w' v (addl [A, C])) ∧ Below u.heap.size u w' :=
  (padd_any b (some ⟨u.heap.size, 0, none⟩) 2 [(a, A.length, ca), (c, C.length, cc)] [A, C] _ ((two_polys hA hC h1 h2 h3 h4 hr hs).step (alloc_below _ _)) (by simp) (by intro l hl; simp at hl; rcases hl with rfl | rfl <;> assumption)
    (Lies.new [.slice a A.length ca, .slice c C.length cc] u _)).mono fun e w' ⟨h1, h2⟩ => ⟨h1, (alloc_below _ _).next h2⟩
theorem powI_3 {x : Nat} (hx : x < 256) : powI x 3 = pw x 3 := by
  by_cases h : x = 0
  · subst h; rw [powI, if_neg (by omega), if_pos rfl, pw, gm_zero_right]
  · exact powI_pw hx h 3 3 (by decide)

end Go.Proofs.Ytkcnmiaedcenoaa

/- Contracts of the document's Cut, Of, at, Bytes, Same. -/
namespace Go.Proofs.Ytkcnmiaedcenoaa
open Go.RowKit GfMath PolyMath
set_option linter.unusedVariables false

theorem one_int : One Try.prog 3 := One.of (by kernel_rfl)
/-- Numbers as int values. -/
def nats (l : List Nat) : List Value := l.map fun n : Nat => Value.int .i64 (n : Int)
theorem nats_length (l : List Nat) : (nats l).length = l.length := by simp [nats]
theorem nats_get (l : List Nat) (j : Nat) (h : j < l.length) : (nats l)[j]? = some (.int .i64 (l[j] : Int)) := by simp [nats, h]
theorem nats_snoc (l : List Nat) (n : Nat) : nats (l ++ [n]) = nats l ++ [.int .i64 (n : Int)] := by simp [nats]
theorem nats_set (l : List Nat) (j : Nat) (x : Nat) : (nats l).set j (.int .i64 (x : Int)) = nats (l.set j x) := by simp [nats, List.map_set]
theorem u8s_snoc (l : List Nat) (n : Nat) : u8s (l ++ [n]) = u8s l ++ [.int .u8 (n : Int)] := by simp [u8s]
theorem nats_sq {w : World} {b off : Nat} {B : Nat} {l : List Nat} (h : ∀ j u, (nats l)[j]? = some u → w.cell? ⟨b, off + j, none⟩ = some u) (j : Nat) (hj : j < l.length) : w.cell? ⟨b, off + j, none⟩ = some (.int .i64 (sq l j : Int)) := by
  rw [sq_get l j hj]; exact h j _ (nats_get l j hj)
theorem u8s_sq {w : World} {b off : Nat} {l : List Nat} (h : ∀ j u, (u8s l)[j]? = some u → w.cell? ⟨b, off + j, none⟩ = some u) (j : Nat) (hj : j < l.length) : w.cell? ⟨b, off + j, none⟩ = some (.int .u8 (sq l j : Int)) := by
  rw [sq_get l j hj]; exact h j _ (u8s_get l j hj)
/-- A slice of ints that reads as l. -/
def IReads (w : World) (v : Value) (l : List Nat) : Prop := ∃ a cap, v = .slice a l.length cap ∧ l.length ≤ cap ∧ Lies w w.heap.size a (nats l)
theorem IReads.step {w w' : World} {v : Value} {l : List Nat} (h : IReads w v l) (hb : Below w.heap.size w w') : IReads w' v l := by
  obtain ⟨a, cap, h1, h2, h3⟩ := h
  exact ⟨a, cap, h1, h2, h3.step hb⟩

theorem Lies.take {w : World} {B : Nat} {a : Option Addr} {xs : List Value} (h : Lies w B a xs) (k : Nat) : Lies w B a (xs.take k) := by
  intro h0
  rw [List.length_take] at h0
  obtain ⟨b', off', e, h1, h2⟩ := h (by omega)
  refine ⟨b', off', e, h1, fun j u hj => h2 j u ?_⟩
  rw [List.getElem?_take] at hj
  split at hj
  · exact hj
  · cases hj

def lenV : Value → Nat
  | .slice _ n _ => n
  | _ => 0
end Go.Proofs.Ytkcnmiaedcenoaa

/- Contracts of the document's Of, at, Bytes, Same, Eval. -/
namespace Go.Proofs.Ytkcnmiaedcenoaa
open Go.RowKit GfMath PolyMath
set_option linter.unusedVariables false

theorem own_form2 {w : World} {base : Nat} {v : Value} {n : Nat} {xs : List Value} {e : TypeId} (h : w.ownsRow base e 1 v n xs) : ∃ a cap, v = .slice a n cap ∧ n ≤ cap ∧ Lies w w.heap.size a xs := by
  obtain ⟨a, cap, rfl, hl⟩ := own_form h
  refine ⟨a, cap, rfl, ?_, hl⟩
  rcases h.2 with ⟨h1, h2⟩ | ⟨g', cap', cur, h1, h2, h3, h4, _⟩
  · omega
  · cases h1; exact h4
theorem own_zero (w : World) (t : TypeId) : (w.alloc (.cells #[] t)).ownsRow w.heap.size t 1 (.slice (some ⟨w.heap.size, 0, none⟩) 0 0) 0 [] :=
  Row.owns (xs := []) (ys := []) (Row.new w t []) (Nat.le_refl _) rfl rfl (Nat.le_refl _) (by unfold maxLen; omega)

end Go.Proofs.Ytkcnmiaedcenoaa

/- Contracts of the document's Eval, Derive, Add. -/
namespace Go.Proofs.Ytkcnmiaedcenoaa
open Go.RowKit GfMath PolyMath
set_option linter.unusedVariables false

theorem E_succ (f : Nat → Nat) (k x : Nat) : E f (k + 1) x = E f k x ^^^ gm (f k) (pw x k) := rfl
theorem E_lt {f : Nat → Nat} (hf : ∀ i, f i < 256) {x : Nat} (hx : x < 256) (k : Nat) : E f k x < 256 := xs_lt _ fun i _ => gm_lt (hf i) (pw_lt hx i)

end Go.Proofs.Ytkcnmiaedcenoaa

/- Divisors. No program. -/
namespace PolyMath
open GfMath
set_option linter.unusedVariables false

theorem cv_add_left (f f' g : Nat → Nat) (n : Nat) : cv (fun i => f i ^^^ f' i) g n = cv f g n ^^^ cv f' g n := by
  rw [cv, cv, cv, ← xs_xor]
  exact xs_congr _ fun i _ => gm_add_left _ _ _
theorem cv_shift {c : Nat} {g h : Nat → Nat} (hc : c < 256) (hg : ∀ i, g i < 256) (hh : ∀ i, h i < 256) (N n : Nat) :
    cv (fun m => if N ≤ m then gm c (g (m - N)) else 0) h n = if N ≤ n then gm c (cv g h (n - N)) else 0 := by
  by_cases hN : N ≤ n
  · rw [if_pos hN, cv, show n + 1 = N + (n - N + 1) by omega, xs_split, xs_zero _ fun i hi => by rw [if_neg (by omega), gm_zero_left], Nat.zero_xor, cv, xs_gm]
    refine xs_congr _ fun i hi => ?_
    rw [if_pos (by omega), show N + i - N = i by omega, show n - (N + i) = n - N - i by omega, gm_assoc hc (hg _) (hh _)]
  · rw [if_neg hN]
    exact xs_zero _ fun i hi => by dsimp only; rw [if_neg (by omega), gm_zero_left]
theorem cvk_assoc {f g h : Nat → Nat} (hf : ∀ i, f i < 256) (hg : ∀ i, g i < 256) (hh : ∀ i, h i < 256) : ∀ N n, cv (cvk f g N) h n = cvk f (cv g h) N n
  | 0, n => xs_zero _ fun i _ => by rw [show cvk f g 0 i = 0 from rfl, gm_zero_left]
  | N + 1, n => by
    have e : cvk f g (N + 1) = fun m => cvk f g N m ^^^ (if N ≤ m then gm (f N) (g (m - N)) else 0) := funext fun m => cvk_succ f g N m
    rw [e, cv_add_left, cvk_assoc hf hg hh N n, cv_shift (hf N) hg hh, cvk_succ]
theorem cv_assoc {f g h : Nat → Nat} (hf : ∀ i, f i < 256) (hg : ∀ i, g i < 256) (hh : ∀ i, h i < 256) (N : Nat) (hN : ∀ i, N ≤ i → f i = 0) : cv (cv f g) h = cv f (cv g h) := by
  funext n
  have e : cv f g = cvk f g N := funext fun m => (cvk_full f g N m hN).symm
  rw [e, cvk_assoc hf hg hh, cvk_full _ _ _ _ hN]
theorem cf_pm (a b : List Nat) : cf (pm a b) = cv (cf a) (cf b) := funext fun k => pm_cf a b k
theorem cf_assoc {a b c : List Nat} (ha : By a) (hb : By b) (hc : By c) : cv (cv (cf a) (cf b)) (cf c) = cv (cf a) (cv (cf b) (cf c)) :=
  cv_assoc (fun i => ha.cf i) (fun i => hb.cf i) (fun i => hc.cf i) a.length fun i hi => cf_out a i hi
/-- The sum of two. -/
def ad (a b : List Nat) : List Nat := addl [a, b]
theorem ad_cf (a b : List Nat) (k : Nat) : cf (ad a b) k = cf a k ^^^ cf b k := by rw [ad, addl_cf]; simp [sumf]
theorem ad_by {a b : List Nat} (ha : By a) (hb : By b) : By (ad a b) := addl_by _ (by intro l hl; simp at hl; rcases hl with rfl | rfl <;> assumption)
theorem cf_one (k : Nat) : cf [1] k = if k = 0 then 1 else 0 := by
  match k with
  | 0 => rfl
  | k + 1 => rw [cf_out _ _ (by simp), if_neg (by omega)]
theorem cv_const {c : Nat} {g : Nat → Nat} (n : Nat) : cv (cf [c]) g n = gm c (g n) := by
  rw [cv, xs_front, xs_zero _ fun i _ => by rw [cf_out _ _ (by simp), gm_zero_left], Nat.xor_zero]
  rfl
theorem by_c {c : Nat} (h : c < 256) : By [c] := by_one h
/-- d divides p. -/
def Dv (d p : List Nat) : Prop := ∃ h : List Nat, By h ∧ cf p = cv (cf h) (cf d)
theorem Dv.refl {p : List Nat} (hp : By p) : Dv p p := ⟨[1], by_one (by omega), funext fun k => by rw [cv_const, gm_one_left (hp.cf k)]⟩
theorem Dv.zero (d : List Nat) : Dv d [] := ⟨[], by_nil, funext fun k => by rw [cf_out [] k (Nat.zero_le _)]; exact (xs_zero _ fun i _ => by rw [cf_out [] i (Nat.zero_le _), gm_zero_left]).symm⟩
theorem Dv.trans {a b c : List Nat} (ha : By a) (hb : By b) (h1 : Dv a b) (h2 : Dv b c) : Dv a c := by
  obtain ⟨h, hh, e1⟩ := h1
  obtain ⟨k, hk, e2⟩ := h2
  refine ⟨pm k h, pm_by hk hh, ?_⟩
  rw [e2, e1, cf_pm, cf_assoc hk hh ha]
theorem Dv.mul {d p q : List Nat} (hd : By d) (hp : By p) (hq : By q) (h : Dv d p) : Dv d (pm q p) := by
  obtain ⟨k, hk, e⟩ := h
  refine ⟨pm q k, pm_by hq hk, ?_⟩
  rw [cf_pm, e, cf_pm, cf_assoc hq hk hd]
theorem Dv.add {d a b c : List Nat} (h1 : Dv d a) (h2 : Dv d b) (hc : ∀ k, cf c k = cf a k ^^^ cf b k) : Dv d c := by
  obtain ⟨k, hk, e1⟩ := h1
  obtain ⟨m, hm, e2⟩ := h2
  refine ⟨ad k m, ad_by hk hm, funext fun n => ?_⟩
  have e : cf (ad k m) = fun i => cf k i ^^^ cf m i := funext fun i => ad_cf k m i
  rw [hc, e1, e2, e, cv_add_left]
theorem Dv.congr {d a b : List Nat} (h : Dv d a) (e : ∀ k, cf a k = cf b k) : Dv d b := by
  obtain ⟨k, hk, e1⟩ := h
  exact ⟨k, hk, by rw [← e1]; exact (funext e).symm⟩
theorem Dv.beh {d a : List Nat} : Dv d (PolyMath.beh a) ↔ Dv d a := ⟨fun h => h.congr (cf_beh a), fun h => h.congr fun k => (cf_beh a k).symm⟩
/-- Euclid's step. -/
theorem Dv.step {d a b : List Nat} (hd : By d) (ha : By a) (hb : By b) (h0 : 0 < (PolyMath.beh b).length) : (Dv d a ∧ Dv d b) ↔ (Dv d b ∧ Dv d (dr a b)) := by
  obtain ⟨hQ, _, hR, _, _, _, hcf⟩ := div_spec ha hb h0
  have e : ∀ k, cf a k = cf (pm (dq a b) b) k ^^^ cf (dr a b) k := fun k => by rw [hcf k, pm_cf]
  constructor
  · rintro ⟨h1, h2⟩
    exact ⟨h2, Dv.add h1 (Dv.mul hd hb hQ h2) fun k => by rw [e k, Nat.xor_comm (cf (pm _ _) k), Nat.xor_assoc, Nat.xor_self, Nat.xor_zero]⟩
  · rintro ⟨h1, h2⟩
    exact ⟨Dv.add (Dv.mul hd hb hQ h1) h2 e, h1⟩
/-- What is divided leaves nothing. -/
theorem Dv.rest {g p : List Nat} (hg : By g) (hp : By p) (h0 : 0 < (PolyMath.beh g).length) (h : Dv g p) : dr p g = [] := by
  obtain ⟨hQ, _, hR, hRc, hRl, _, hcf⟩ := div_spec hp hg h0
  obtain ⟨k, hk, e⟩ := h
  -- (k + q) g = r
  have hS := ad_by hk hQ
  have e2 : ∀ n, cf (dr p g) n = cv (cf (ad k (dq p g))) (cf g) n := fun n => by
    have e3 : cf (ad k (dq p g)) = fun i => cf k i ^^^ cf (dq p g) i := funext fun i => ad_cf _ _ i
    rw [e3, cv_add_left, ← congrFun e n, hcf n, Nat.xor_comm (cv _ _ n), Nat.xor_assoc, Nat.xor_self, Nat.xor_zero]
  have e4 : ∀ n, cf (dr p g) n = cf (pm (PolyMath.beh (ad k (dq p g))) (PolyMath.beh g)) n := fun n => by
    have a1 : cf (PolyMath.beh (ad k (dq p g))) = cf (ad k (dq p g)) := funext (cf_beh _)
    have a2 : cf (PolyMath.beh g) = cf g := funext (cf_beh _)
    rw [e2, pm_cf, a1, a2]
  have e5 := can_eq hRc (pm_can hS.beh hg.beh (beh_can _) (beh_can _)) e4
  by_cases hz : (PolyMath.beh (ad k (dq p g))).length = 0
  · rw [e5, List.eq_nil_of_length_eq_zero hz, pm_nil_left]
  · have := congrArg List.length e5
    rw [pm_length _ _ (by omega) h0] at this
    omega
theorem Dv.nil_zero {p : List Nat} (h : Dv [] p) : PolyMath.beh p = [] := by
  obtain ⟨k, hk, e⟩ := h
  have : PolyMath.beh p = PolyMath.beh [] := beh_eq fun n => by
    rw [e, cf_out [] n (Nat.zero_le _)]
    exact xs_zero _ fun i _ => by rw [cf_out [] _ (Nat.zero_le _), gm_zero_right]
  exact this
theorem Dv.of_zero {d p : List Nat} (h : PolyMath.beh p = []) : Dv d p := (Dv.zero d).congr fun k => by
  rw [← cf_beh p k, h]
/-- Scaled to have 1 for its highest factor. -/
theorem Dv.scale {d g : List Nat} (hd : By d) (hg : By g) (hc : Can g) (h0 : 0 < g.length) : By (pm [iv (sq g 0)] g) ∧ Can (pm [iv (sq g 0)] g) ∧ (pm [iv (sq g 0)] g).length = g.length ∧ sq (pm [iv (sq g 0)] g) 0 = 1 ∧ (Dv d (pm [iv (sq g 0)] g) ↔ Dv d g) := by
  have hg0 := hc h0
  have hi := iv_lt (sq g 0)
  have hi0 : iv (sq g 0) ≠ 0 := fun e => by
    have := gm_iv (hg.sq 0) hg0
    rw [e, gm_zero_right] at this
    exact absurd this (by omega)
  have hbi := by_c hi
  refine ⟨pm_by hbi hg, pm_can hbi hg (fun _ => by simpa [sq] using hi0) hc, by rw [pm_length _ _ (by simp) h0]; simp, ?_, fun h => ?_, fun h => Dv.mul hd hg hbi h⟩
  · unfold pm
    rw [if_neg (by simp only [List.length_singleton]; omega), sq_tab, if_pos (by simp only [List.length_singleton]; omega), cvk_full _ _ _ _ fun i hi => sq_out _ i hi, cv, xs, xs, Nat.zero_xor]
    exact iv_gm (hg.sq 0) hg0
  · have h1 := Dv.mul hd (pm_by hbi hg) (by_c (hg.sq 0)) h
    refine h1.congr fun k => ?_
    rw [pm_cf, cv_const, pm_cf, cv_const, ← gm_assoc (hg.sq 0) hi (hg.cf k), gm_iv (hg.sq 0) hg0, gm_one_left (hg.cf k)]

end PolyMath

/- What is fitted. No program. -/
namespace PolyMath
open GfMath
set_option linter.unusedVariables false

/-- The partial values of Horner's rule: the quotient by x - r, and the rest. -/
def hq (l : List Nat) (r : Nat) : List Nat := (l.foldl (fun s b => (s.1 ++ [s.2], gm s.2 r ^^^ b)) (([] : List Nat), 0)).1
theorem horner (l : List Nat) (r : Nat) : l.foldl (fun s b => (s.1 ++ [s.2], gm s.2 r ^^^ b)) (([] : List Nat), 0) = (hq l r, ev l r) := by
  refine snocs (P := fun l => l.foldl (fun s b => (s.1 ++ [s.2], gm s.2 r ^^^ b)) (([] : List Nat), 0) = (hq l r, ev l r)) rfl (fun l a ih => ?_) l
  unfold hq
  rw [List.foldl_append, ih, ev_snoc]
  rfl
theorem hq_snoc (l : List Nat) (a r : Nat) : hq (l ++ [a]) r = hq l r ++ [ev l r] := by
  conv => lhs; unfold hq
  rw [List.foldl_append, horner]
  rfl
theorem hq_length (l : List Nat) (r : Nat) : (hq l r).length = l.length := by
  refine snocs (P := fun l => (hq l r).length = l.length) rfl (fun l a ih => ?_) l
  rw [hq_snoc, List.length_append, List.length_append, ih]; rfl
theorem hq_by {l : List Nat} {r : Nat} (hl : By l) (hr : r < 256) : By (hq l r) := by
  revert hl
  refine snocs (P := fun l => By l → By (hq l r)) (fun _ => by_nil) (fun l a ih h => ?_) l
  have hl : By l := fun y hy => h y (by simp [hy])
  rw [hq_snoc]
  intro x hx
  rcases List.mem_append.1 hx with h1 | h1
  · exact ih hl x h1
  · simp only [List.mem_singleton] at h1; rw [h1]; exact ev_lt hl hr
theorem ev_hq {l : List Nat} {r y : Nat} (hl : By l) (hr : r < 256) (hy : y < 256) : ev l y = gm (y ^^^ r) (ev (hq l r) y) ^^^ ev l r := by
  revert hl
  refine snocs (P := fun l => By l → ev l y = gm (y ^^^ r) (ev (hq l r) y) ^^^ ev l r) (fun _ => ?_) (fun l a ih h => ?_) l
  · show 0 = gm (y ^^^ r) 0 ^^^ 0
    rw [gm_zero_right]; rfl
  · have hl : By l := fun z hz => h z (by simp [hz])
    have h1 := ih hl
    have hQ := ev_lt (hq_by hl hr) hy
    have hE := ev_lt hl hr
    have hyr := xor_lt hy hr
    rw [ev_snoc, ev_snoc, hq_snoc, ev_snoc, h1]
    generalize ev (hq l r) y = Q at *
    generalize ev l r = E at *
    rw [gm_add_left, gm_assoc hyr hQ hy, gm_add_right (y ^^^ r), gm_add_left y r E, gm_comm hE hy, gm_comm hE hr, ← Nat.xor_assoc]
    congr 1
    generalize gm (y ^^^ r) (gm Q y) = A
    generalize gm y E = B
    generalize gm r E = C
    rw [Nat.xor_assoc A, Nat.xor_assoc B, Nat.xor_self, Nat.xor_zero]
theorem hq_head (l : List Nat) (r : Nat) : l = [] ∨ ∃ t, hq l r = 0 :: t := by
  refine snocs (P := fun l => l = [] ∨ ∃ t, hq l r = 0 :: t) (Or.inl rfl) (fun l a ih => Or.inr ?_) l
  rw [hq_snoc]
  rcases ih with rfl | ⟨t, ht⟩
  · exact ⟨[], rfl⟩
  · exact ⟨t ++ [ev l r], by rw [ht]; rfl⟩
theorem ev_zero_cons (t : List Nat) (y : Nat) : ev (0 :: t) y = ev t y := by
  show t.foldl _ (gm 0 y ^^^ 0) = t.foldl _ 0
  rw [gm_zero_left]; rfl
theorem ev_rep (k y : Nat) : ev (List.replicate k 0) y = 0 := by
  induction k with
  | zero => rfl
  | succ k ih => rw [List.replicate_succ, ev_zero_cons, ih]
theorem hq_zero (r : Nat) (l : List Nat) : (∀ b ∈ hq l r, b = 0) → l = [] ∨ ∃ k c, l = List.replicate k 0 ++ [c] := by
  refine snocs (P := fun l => (∀ b ∈ hq l r, b = 0) → l = [] ∨ ∃ k c, l = List.replicate k 0 ++ [c]) (fun _ => Or.inl rfl) (fun l a ih h => Or.inr ?_) l
  rw [hq_snoc] at h
  have h1 := ih fun b hb => h b (List.mem_append_left _ hb)
  have h2 := h (ev l r) (by simp)
  rcases h1 with rfl | ⟨k, c, rfl⟩
  · exact ⟨0, a, rfl⟩
  · rw [ev_snoc, ev_rep, gm_zero_left, Nat.zero_xor] at h2
    exact ⟨k + 1, a, by rw [h2, List.replicate_succ']⟩
/-- What has more roots than powers is 0. -/
theorem roots_zero : ∀ (n : Nat) (l xs : List Nat), By l → By xs → l.length ≤ n → xs.length = n → xs.Nodup → (∀ x ∈ xs, ev l x = 0) → ∀ b ∈ l, b = 0
  | 0, l, xs, _, _, hl, _, _, _ => by
    have : l = [] := List.eq_nil_of_length_eq_zero (by omega)
    subst this
    intro b hb; cases hb
  | n + 1, l, xs, hl8, hx8, hl, hn, hnd, h0 => by
    cases xs with
    | nil => simp at hn
    | cons r ys =>
      have hr := hx8 r (by simp)
      have hy8 : By ys := fun y hy => hx8 y (by simp [hy])
      rw [List.nodup_cons] at hnd
      rcases hq_head l r with rfl | ⟨t, ht⟩
      · intro b hb; cases hb
      · have hQ8 := hq_by hl8 hr
        have hQl := hq_length l r
        rw [ht] at hQ8 hQl
        have ht8 : By t := fun y hy => hQ8 y (by simp [hy])
        have hroot := h0 r (by simp)
        have hz : ∀ y ∈ ys, ev t y = 0 := fun y hy => by
          have hy256 := hy8 y hy
          have h1 := ev_hq hl8 hr hy256
          rw [h0 y (by simp [hy]), hroot, Nat.xor_zero, ht, ev_zero_cons] at h1
          have hne : y ^^^ r ≠ 0 := xor_ne fun e => hnd.1 (by rw [← e]; exact hy)
          exact (gm_eq_zero (xor_lt hy256 hr) (ev_lt ht8 hy256) h1.symm).resolve_left hne
        have hall := roots_zero n t ys ht8 hy8 (by simp at hQl; omega) (by simpa using hn) hnd.2 hz
        have hq0 : ∀ b ∈ hq l r, b = 0 := fun b hb => by
          rw [ht] at hb
          rcases List.mem_cons.1 hb with h | h
          · exact h
          · exact hall b h
        rcases hq_zero r l hq0 with rfl | ⟨k, c, rfl⟩
        · intro b hb; cases hb
        · rw [ev_snoc, ev_rep, gm_zero_left, Nat.zero_xor] at hroot
          intro b hb
          rcases List.mem_append.1 hb with h | h
          · exact (List.mem_replicate.1 h).2
          · simp only [List.mem_singleton] at h
            rw [h, hroot]

theorem ct_pos (l : List Nat) (x : Nat) : x ∈ l → 0 < ct l x := by
  refine snocs (P := fun l => x ∈ l → 0 < ct l x) (fun h => by cases h) (fun l a ih h => ?_) l
  rw [ct_snoc]
  rcases List.mem_append.1 h with h | h
  · have := ih h; split <;> omega
  · simp only [List.mem_singleton] at h; rw [if_pos h.symm]; omega
theorem ct_mem (l : List Nat) (x : Nat) : 0 < ct l x → x ∈ l := by
  refine snocs (P := fun l => 0 < ct l x → x ∈ l) (fun h => by simp [ct] at h) (fun l a ih h => ?_) l
  rw [ct_snoc] at h
  split at h
  · rename_i e; simp [e]
  · exact List.mem_append_left _ (ih h)
/-- Newton's steps: what is fitted to the first k values. -/
def fitN (xs ys : List Nat) : Nat → List Nat
  | 0 => []
  | k + 1 => addl [fitN xs ys k, pms [[gm (sq ys k ^^^ ev (fitN xs ys k) (sq xs k)) (iv (ev (rt (xs.take k)) (sq xs k)))], rt (xs.take k)]]
theorem fitN_all {xs ys : List Nat} (hx : By xs) (hy : By ys) : ∀ k, k ≤ xs.length → By (fitN xs ys k) ∧ Can (fitN xs ys k) ∧ (fitN xs ys k).length ≤ k
  | 0, _ => ⟨by_nil, fun h => absurd h (by simp [fitN]), Nat.zero_le _⟩
  | k + 1, hk => by
    obtain ⟨h1, h2, h3⟩ := fitN_all hx hy k (by omega)
    have hxt : By (xs.take k) := fun x h => hx x (List.mem_of_mem_take h)
    obtain ⟨r1, r2, r3⟩ := rt_all (xs.take k) hxt
    have hc : gm (sq ys k ^^^ ev (fitN xs ys k) (sq xs k)) (iv (ev (rt (xs.take k)) (sq xs k))) < 256 := gm_lt (xor_lt (hy.sq k) (ev_lt h1 (hx.sq k))) (iv_lt _)
    rw [fitN]
    generalize gm (sq ys k ^^^ ev (fitN xs ys k) (sq xs k)) (iv (ev (rt (xs.take k)) (sq xs k))) = c at hc ⊢
    have hp : ∀ l ∈ [[c], rt (xs.take k)], By l := by intro l hl; simp at hl; rcases hl with rfl | rfl; exact by_one hc; exact r1
    have hpm := (pms_all [[c], rt (xs.take k)] hp).1
    have h8 : ∀ l ∈ [fitN xs ys k, pms [[c], rt (xs.take k)]], By l := by intro l hl; simp at hl; rcases hl with rfl | rfl <;> assumption
    refine ⟨addl_by _ h8, addl_can _, ?_⟩
    have hl := addl_le [fitN xs ys k, pms [[c], rt (xs.take k)]]
    have hm : mx [fitN xs ys k, pms [[c], rt (xs.take k)]] = max (fitN xs ys k).length (pms [[c], rt (xs.take k)]).length := by simp [mx]
    have hpl : (pms [[c], rt (xs.take k)]).length ≤ k + 1 := by
      show (pm (pm [1] (beh [c])) (beh (rt (xs.take k)))).length ≤ k + 1
      rw [r3.beh]
      rw [List.length_take] at r2
      by_cases h0 : (pm [1] (beh [c])).length = 0
      · rw [List.eq_nil_of_length_eq_zero h0, pm_nil_left]; simp
      · have hb1 := beh_le [c]
        have hb2 : (pm [1] (beh [c])).length ≤ 1 := by
          by_cases h5 : (beh [c]).length = 0
          · rw [List.eq_nil_of_length_eq_zero h5, pm_nil_right]; simp
          · rw [pm_length _ _ (by simp) (by omega)]; simp at hb1 ⊢; omega
        rw [pm_length _ _ (by omega) (by omega)]
        omega
    omega
/-- It has the values at the places, as long as none stands there twice. -/
theorem fitN_ev {xs ys : List Nat} (hx : By xs) (hy : By ys) : ∀ k, k ≤ xs.length → (∀ j, j < k → ev (rt (xs.take j)) (sq xs j) ≠ 0) → ∀ j, j < k → ev (fitN xs ys k) (sq xs j) = sq ys j
  | 0, _, _, j, hj => absurd hj (by omega)
  | k + 1, hk, hne, j, hj => by
    obtain ⟨h1, h2, h3⟩ := fitN_all hx hy k (by omega)
    have hxt : By (xs.take k) := fun x h => hx x (List.mem_of_mem_take h)
    obtain ⟨r1, r2, r3⟩ := rt_all (xs.take k) hxt
    have hxj := hx.sq j
    have hc : gm (sq ys k ^^^ ev (fitN xs ys k) (sq xs k)) (iv (ev (rt (xs.take k)) (sq xs k))) < 256 := gm_lt (xor_lt (hy.sq k) (ev_lt h1 (hx.sq k))) (iv_lt _)
    have hev1 : ∀ c x, c < 256 → x < 256 → ev [c] x = c := fun c x _ _ => by show gm 0 x ^^^ c = c; rw [gm_zero_left, Nat.zero_xor]
    have hp : ∀ c, c < 256 → By (pms [[c], rt (xs.take k)]) := fun c hc => (pms_all _ (by intro l hl; simp at hl; rcases hl with rfl | rfl; exact by_one hc; exact r1)).1
    rw [fitN, ev_addl2 h1 (hp _ hc) hxj, ev_pms2 (by_one hc) r1 hxj, hev1 _ _ hc hxj]
    by_cases e : j = k
    · subst e
      have hE := ev_lt r1 hxj
      have hn := hne j (by omega)
      have hd := xor_lt (hy.sq j) (ev_lt h1 hxj)
      rw [gm_assoc hd (iv_lt _) hE, iv_gm hE hn, gm_one hd, Nat.xor_comm (sq ys j), ← Nat.xor_assoc, Nat.xor_self, Nat.zero_xor]
    · rw [fitN_ev hx hy k (by omega) (fun i hi => hne i (by omega)) j (by omega)]
      have hz : ev (rt (xs.take k)) (sq xs j) = 0 := by
        refine ((rt_roots (xs.take k) hxt hxj).1).2 ?_
        have hjl : j < xs.length := by omega
        have hmem : sq xs j ∈ xs.take k := by
          rw [sq_get xs j hjl]
          exact List.mem_iff_getElem.2 ⟨j, by simp; omega, by simp⟩
        exact ct_pos _ _ hmem
      rw [hz, gm_zero_right, Nat.xor_zero]
end PolyMath

/- Codewords lie far apart: a word with few bytes that aren't 0 is no codeword, unless it is 0; what Parity answers makes a codeword. No program. -/
namespace RsMath
open GfMath PolyMath
set_option linter.unusedVariables false

/-- The places where words are 0. -/
def exs (p : Nat) : List Nat := tab p ex
theorem exs_length (p : Nat) : (exs p).length = p := tab_length _ _
theorem exs_by (p : Nat) : By (exs p) := tab_by _ fun n _ => ex_lt n

/-- Is all 0? -/
def allz (l : List Nat) : Bool := decide (zs l = l.length)
theorem allz_iff (l : List Nat) : allz l = true ↔ ∀ j, j < l.length → sq l j = 0 := by
  unfold allz
  rw [decide_eq_true_iff]
  exact ⟨fun h j hj => zs_zero l j (by omega), fun h => zs_all l h⟩
/-- A word's values. -/
def vals (l : List Nat) (p : Nat) : List Nat := tab p fun i => ev l (ex i)
theorem vals_length (l : List Nat) (p : Nat) : (vals l p).length = p := tab_length _ _
/-- The parity of data. -/
def rem (X : List Nat) (p : Nat) : List Nat := dr (shl X p) (rt (exs p))
def parity (X : List Nat) (p : Nat) : List Nat := List.replicate (p - (rem X p).length) 0 ++ rem X p
theorem beh_rt (p : Nat) : (beh (rt (exs p))).length = p + 1 := by
  obtain ⟨h1, h2, h3⟩ := rt_all (exs p) (exs_by p)
  rw [h3.beh, h2, exs_length]
theorem rem_le (X : List Nat) (hX : By X) (p : Nat) : (rem X p).length ≤ p := by
  have h := (div_spec (shl_by hX p) (rt_all (exs p) (exs_by p)).1 (by rw [beh_rt]; omega)).2.2.2.2.1
  rw [beh_rt] at h
  unfold rem
  omega
theorem rem_by (X : List Nat) (hX : By X) (p : Nat) : By (rem X p) := (div_spec (shl_by hX p) (rt_all (exs p) (exs_by p)).1 (by rw [beh_rt]; omega)).2.2.1
theorem parity_length (X : List Nat) (hX : By X) (p : Nat) : (parity X p).length = p := by
  have := rem_le X hX p
  rw [parity, List.length_append, List.length_replicate]
  omega
theorem parity_by (X : List Nat) (hX : By X) (p : Nat) : By (parity X p) := by
  intro x hx
  rcases List.mem_append.1 hx with h | h
  · rw [(List.mem_replicate.1 h).2]; omega
  · exact rem_by X hX p x h

/-- Data and its parity. -/
def code (X : List Nat) (p : Nat) : List Nat := X ++ parity X p
theorem code_length (X : List Nat) (hX : By X) (p : Nat) : (code X p).length = X.length + p := by rw [code, List.length_append, parity_length X hX]
theorem code_by (X : List Nat) (hX : By X) (p : Nat) : By (code X p) := by
  intro x hx
  rcases List.mem_append.1 hx with h | h
  · exact hX x h
  · exact parity_by X hX p x h
theorem xs_swap (f : Nat → Nat → Nat) (n : Nat) : ∀ m, xs (fun i => xs (f i) n) m = xs (fun j => xs (fun i => f i j) m) n
  | 0 => by rw [show xs (fun i => xs (f i) n) 0 = 0 from rfl]; exact (xs_zero n fun _ _ => rfl).symm
  | m + 1 => by
    show xs (fun i => xs (f i) n) m ^^^ xs (f m) n = _
    rw [xs_swap f n m, ← xs_xor]
    rfl

/-- The value at the i-th power of 2, place by place: place j stands for the power (n - 1 - j). -/
theorem ev_places {l : List Nat} (hl : By l) (i : Nat) : ev l (ex i) = xs (fun j => gm (sq l j) (ex (i * (l.length - 1 - j)))) l.length := by
  rw [ev_E (ex_lt i) hl, E, xs_rev]
  refine xs_congr _ fun j hj => ?_
  rw [cf_in l _ (by omega), pw_ex, show l.length - 1 - (l.length - 1 - j) = j by omega]

/-- The places that aren't 0. -/
def supp (l : List Nat) : List Nat := (List.range l.length).filter fun j => sq l j ≠ 0
theorem supp_mem (l : List Nat) (j : Nat) : j ∈ supp l ↔ j < l.length ∧ sq l j ≠ 0 := by simp [supp]
theorem supp_nodup (l : List Nat) : (supp l).Nodup := List.Pairwise.filter _ List.nodup_range
def loc (l : List Nat) (j : Nat) : Nat := ex (l.length - 1 - j)

/-- A word of at most 255 bytes, of which at most p aren't 0, that is 0 at the first p powers, is 0. -/
theorem far_zero {l : List Nat} {p : Nat} (hl : By l) (hn : l.length ≤ 255) (hs : (supp l).length ≤ p) (h0 : ∀ i, i < p → ev l (ex i) = 0) : supp l = [] := by
  match hq : supp l with
  | [] => rfl
  | j0 :: r =>
    exfalso
    have hj0 : j0 < l.length ∧ sq l j0 ≠ 0 := (supp_mem l j0).1 (by rw [hq]; simp)
    have hnd := supp_nodup l
    rw [hq, List.nodup_cons] at hnd
    have hr : ∀ j ∈ r, j < l.length ∧ sq l j ≠ 0 := fun j hj => (supp_mem l j).1 (by rw [hq]; simp [hj])
    obtain ⟨L, hL⟩ : ∃ L, L = rt (r.map (loc l)) := ⟨_, rfl⟩
    have hby : By (r.map (loc l)) := by intro x hx; obtain ⟨j, _, rfl⟩ := List.mem_map.1 hx; exact ex_lt _
    obtain ⟨hL8, hLl, _⟩ := rt_all _ hby
    rw [← hL] at hL8 hLl
    rw [List.length_map] at hLl
    have hLp : L.length ≤ p := by rw [hLl]; rw [hq] at hs; simpa using hs
    -- the sum over i of L's factors times the values
    have hsum : xs (fun i => gm (cf L i) (ev l (ex i))) L.length = 0 := xs_zero _ fun i hi => by rw [h0 i (by omega), gm_zero_right]
    have hsum2 : xs (fun i => gm (cf L i) (ev l (ex i))) L.length = xs (fun j => gm (sq l j) (ev L (loc l j))) l.length := by
      rw [show (fun i => gm (cf L i) (ev l (ex i))) = fun i => xs (fun j => gm (cf L i) (gm (sq l j) (ex (i * (l.length - 1 - j))))) l.length from funext fun i => by rw [ev_places hl, xs_gm], xs_swap]
      refine xs_congr _ fun j hj => ?_
      have hlx : loc l j < 256 := ex_lt _
      rw [ev_E hlx hL8, E, xs_gm]
      refine xs_congr _ fun i hi => ?_
      have e : pw (loc l j) i = ex (i * (l.length - 1 - j)) := by rw [loc, pw_ex, Nat.mul_comm]
      rw [e, ← gm_assoc (hL8.cf i) (hl.sq j) (ex_lt _), gm_comm (hL8.cf i) (hl.sq j), gm_assoc (hl.sq j) (hL8.cf i) (ex_lt _)]
    rw [hsum2] at hsum
    -- of the sum over places only j0 is left
    have hone : xs (fun j => gm (sq l j) (ev L (loc l j))) l.length = gm (sq l j0) (ev L (loc l j0)) := by
      rw [show l.length = j0 + (1 + (l.length - j0 - 1)) by omega, xs_split]
      have hz : ∀ j, j < l.length → j ≠ j0 → gm (sq l j) (ev L (loc l j)) = 0 := fun j hj hne => by
        by_cases h : sq l j = 0
        · rw [h, gm_zero_left]
        · have hm : j ∈ r := by
            have := (supp_mem l j).2 ⟨hj, h⟩
            rw [hq] at this
            rcases List.mem_cons.1 this with e | e
            · exact absurd e hne
            · exact e
          have hm2 : loc l j ∈ r.map (loc l) := List.mem_map.2 ⟨j, hm, rfl⟩
          have hct : 0 < ct (r.map (loc l)) (loc l j) := ct_pos _ _ hm2
          have hlx : loc l j < 256 := ex_lt _
          rw [hL, (rt_roots _ hby hlx).1.2 hct, gm_zero_right]
      rw [xs_zero j0 fun j hj => hz j (by omega) (by omega), Nat.zero_xor, xs_split]
      rw [xs_zero (l.length - j0 - 1) fun j hj => hz (j0 + (1 + j)) (by omega) (by omega), Nat.xor_zero]
      show 0 ^^^ _ = _
      rw [Nat.zero_xor]
      rfl
    rw [hone] at hsum
    rcases gm_eq_zero (hl.sq j0) (ev_lt hL8 (ex_lt _)) hsum with h | h
    · exact hj0.2 h
    · rw [hL] at h
      have hct := (rt_roots _ hby (ex_lt _)).1.1 h
      obtain ⟨j, hj, e⟩ := List.mem_map.1 (ct_mem _ _ hct)
      have h1 := (hr j hj).1
      have h2 := ex_inj (by omega) (by omega) e
      have h3 : j = j0 := by omega
      exact hnd.1 (h3 ▸ hj)

theorem ev_append {l : List Nat} {x : Nat} (hl : By l) (hx : x < 256) (m : List Nat) (hm : By m) : ev (l ++ m) x = gm (ev l x) (pw x m.length) ^^^ ev m x := by
  revert hm
  refine snocs (P := fun m => By m → ev (l ++ m) x = gm (ev l x) (pw x m.length) ^^^ ev m x) (fun _ => ?_) (fun m a ih h => ?_) m
  · rw [List.append_nil]
    show _ = gm (ev l x) 1 ^^^ 0
    rw [gm_one (ev_lt hl hx), Nat.xor_zero]
  · have hm : By m := fun y hy => h y (by simp [hy])
    rw [← List.append_assoc, ev_snoc, ih hm, ev_snoc, List.length_append, List.length_singleton, gm_add_left, gm_assoc (ev_lt hl hx) (pw_lt hx _) hx, Nat.xor_assoc]
    rfl
theorem ev_front (n : Nat) {l : List Nat} {x : Nat} (hl : By l) (hx : x < 256) : ev (List.replicate n 0 ++ l) x = ev l x := by
  have h0 : By (List.replicate n 0) := fun y hy => by rw [(List.mem_replicate.1 hy).2]; omega
  have h1 : ev (List.replicate n 0) x = 0 := by
    have := ev_zeros (l := []) by_nil hx n
    rw [List.nil_append] at this
    rw [this]
    exact gm_zero_left _
  rw [ev_append h0 hx l hl, h1, gm_zero_left, Nat.zero_xor]
theorem ev_gen {p i : Nat} (hi : i < p) : ev (rt (exs p)) (ex i) = 0 := by
  refine (rt_roots _ (exs_by p) (ex_lt i)).1.2 (ct_pos _ _ ?_)
  exact List.mem_map.2 ⟨i, List.mem_range.2 hi, rfl⟩
/-- Data and its parity are 0 at the first p powers. -/
theorem code_zero {X : List Nat} (hX : By X) {p i : Nat} (hi : i < p) : ev (code X p) (ex i) = 0 := by
  have hG := (rt_all (exs p) (exs_by p)).1
  obtain ⟨hq, _, hr, _, _, _, hc⟩ := div_spec (shl_by hX p) hG (by rw [beh_rt]; omega)
  have hx := ex_lt i
  have h1 : ev (shl X p) (ex i) = ev (rem X p) (ex i) := by
    have hpm : By (pm (dq (shl X p) (rt (exs p))) (rt (exs p))) := pm_by hq hG
    rw [ev_cf hx (shl_by hX p) (ad_by hpm hr) (fun k => by rw [hc k, ad_cf, cf_pm]), ad, ev_addl2 hpm hr hx, ev_pm hq hG hx, ev_gen hi, gm_zero_right, Nat.zero_xor]
    rfl
  rw [ev_shl hX hx] at h1
  rw [code, ev_append hX hx _ (parity_by X hX p), parity_length X hX, h1, parity, ev_front _ (rem_by X hX p) hx, Nat.xor_self]
theorem code_right {X : List Nat} (hX : By X) (p : Nat) : allz (vals (code X p) p) = true := by
  rw [allz_iff]
  intro j hj
  rw [vals_length] at hj
  rw [vals, sq_tab, if_pos hj]
  exact code_zero hX hj
theorem allz_zero {l : List Nat} {p : Nat} : allz (vals l p) = true ↔ ∀ i, i < p → ev l (ex i) = 0 := by
  rw [allz_iff, vals_length]
  constructor
  · intro h i hi
    have := h i hi
    rwa [vals, sq_tab, if_pos hi] at this
  · intro h i hi
    rw [vals, sq_tab, if_pos hi]
    exact h i hi
/-- Two words of one length, place by place. -/
def xl (a b : List Nat) : List Nat := tab a.length fun j => sq a j ^^^ sq b j
theorem xl_length (a b : List Nat) : (xl a b).length = a.length := tab_length _ _
theorem xl_by {a b : List Nat} (ha : By a) (hb : By b) : By (xl a b) := tab_by _ fun n _ => xor_lt (ha.sq n) (hb.sq n)
theorem ev_xl {a b : List Nat} (ha : By a) (hb : By b) (hl : a.length = b.length) (i : Nat) : ev (xl a b) (ex i) = ev a (ex i) ^^^ ev b (ex i) := by
  rw [ev_places (xl_by ha hb), ev_places ha, ev_places hb, xl_length, ← hl, ← xs_xor]
  refine xs_congr _ fun j hj => ?_
  rw [xl, sq_tab, if_pos hj, gm_add_left]
theorem supp_nil {l : List Nat} (h : supp l = []) (j : Nat) : sq l j = 0 := by
  by_cases hj : j < l.length
  · by_cases h0 : sq l j = 0
    · exact h0
    · have := (supp_mem l j).2 ⟨hj, h0⟩
      rw [h] at this
      cases this
  · exact sq_out l j (by omega)
/-- Two codewords that differ in at most p places are one. -/
theorem far_two {a b : List Nat} {p : Nat} (ha : By a) (hb : By b) (hl : a.length = b.length) (hn : a.length ≤ 255) (hs : (supp (xl a b)).length ≤ p) (h0 : ∀ i, i < p → ev a (ex i) = 0) (h1 : ∀ i, i < p → ev b (ex i) = 0) : a = b := by
  have h := far_zero (xl_by ha hb) (by rw [xl_length]; exact hn) hs fun i hi => by rw [ev_xl ha hb hl, h0 i hi, h1 i hi]; rfl
  refine list_eq hl fun n hn => ?_
  have := supp_nil h n
  rw [xl, sq_tab, if_pos hn] at this
  by_cases e : sq a n = sq b n
  · exact e
  · exact absurd this (xor_ne e)

end RsMath

/- Contracts of rs: what a code is, none, Size, Over. -/
namespace Go.Proofs.Ytkcnmiaedcenoaa
open Go.RowKit GfMath PolyMath RsMath
set_option linter.unusedVariables false

def codeL (b n k : Nat) (v : Value) : List Value := [.pointer (some ⟨b, 0, none⟩), .int .i64 (n : Int), .int .i64 (k : Int), v]
/-- A code that is being made: it has its field and its sizes. -/
def Cor (w : World) (c b k p : Nat) (v : Value) : Prop := Row w c 41 (codeL b (k + p) k v) ∧ Fld w b
theorem Cor.step {w w' : World} {c b k p : Nat} {v : Value} (h : Cor w c b k p v) (hb : Below w.heap.size w w') : Cor w' c b k p v := ⟨h.1.step hb, h.2.step hb⟩
theorem Cor.c0 {w : World} {c b k p : Nat} {v : Value} (h : Cor w c b k p v) : w.cell? ⟨c, 0, none⟩ = some (.pointer (some ⟨b, 0, none⟩)) := by rw [h.1.cell]; rfl
theorem Cor.c1 {w : World} {c b k p : Nat} {v : Value} (h : Cor w c b k p v) : w.cell? ⟨c, 1, none⟩ = some (.int .i64 ((k + p : Nat) : Int)) := by rw [h.1.cell]; rfl
theorem Cor.c2 {w : World} {c b k p : Nat} {v : Value} (h : Cor w c b k p v) : w.cell? ⟨c, 2, none⟩ = some (.int .i64 (k : Int)) := by rw [h.1.cell]; rfl
theorem Cor.c3 {w : World} {c b k p : Nat} {v : Value} (h : Cor w c b k p v) : w.cell? ⟨c, 3, none⟩ = some v := by rw [h.1.cell]; rfl
theorem Cor.lt {w : World} {c b k p : Nat} {v : Value} (h : Cor w c b k p v) : c < w.heap.size := h.1.lt

/-- A code that New made. -/
structure Cod (w : World) (c b k p : Nat) : Prop where
  k1 : 1 ≤ k
  p1 : 1 ≤ p
  n255 : k + p ≤ 255
  p64 : p ≤ 64
  cor : ∃ a cap, Cor w c b k p (.slice a (p + 1) cap) ∧ p + 1 ≤ cap ∧ Lies w w.heap.size a (u8s (rt (exs p)))
theorem Cod.step {w w' : World} {c b k p : Nat} (h : Cod w c b k p) (hb : Below w.heap.size w w') : Cod w' c b k p := by
  obtain ⟨a, cap, h1, h2, h3⟩ := h.cor
  exact ⟨h.k1, h.p1, h.n255, h.p64, a, cap, h1.step hb, h2, h3.step hb⟩
theorem Cod.lt {w : World} {c b k p : Nat} (h : Cod w c b k p) : c < w.heap.size := by
  obtain ⟨a, cap, h1, _⟩ := h.cor
  exact h1.lt

theorem rs_none_nil (w : World) : Calls Try.prog 41 #[.pointer none] w fun e w' => e = .returned (.bool true) ∧ w = w' := by
  go_enter Try.func41, Try.ntmps41
  go_wp2
  go_ret
  exact ⟨rfl, rfl⟩
theorem rs_none_any (c b k p : Nat) (v : Value) (w : World) (h : Cor w c b k p v) : Calls Try.prog 41 #[.pointer (some ⟨c, 0, none⟩)] w fun e w' => e = .returned (.bool false) ∧ w = w' := by
  have h0 := h.c0
  clear h
  go_enter Try.func41, Try.ntmps41
  go_wp2
  go_ret
  exact ⟨rfl, rfl⟩
theorem rs_size_nil (w : World) : Calls Try.prog 26 #[.pointer none] w fun e w' => e = .returned (.tuple #[.int .i64 0, .int .i64 0]) ∧ w = w' := by
  have HN := Lib.hid (rs_none_nil w)
  go_enter Try.func26, Try.ntmps26
  go_wp2_with (go_at_call 41; (with_reducible refine HN.out.mono ?_); rintro e w1 ⟨rfl, rfl⟩)
  go_ret2
  exact ⟨rfl, rfl⟩
theorem rs_size_any (c b k p : Nat) (v : Value) (w : World) (h : Cor w c b k p v) : Calls Try.prog 26 #[.pointer (some ⟨c, 0, none⟩)] w fun e w' => e = .returned (.tuple #[.int .i64 ((k + p : Nat) : Int), .int .i64 (k : Int)]) ∧ Below w.heap.size w w' := by
  have HN := Lib.hid (rs_none_any c b k p v w h)
  have h1 := h.c1
  have h2 := h.c2
  obtain ⟨n, hn⟩ : ∃ n, k + p = n := ⟨_, rfl⟩
  rw [hn] at h1 ⊢
  clear h hn
  go_enter Try.func26, Try.ntmps26
  go_wp2_with (go_at_call 41; (with_reducible refine HN.out.mono ?_); rintro e w1 ⟨rfl, rfl⟩)
  go_quiet (fail)
  go_wp2
  go_ret2
  exact ⟨rfl, (Below.refl _ _).drewN _⟩
theorem rs_over_nil (w : World) : Calls Try.prog 27 #[.pointer none] w fun e w' => e = .returned (.pointer none) ∧ w = w' := by
  have HN := Lib.hid (rs_none_nil w)
  go_enter Try.func27, Try.ntmps27
  go_wp2_with (go_at_call 41; (with_reducible refine HN.out.mono ?_); rintro e w1 ⟨rfl, rfl⟩)
  go_ret
  exact ⟨rfl, rfl⟩

theorem at_id (x : Nat) (w : World) : Calls Try.prog 14 #[.int .u8 (x : Int)] w fun e w' => e = .returned (.int .u8 (x : Int)) ∧ w = w' := by
  go_enter Try.func14, Try.ntmps14
  go_wp2
  go_ret
  exact ⟨rfl, rfl⟩

end Go.Proofs.Ytkcnmiaedcenoaa

/- The contract of rs's each, for both functions that it is handed. Generated by gen_rs_each.py. -/
namespace Go.Proofs.Ytkcnmiaedcenoaa
open Go.RowKit GfMath PolyMath RsMath
set_option linter.unusedVariables false

set_option maxRecDepth 100000 in
set_option maxHeartbeats 1000000 in
theorem rs_each_id (c b k p : Nat) (v : Value) (w : World) (h : Cor w c b k p v) (hn : k + p ≤ 255) :
    Calls Try.prog 13 #[.pointer (some ⟨c, 0, none⟩), .func (.func 14) #[] #[]] w fun e w' => (∃ g, e = .returned (.slice (some ⟨g, 0, none⟩) p p) ∧ w.heap.size ≤ g ∧ Row w' g 5 (u8s (tab p fun i => ex i))) ∧ Below w.heap.size w w' := by
  have h0 := h.c0
  have h1 := h.c1
  have h2 := h.c2
  have HLT : Hid (c < w.heap.size) := Lib.hid h.lt
  have HF := Lib.hid h.2
  obtain ⟨n, hnn⟩ : ∃ n, k + p = n := ⟨_, rfl⟩
  rw [hnn] at h1 hn
  have hsub : (n : Int) - (k : Int) = (p : Int) := by omega
  have hpb : (p : Int) ≤ 255 := by omega
  have hp0 : 0 ≤ (p : Int) := by omega
  have hpw : IntKind.i64.wrap (p : Int) = (p : Int) := by rw [IntKind.wrap_i64]; omega
  have hkb : (k : Int) ≤ 255 := by omega
  have hnb : (n : Int) ≤ 255 := by omega
  have HI8 : Hid ((Try.prog.info? 5).map (fun i => (i.zero, i.size, i.bytes)) = some (some (.int .u8 0), 1, 8) ∨ (Try.prog.info? 5).map (fun i => (i.zero, i.size, i.bytes)) = some (some (.int .u8 0), 1, 1)) := Lib.hid (Or.inr info_byte)
  have HLL : Hid (p ≤ p) := Lib.hid (Nat.le_refl _)
  have HLM0 : Hid (p ≤ 1099511627776) := Lib.hid (by omega)
  have HZC : Hid ((Value.int .u8 0).cells = #[.int .u8 0]) := Lib.hid rfl
  have H8 := Lib.hid info_byte1
  have HNN : Hid (k + p = n) := Lib.hid hnn
  clear h hnn
  go_enter Try.func13, Try.ntmps13
  go_wp2
  go_still_tail 9, (by kernel_rfl)
  change wpList _ _ _ _ _ w.drew
  have B0 : Hid (Below w.heap.size w w.drew) := Lib.hid (Below.refl _ _).drew
  have S0 : Hid (w.drew.heap.size = w.heap.size) := Lib.hid rfl
  generalize w.drew = wq at *
  go_wp2_with ((with_reducible refine wpMakeK 22 5 (.int .u8 0) p p Try.underlying22 HI8.out HZC.out HLL.out HLM0.out ?_ ?_); rfl; intro w1 r1 b1 s1; have R1 := Lib.hid r1; have B1 := Lib.hid b1; clear r1 b1 s1)
  obtain ⟨g, hg⟩ : ∃ g, wq.heap.size = g := ⟨_, rfl⟩
  rw [hg] at R1 ⊢
  have HB1 : Hid (Below w.heap.size w w1) := Lib.hid (B0.out.trans (by have := B1.out; rw [S0.out] at this; exact this))
  have HG : Hid (w.heap.size ≤ g) := Lib.hid (by rw [← hg, S0.out]; exact Nat.le_refl _)
  clear B0 B1 S0 hg
  go_loopw [19] (fun i wr => ∃ j : Nat, j ≤ p ∧ i = .int .i64 j ∧ Row wr g 5 (u8s (tab p fun i => if i < j then ex i else 0)) ∧ Below w.heap.size w wr) (fun i _ => p - (intOf i).toNat)
  case atStart => exact ⟨0, Nat.zero_le _, rfl, by have := R1.out; rw [← u8s_zero, tab_zero] at this; rw [tab_congr p (g := fun _ => 0) (fun i _ => if_neg (by omega))]; exact this, HB1.out⟩
  case round =>
    clear R1 HB1
    obtain ⟨j, hj, rfl, hrow, hbw⟩ := hrel
    by_cases hlt : j < p
    · have hj1 : (j : Int) < p := by omega
      have hj2 : 0 ≤ (j : Int) := by omega
      have c0 : wr.cell? ⟨c, 0, none⟩ = some (.pointer (some ⟨b, 0, none⟩)) := (hbw.cell (p := ⟨c, 0, none⟩) HLT.out).trans h0
      have HFR : Hid (Fld wr b) := Lib.hid (HF.out.step hbw)
      have HE0 := exp_any b (j : Int) wr (HFR.out)
      rw [exI_nat] at HE0
      have HE := Lib.hid HE0
      have he8 := ex_lt j
      obtain ⟨x, hx⟩ : ∃ x, ex j = x := ⟨_, rfl⟩
      have HX := Lib.hid hx
      rw [hx] at he8
      have HE1 : Hid (Calls Try.prog 23 #[.pointer (some ⟨b, 0, none⟩), .int .i64 (j : Int)] wr fun e w' => e = .returned (.int .u8 (x : Int)) ∧ Below wr.heap.size wr w') := Lib.hid (by have := HE.out; rw [hx] at this; exact this)
      have HR := Lib.hid hrow
      have HB := Lib.hid hbw
      have HGW : Hid (g < wr.heap.size) := Lib.hid hrow.lt
      have HLJ : Hid (j < (u8s (tab p fun i => if i < j then ex i else 0)).length) := Lib.hid (by rw [u8s_length, tab_length]; exact hlt)
      obtain ⟨y, hy⟩ : ∃ y, x = y := ⟨_, rfl⟩
      have HST : Hid ((u8s (tab p fun i => if i < j then ex i else 0)).set j (.int .u8 (y : Int)) = u8s (tab p fun i => if i < j + 1 then ex i else 0)) := Lib.hid (by
        rw [u8s_set, tab_set]
        congr 1
        refine tab_congr p fun i _ => ?_
        by_cases e : i = j
        · subst e
          rw [if_pos rfl, if_pos (by omega), ← hy, ← hx]
        · rw [if_neg e]
          by_cases h : i < j
          · rw [if_pos h, if_pos (by omega)]
          · rw [if_neg h, if_neg (by omega)])
      have HVC : Hid ((Value.int .u8 (y : Int)).cells = #[.int .u8 (y : Int)]) := Lib.hid rfl
      have HVO : Hid ((Value.int .u8 (y : Int)).oneCell' = true) := Lib.hid rfl
      have HID : Hid (∀ u : World, Calls Try.prog 14 #[.int .u8 (x : Int)] u fun e w' => e = .returned (.int .u8 (y : Int)) ∧ Below u.heap.size u w') := Lib.hid fun u => by rw [← hy]; exact (at_id x u).mono fun e w' h => ⟨h.1, by rw [← h.2]; exact Below.refl _ _⟩
      clear HE0 HE hx hrow hbw hy he8
      go_wp2_with (first
        | (go_at_call 23; (with_reducible refine HE1.out.mono ?_); rintro e u1 ⟨rfl, b1⟩; have U1 := Lib.hid (HB.out.next b1); have RU1 := Lib.hid (HR.out.step b1); have V1 := Lib.hid b1; clear b1)
        | (go_at_call 14; (with_reducible refine (HID.out u1).mono ?_); rintro e u2 ⟨rfl, b2⟩; have U2 := Lib.hid (U1.out.next b2); have RU2 := Lib.hid (RU1.out.step b2); clear b2)
        | ((with_reducible refine RU2.out.wpStore1K j 5 (.int .u8 (y : Int)) H8.out HLJ.out HVC.out HVO.out ?_ ?_); rfl; intro u3 r3 o3 s3; have R3 := Lib.hid r3; have O3 := Lib.hid o3; clear r3 o3 s3))
      go_roundw
      case rel => exact ⟨j + 1, by omega, by go_num, by have h := R3.out; rw [HST.out] at h; exact h, U2.out.trans (O3.out.below HG.out U2.out.size)⟩
      case measure => first | (simp [intOf]; done) | (simp [intOf]; omega)
    · have ej : j = p := by omega
      have HR : Hid (Row wr g 5 (u8s (tab p fun i => ex i))) := Lib.hid (by
        rw [ej] at hrow
        rw [← tab_congr p (f := fun i => if i < p then ex i else 0) (fun i hi => if_pos hi)]
        exact hrow)
      have HB := Lib.hid hbw
      clear hrow hbw ej
      go_wp2
      go_ret
      exact ⟨⟨_, rfl, HG.out, HR.out⟩, HB.out⟩

set_option maxRecDepth 100000 in
theorem at_at (c b k p : Nat) (v : Value) (b1 b2 : Nat) (a : Option Addr) (cap : Nat) (l : List Nat) (x : Nat) (w : World) (h : Cor w c b k p v) (hn : k + p ≤ 255) (hl : l.length ≤ 1000) (hby : By l) (hx : x < 256) (hr : Lies w w.heap.size a (u8s l))
    (q1 : w.cell? ⟨b1, 0, none⟩ = some (.pointer (some ⟨c, 0, none⟩))) (q2 : w.cell? ⟨b2, 0, none⟩ = some (.slice a l.length cap)) :
    Calls Try.prog 46 #[.int .u8 (x : Int), .pointer (some ⟨b1, 0, none⟩), .pointer (some ⟨b2, 0, none⟩)] w fun e w' => e = .returned (.int .u8 (ev l x : Int)) ∧ Below w.heap.size w w' := by
  have h0 := h.c0
  have HE : Hid (∀ u : World, Below w.heap.size w u → Calls Try.prog 47 #[.pointer (some ⟨b, 0, none⟩), .slice a l.length cap, .int .u8 (x : Int)] u fun e w' => e = .returned (.int .u8 (ev l x : Int)) ∧ Below u.heap.size u w') := Lib.hid fun u hu => eval_any b a cap l x u (h.2.step hu) hby hx (by omega) (hr.step hu)
  have B0 : Hid (Below w.heap.size w w.drew) := Lib.hid (Below.refl _ _).drew
  have HX : Hid (∀ m, ev l x = m → True) := Lib.hid fun _ _ => trivial
  obtain ⟨y, hy⟩ : ∃ y, ev l x = y := ⟨_, rfl⟩
  rw [hy] at HE ⊢
  obtain ⟨L, hL⟩ : ∃ L, l.length = L := ⟨_, rfl⟩
  rw [hL] at HE q2
  clear h hy hr hby hl hx HX hL
  go_enter Try.func46, Try.ntmps46
  go_wp2
  go_still_tail 6, (by kernel_rfl)
  change wpList _ _ _ _ _ w.drew
  generalize w.drew = wq at *
  go_wp2_with (go_at_call 47; (with_reducible refine (HE.out _ B0.out).mono ?_); rintro e u1 ⟨rfl, b1'⟩; have U1 := Lib.hid (B0.out.next b1'); clear b1')
  go_ret
  exact ⟨rfl, U1.out⟩

set_option maxRecDepth 100000 in
set_option maxHeartbeats 1000000 in
theorem rs_each_at (c b k p : Nat) (v : Value) (b1 b2 : Nat) (a : Option Addr) (cap : Nat) (l : List Nat) (w : World) (h : Cor w c b k p v) (hn : k + p ≤ 255) (hl : l.length ≤ 1000) (hby : By l) (hcap : l.length ≤ cap) (hr : Lies w w.heap.size a (u8s l)) (hb1 : b1 < w.heap.size) (hb2 : b2 < w.heap.size) (q1 : w.cell? ⟨b1, 0, none⟩ = some (.pointer (some ⟨c, 0, none⟩))) (q2 : w.cell? ⟨b2, 0, none⟩ = some (.slice a l.length cap)) :
    Calls Try.prog 13 #[.pointer (some ⟨c, 0, none⟩), .func (.func 46) #[] #[.pointer (some ⟨b1, 0, none⟩), .pointer (some ⟨b2, 0, none⟩)]] w fun e w' => (∃ g, e = .returned (.slice (some ⟨g, 0, none⟩) p p) ∧ w.heap.size ≤ g ∧ Row w' g 5 (u8s (tab p fun i => ev l (ex i)))) ∧ Below w.heap.size w w' := by
  have h0 := h.c0
  have h1 := h.c1
  have h2 := h.c2
  have HLT : Hid (c < w.heap.size) := Lib.hid h.lt
  have HF := Lib.hid h.2
  obtain ⟨n, hnn⟩ : ∃ n, k + p = n := ⟨_, rfl⟩
  rw [hnn] at h1 hn
  have hsub : (n : Int) - (k : Int) = (p : Int) := by omega
  have hpb : (p : Int) ≤ 255 := by omega
  have hp0 : 0 ≤ (p : Int) := by omega
  have hpw : IntKind.i64.wrap (p : Int) = (p : Int) := by rw [IntKind.wrap_i64]; omega
  have hkb : (k : Int) ≤ 255 := by omega
  have hnb : (n : Int) ≤ 255 := by omega
  have HI8 : Hid ((Try.prog.info? 5).map (fun i => (i.zero, i.size, i.bytes)) = some (some (.int .u8 0), 1, 8) ∨ (Try.prog.info? 5).map (fun i => (i.zero, i.size, i.bytes)) = some (some (.int .u8 0), 1, 1)) := Lib.hid (Or.inr info_byte)
  have HLL : Hid (p ≤ p) := Lib.hid (Nat.le_refl _)
  have HLM0 : Hid (p ≤ 1099511627776) := Lib.hid (by omega)
  have HZC : Hid ((Value.int .u8 0).cells = #[.int .u8 0]) := Lib.hid rfl
  have H8 := Lib.hid info_byte1
  have HNN : Hid (k + p = n) := Lib.hid hnn
  have HRL := Lib.hid hr
  have HBY := Lib.hid hby
  have HQ1 := Lib.hid q1
  have HQ2 := Lib.hid q2
  have HCO := Lib.hid h
  clear hr q1 q2 hby
  clear h hnn
  go_enter Try.func13, Try.ntmps13
  go_wp2
  go_still_tail 9, (by kernel_rfl)
  change wpList _ _ _ _ _ w.drew
  have B0 : Hid (Below w.heap.size w w.drew) := Lib.hid (Below.refl _ _).drew
  have S0 : Hid (w.drew.heap.size = w.heap.size) := Lib.hid rfl
  generalize w.drew = wq at *
  go_wp2_with ((with_reducible refine wpMakeK 22 5 (.int .u8 0) p p Try.underlying22 HI8.out HZC.out HLL.out HLM0.out ?_ ?_); rfl; intro w1 r1 b1 s1; have R1 := Lib.hid r1; have B1 := Lib.hid b1; clear r1 b1 s1)
  obtain ⟨g, hg⟩ : ∃ g, wq.heap.size = g := ⟨_, rfl⟩
  rw [hg] at R1 ⊢
  have HB1 : Hid (Below w.heap.size w w1) := Lib.hid (B0.out.trans (by have := B1.out; rw [S0.out] at this; exact this))
  have HG : Hid (w.heap.size ≤ g) := Lib.hid (by rw [← hg, S0.out]; exact Nat.le_refl _)
  clear B0 B1 S0 hg
  go_loopw [19] (fun i wr => ∃ j : Nat, j ≤ p ∧ i = .int .i64 j ∧ Row wr g 5 (u8s (tab p fun i => if i < j then ev l (ex i) else 0)) ∧ Below w.heap.size w wr) (fun i _ => p - (intOf i).toNat)
  case atStart => exact ⟨0, Nat.zero_le _, rfl, by have := R1.out; rw [← u8s_zero, tab_zero] at this; rw [tab_congr p (g := fun _ => 0) (fun i _ => if_neg (by omega))]; exact this, HB1.out⟩
  case round =>
    clear R1 HB1
    obtain ⟨j, hj, rfl, hrow, hbw⟩ := hrel
    by_cases hlt : j < p
    · have hj1 : (j : Int) < p := by omega
      have hj2 : 0 ≤ (j : Int) := by omega
      have c0 : wr.cell? ⟨c, 0, none⟩ = some (.pointer (some ⟨b, 0, none⟩)) := (hbw.cell (p := ⟨c, 0, none⟩) HLT.out).trans h0
      have HFR : Hid (Fld wr b) := Lib.hid (HF.out.step hbw)
      have HE0 := exp_any b (j : Int) wr (HFR.out)
      rw [exI_nat] at HE0
      have HE := Lib.hid HE0
      have he8 := ex_lt j
      obtain ⟨x, hx⟩ : ∃ x, ex j = x := ⟨_, rfl⟩
      have HX := Lib.hid hx
      rw [hx] at he8
      have HE1 : Hid (Calls Try.prog 23 #[.pointer (some ⟨b, 0, none⟩), .int .i64 (j : Int)] wr fun e w' => e = .returned (.int .u8 (x : Int)) ∧ Below wr.heap.size wr w') := Lib.hid (by have := HE.out; rw [hx] at this; exact this)
      have HR := Lib.hid hrow
      have HB := Lib.hid hbw
      have HGW : Hid (g < wr.heap.size) := Lib.hid hrow.lt
      have HLJ : Hid (j < (u8s (tab p fun i => if i < j then ev l (ex i) else 0)).length) := Lib.hid (by rw [u8s_length, tab_length]; exact hlt)
      obtain ⟨y, hy⟩ : ∃ y, ev l x = y := ⟨_, rfl⟩
      have HST : Hid ((u8s (tab p fun i => if i < j then ev l (ex i) else 0)).set j (.int .u8 (y : Int)) = u8s (tab p fun i => if i < j + 1 then ev l (ex i) else 0)) := Lib.hid (by
        rw [u8s_set, tab_set]
        congr 1
        refine tab_congr p fun i _ => ?_
        by_cases e : i = j
        · subst e
          rw [if_pos rfl, if_pos (by omega), ← hy, ← hx]
        · rw [if_neg e]
          by_cases h : i < j
          · rw [if_pos h, if_pos (by omega)]
          · rw [if_neg h, if_neg (by omega)])
      have HVC : Hid ((Value.int .u8 (y : Int)).cells = #[.int .u8 (y : Int)]) := Lib.hid rfl
      have HVO : Hid ((Value.int .u8 (y : Int)).oneCell' = true) := Lib.hid rfl
      have HID : Hid (∀ u : World, Below wr.heap.size wr u → Calls Try.prog 46 #[.int .u8 (x : Int), .pointer (some ⟨b1, 0, none⟩), .pointer (some ⟨b2, 0, none⟩)] u fun e w' => e = .returned (.int .u8 (y : Int)) ∧ Below u.heap.size u w') := Lib.hid fun u hu => by
        have hu2 := HB.out.next hu
        rw [← hy]
        exact at_at c b k p v b1 b2 a cap l x u (HCO.out.step hu2) (by omega) hl HBY.out he8 ((HRL.out.step hu2)) ((hu2.cell (p := ⟨b1, 0, none⟩) hb1).trans HQ1.out) ((hu2.cell (p := ⟨b2, 0, none⟩) hb2).trans HQ2.out)
      clear HE0 HE hx hrow hbw hy he8
      go_wp2_with (first
        | (go_at_call 23; (with_reducible refine HE1.out.mono ?_); rintro e u1 ⟨rfl, b1⟩; have U1 := Lib.hid (HB.out.next b1); have RU1 := Lib.hid (HR.out.step b1); have V1 := Lib.hid b1; clear b1)
        | (go_at_call 46; (with_reducible refine (HID.out u1 V1.out).mono ?_); rintro e u2 ⟨rfl, b2⟩; have U2 := Lib.hid (U1.out.next b2); have RU2 := Lib.hid (RU1.out.step b2); clear b2)
        | ((with_reducible refine RU2.out.wpStore1K j 5 (.int .u8 (y : Int)) H8.out HLJ.out HVC.out HVO.out ?_ ?_); rfl; intro u3 r3 o3 s3; have R3 := Lib.hid r3; have O3 := Lib.hid o3; clear r3 o3 s3))
      go_roundw
      case rel => exact ⟨j + 1, by omega, by go_num, by have h := R3.out; rw [HST.out] at h; exact h, U2.out.trans (O3.out.below HG.out U2.out.size)⟩
      case measure => first | (simp [intOf]; done) | (simp [intOf]; omega)
    · have ej : j = p := by omega
      have HR : Hid (Row wr g 5 (u8s (tab p fun i => ev l (ex i)))) := Lib.hid (by
        rw [ej] at hrow
        rw [← tab_congr p (f := fun i => if i < p then ev l (ex i) else 0) (fun i hi => if_pos hi)]
        exact hrow)
      have HB := Lib.hid hbw
      clear hrow hbw ej
      go_wp2
      go_ret
      exact ⟨⟨_, rfl, HG.out, HR.out⟩, HB.out⟩

end Go.Proofs.Ytkcnmiaedcenoaa

/- The contract of rs's New. -/
namespace Go.Proofs.Ytkcnmiaedcenoaa
open Go.RowKit GfMath PolyMath RsMath
set_option linter.unusedVariables false

theorem rs_size_bytes1 : (Try.prog.info? 22).map (·.size) = some 1 := by kernel_rfl

theorem Lies.onlyNe {w w' : World} {g : Nat} {a : Option Addr} {xs : List Value} (h : Lies w w.heap.size a xs) (ho : Only g w w') (hne : ∀ x, a = some x → 0 < xs.length → x.block ≠ g) : Lies w' w'.heap.size a xs := by
  intro hx
  obtain ⟨b, off, e, hlt, hc⟩ := h hx
  have hb : b ≠ g := hne _ e hx
  refine ⟨b, off, e, Nat.lt_of_lt_of_le hlt ho.size, fun j u hu => ?_⟩
  have := hc j u hu
  simp only [World.cell?] at this ⊢
  rw [ho.2.2.2.2 b hlt hb]
  exact this
/-- Bytes don't lie in a code. -/
theorem Lies.noCode {w : World} {c b n k : Nat} {v : Value} {a : Option Addr} {l : List Nat} (h : Lies w w.heap.size a (u8s l)) (hr : Row w c 41 (codeL b n k v)) (hv : ∀ x : Nat, v ≠ .int .u8 (x : Int)) : ∀ x, a = some x → 0 < (u8s l).length → x.block ≠ c := by
  intro x hx h0 he
  obtain ⟨b2, off, e, hlt, hc⟩ := h h0
  rw [hx] at e
  cases e
  have h1 := hc 0 _ (u8s_get l 0 (by rw [u8s_length] at h0; exact h0))
  rw [show b2 = c from he, hr.cell] at h1
  simp only [Nat.add_zero, codeL] at h1
  match off, h1 with
  | 0, h1 => simp at h1
  | 1, h1 => simp at h1
  | 2, h1 => simp at h1
  | 3, h1 => simp at h1; exact hv _ h1
  | _ + 4, h1 => simp at h1

set_option maxRecDepth 100000 in
set_option maxHeartbeats 1000000 in
theorem rsNew_any (b k p : Nat) (w : World) (hf : Fld w b) (hk : 1 ≤ k) (hp : 1 ≤ p) (hn : k + p ≤ 255) (hp64 : p ≤ 64) :
    Calls Try.prog 6 #[.pointer (some ⟨b, 0, none⟩), .int .i64 ((k + p : Nat) : Int), .int .i64 (k : Int)] w fun e w' =>
      (∃ c, e = .returned (.tuple #[.pointer (some ⟨c, 0, none⟩), .int .i64 0]) ∧ Cod w' c b k p) ∧ Below w.heap.size w w' := by
  have HF := Lib.hid hf
  have HK : Hid (1 ≤ k) := Lib.hid hk
  have HP : Hid (1 ≤ p) := Lib.hid hp
  have HN : Hid (k + p ≤ 255) := Lib.hid hn
  obtain ⟨n, hnn⟩ : ∃ n, k + p = n := ⟨_, rfl⟩
  have HNN : Hid (k + p = n) := Lib.hid hnn
  have h1 : ¬ (k : Int) < 1 := by omega
  have h2 : ¬ (n : Int) ≤ (k : Int) := by omega
  have h2b : (k : Int) < (n : Int) := by omega
  have h3 : ¬ (n : Int) > 255 := by omega
  have h4 : (n : Int) - (k : Int) = (p : Int) := by omega
  have h5 : ¬ (p : Int) > 64 := by omega
  have hkb : (k : Int) ≤ 255 := by omega
  rw [hnn] at hn ⊢
  have HEA : Hid (∀ (u : World) (c : Nat), Row u c 41 (codeL b n k (.slice none 0 0)) → Fld u b → Calls Try.prog 13 #[.pointer (some ⟨c, 0, none⟩), .func (.func 14) #[] #[]] u fun e w' => (∃ g, e = .returned (.slice (some ⟨g, 0, none⟩) p p) ∧ u.heap.size ≤ g ∧ Row w' g 5 (u8s (exs p))) ∧ Below u.heap.size u w') := Lib.hid fun u c h1 h2 => rs_each_id c b k p _ u (by rw [← HNN.out] at h1; exact ⟨h1, h2⟩) HN.out
  have HRO : Hid (∀ (u : World) (g : Nat), Row u g 5 (u8s (exs p)) → Fld u b → Calls Try.prog 12 #[.pointer (some ⟨b, 0, none⟩), .slice (some ⟨g, 0, none⟩) p p] u fun e w' => (∃ a cap, e = .returned (.slice a (p + 1) cap) ∧ p + 1 ≤ cap ∧ Lies w' w'.heap.size a (u8s (rt (exs p)))) ∧ Below u.heap.size u w') := Lib.hid fun u g h1 h2 => by
    have h := roots_any b (some ⟨g, 0, none⟩) p (exs p) u h2 (exs_by p) (by rw [exs_length]; omega) (row_lies h1)
    rw [exs_length] at h
    refine h.mono fun e w' ⟨⟨v, h3, a, cap, h4, h5, h6⟩, h7⟩ => ?_
    have hl := (rt_all (exs p) (exs_by p)).2.1
    rw [exs_length] at hl
    rw [hl] at h4 h5
    exact ⟨⟨a, cap, by rw [h3, h4], h5, h6⟩, h7⟩
  have HB1 := Lib.hid rs_size_bytes1
  obtain ⟨w1, hw1⟩ : ∃ w1, w1 = w.alloc (.cells #[.pointer (some ⟨b, 0, none⟩), .int .i64 (n : Int), .int .i64 (k : Int), .slice none 0 0] 41) := ⟨_, rfl⟩
  have R0 : Hid (Row w1 w.heap.size 41 (codeL b n k (.slice none 0 0))) := Lib.hid (by rw [hw1]; exact Row.new w _ _)
  have B0 : Hid (Below w.heap.size w w1) := Lib.hid (by rw [hw1]; exact alloc_below _ _)
  have HEW : Hid (Calls Try.prog 13 #[.pointer (some ⟨w.heap.size, 0, none⟩), .func (.func 14) #[] #[]] (w.alloc (.cells #[.pointer (some ⟨b, 0, none⟩), .int .i64 (n : Int), .int .i64 (k : Int), .slice none 0 0] 41)) fun e w' => (∃ g, e = .returned (.slice (some ⟨g, 0, none⟩) p p) ∧ w.heap.size < g ∧ Row w' g 5 (u8s (exs p)) ∧ Row w' w.heap.size 41 (codeL b n k (.slice none 0 0)) ∧ Fld w' b) ∧ Below w.heap.size w w') := Lib.hid (by
    rw [← hw1]
    refine (HEA.out w1 w.heap.size R0.out (HF.out.step B0.out)).mono fun e w' ⟨⟨g, h1, h2, h3⟩, h4⟩ => ⟨⟨g, h1, ?_, h3, R0.out.step h4, (HF.out.step B0.out).step h4⟩, B0.out.next h4⟩
    have := R0.out.lt
    omega)
  have HLC : Hid (3 < (codeL b n k (.slice none 0 0)).length) := Lib.hid (by show 3 < 4; omega)
  clear hf hk hp hnn hw1 R0 B0 HEA
  go_enter Try.func6, Try.ntmps6
  go_wp2_with (first
    | (go_at_call 13; (with_reducible refine HEW.out.mono ?_); rintro e u1 ⟨⟨g, rfl, g0, r1, rc1, f1⟩, b1⟩; have G0 := Lib.hid g0; have R1 := Lib.hid r1; have RC1 := Lib.hid rc1; have F1 := Lib.hid f1; have B1 := Lib.hid b1; clear g0 r1 rc1 f1 b1)
    | (go_at_call 12; (with_reducible refine (HRO.out u1 g R1.out F1.out).mono ?_); rintro e u2 ⟨⟨a, cap, rfl, hcap, hl⟩, b2⟩; have HCA := Lib.hid hcap; have HL := Lib.hid hl; have RC2 := Lib.hid (RC1.out.step b2); have F2 := Lib.hid (F1.out.step b2); have B2 := Lib.hid (B1.out.next b2); clear hcap hl b2)
    | ((with_reducible refine RC2.out.wpStore1K 3 22 (.slice a (p + 1) cap) HB1.out HLC.out rfl rfl ?_ ?_); rfl; intro u3 r3 o3 s3; have R3 := Lib.hid r3; have O3 := Lib.hid o3; clear r3 o3 s3))
  go_ret2
  refine ⟨⟨_, rfl, HK.out, HP.out, HN.out, hp64, a, cap, ⟨by have := R3.out; rw [HNN.out]; exact this, F2.out.only O3.out (fun h => ?_)⟩, HCA.out, HL.out.onlyNe O3.out (HL.out.noCode RC2.out (fun x h => by cases h))⟩, B2.out.trans (O3.out.below (Nat.le_refl _) B2.out.size)⟩
  have := HF.out.lt
  omega

/-- There is no such code. -/
theorem rsNew_bad (b : Nat) (n k : Int) (w : World) (h : ¬ (1 ≤ k ∧ k < n ∧ n ≤ 255 ∧ n - k ≤ 64)) :
    Calls Try.prog 6 #[.pointer (some ⟨b, 0, none⟩), .int .i64 n, .int .i64 k] w fun e w' => e = .returned (.tuple #[.pointer none, .int .i64 1]) ∧ w = w' := by
  by_cases h1 : k < 1
  · clear h
    go_enter Try.func6, Try.ntmps6
    go_wp2
    go_ret2
    exact ⟨rfl, rfl⟩
  · by_cases h2 : n ≤ k
    · clear h
      go_enter Try.func6, Try.ntmps6
      go_wp2
      go_ret2
      exact ⟨rfl, rfl⟩
    · by_cases h3 : n > 255
      · clear h
        go_enter Try.func6, Try.ntmps6
        go_wp2
        go_ret2
        exact ⟨rfl, rfl⟩
      · have h4 : n - k > 64 := by omega
        have hw : IntKind.i64.wrap (n - k) = n - k := by rw [IntKind.wrap_i64]; omega
        have hk2 : 1 ≤ k := by omega
        have hn2 : n ≤ 255 := by omega
        have h2b : k < n := by omega
        clear h
        go_enter Try.func6, Try.ntmps6
        go_wp2
        go_ret2
        exact ⟨rfl, rfl⟩

end Go.Proofs.Ytkcnmiaedcenoaa

/- Contracts of rs's Syndromes, Right. -/
namespace Go.Proofs.Ytkcnmiaedcenoaa
open Go.RowKit GfMath PolyMath RsMath
set_option linter.unusedVariables false

/-- The two variables that Syndromes lays. -/
theorem two_laid (w : World) (x y : Value) (s t : TypeId) : ∃ u, u = (w.alloc (.cells #[x] s)).alloc (.cells #[y] t) ∧ u.cell? ⟨w.heap.size, 0, none⟩ = some x ∧ u.cell? ⟨w.heap.size + 1, 0, none⟩ = some y ∧ Below w.heap.size w u ∧ u.heap.size = w.heap.size + 2 := by
  have r1 : Row (w.alloc (.cells #[x] s)) w.heap.size s [x] := Row.new w s [x]
  have r2 : Row ((w.alloc (.cells #[x] s)).alloc (.cells #[y] t)) (w.alloc (.cells #[x] s)).heap.size t [y] := Row.new _ t [y]
  have hs : (w.alloc (.cells #[x] s)).heap.size = w.heap.size + 1 := by simp
  refine ⟨_, rfl, ?_, ?_, (alloc_below _ _).next (alloc_below _ _), by simp⟩
  · rw [(r1.alloc _).cell]; rfl
  · rw [hs] at r2; rw [r2.cell]; rfl

theorem syn_nil (a : Option Addr) (n cap : Nat) (w : World) : Calls Try.prog 25 #[.pointer none, .slice a n cap] w fun e w' => e = .returned (.tuple #[.slice none 0 0, .int .i64 1]) ∧ Below w.heap.size w w' := by
  have HN : Hid (∀ u, Calls Try.prog 41 #[.pointer none] u fun e w' => e = .returned (.bool true) ∧ w' = u) := Lib.hid fun u => (rs_none_nil u).mono fun _ _ h => ⟨h.1, h.2.symm⟩
  obtain ⟨u2, hu, q1, q2, b2, s2⟩ := two_laid w (.pointer none) (.slice a n cap) 28 22
  have HU := Lib.hid hu
  have B2 := Lib.hid b2
  clear hu b2 s2
  go_enter Try.func25, Try.ntmps25
  go_wp2
  rw [← HU.out]
  go_quiet ((go_at_call 41; exact Calls.quiet_of_same (HN.out _)))
  go_wp2
  go_ret2
  exact ⟨rfl, B2.out.drewN _⟩

theorem syn_bad (c b k p : Nat) (v : Value) (a : Option Addr) (n cap : Nat) (w : World) (h : Cor w c b k p v) (hn : n ≠ k + p) (hl : n ≤ 140737488355328) : Calls Try.prog 25 #[.pointer (some ⟨c, 0, none⟩), .slice a n cap] w fun e w' => e = .returned (.tuple #[.slice none 0 0, .int .i64 1]) ∧ Below w.heap.size w w' := by
  obtain ⟨u2, hu, q1, q2, b2, s2⟩ := two_laid w (.pointer (some ⟨c, 0, none⟩)) (.slice a n cap) 28 22
  have hc2 := h.step b2
  have HN : Hid (∀ d, Calls Try.prog 41 #[.pointer (some ⟨c, 0, none⟩)] (u2.drewN d) fun e w' => e = .returned (.bool false) ∧ w' = u2.drewN d) := Lib.hid fun d => (rs_none_any c b k p v _ (hc2.step ((Below.refl _ _).drewN d))).mono fun _ _ h => ⟨h.1, h.2.symm⟩
  have q3 := hc2.c1
  have HU := Lib.hid hu
  have B2 := Lib.hid b2
  obtain ⟨m, hm⟩ : ∃ m, k + p = m := ⟨_, rfl⟩
  rw [hm] at q3 hn
  have hne : ((n : Int) != (m : Int)) = true := by simp; omega
  have hne2 : ¬ (n : Int) = (m : Int) := by omega
  clear hu b2 s2 h hc2 hm
  go_enter Try.func25, Try.ntmps25
  go_wp2
  rw [← HU.out]
  go_quiet ((go_at_call 41; exact Calls.quiet_of_same (HN.out _)))
  go_wp2
  go_ret2
  exact ⟨rfl, B2.out.drewN _⟩

set_option maxRecDepth 100000 in
theorem syn_any (c b k p : Nat) (v : Value) (a : Option Addr) (cap : Nat) (l : List Nat) (w : World) (h : Cor w c b k p v) (hn : k + p ≤ 255) (hl : l.length = k + p) (hby : By l) (hcap : l.length ≤ cap) (hr : Lies w w.heap.size a (u8s l)) :
    Calls Try.prog 25 #[.pointer (some ⟨c, 0, none⟩), .slice a (k + p) cap] w fun e w' =>
      (∃ g, e = .returned (.tuple #[.slice (some ⟨g, 0, none⟩) p p, .int .i64 0]) ∧ w.heap.size ≤ g ∧ Row w' g 5 (u8s (tab p fun i => ev l (ex i)))) ∧ Below w.heap.size w w' := by
  obtain ⟨u2, hu, q1, q2, b2, s2⟩ := two_laid w (.pointer (some ⟨c, 0, none⟩)) (.slice a (k + p) cap) 28 22
  have hc2 := h.step b2
  have HN : Hid (∀ d, Calls Try.prog 41 #[.pointer (some ⟨c, 0, none⟩)] (u2.drewN d) fun e w' => e = .returned (.bool false) ∧ w' = u2.drewN d) := Lib.hid fun d => (rs_none_any c b k p v _ (hc2.step ((Below.refl _ _).drewN d))).mono fun _ _ h => ⟨h.1, h.2.symm⟩
  have HEA : Hid (∀ d, Calls Try.prog 13 #[.pointer (some ⟨c, 0, none⟩), .func (.func 46) #[] #[.pointer (some ⟨w.heap.size, 0, none⟩), .pointer (some ⟨w.heap.size + 1, 0, none⟩)]] (u2.drewN d) fun e w' => (∃ g, e = .returned (.slice (some ⟨g, 0, none⟩) p p) ∧ w.heap.size ≤ g ∧ Row w' g 5 (u8s (tab p fun i => ev l (ex i)))) ∧ Below w.heap.size w w') := Lib.hid fun d => by
    have e1 : (u2.drewN d).heap.size = w.heap.size + 2 := s2
    refine (rs_each_at c b k p v w.heap.size (w.heap.size + 1) a cap l _ (hc2.step ((Below.refl _ _).drewN d)) hn (by omega) hby hcap ((hr.step b2).step ((Below.refl _ _).drewN d)) (by omega) (by omega) q1 (by rw [hl]; exact q2)).mono fun e w' ⟨⟨g, h1, h2, h3⟩, h4⟩ => ⟨⟨g, h1, by omega, h3⟩, (b2.drewN d).trans (h4.mono (by omega))⟩
  have q3 := hc2.c1
  have HU := Lib.hid hu
  obtain ⟨m, hm⟩ : ∃ m, k + p = m := ⟨_, rfl⟩
  rw [hm] at q3 hn HU
  have hmb : (m : Int) ≤ 255 := by omega
  rw [hm] at q2 ⊢
  clear hu b2 s2 h hc2 hm hr hby hl
  go_enter Try.func25, Try.ntmps25
  go_wp2
  rw [← HU.out]
  go_quiet ((go_at_call 41; exact Calls.quiet_of_same (HN.out _)))
  go_wp2_with (go_at_call 13; (with_reducible refine (HEA.out _).mono ?_); rintro e u3 ⟨⟨g, rfl, g0, r3⟩, b3⟩; have G0 := Lib.hid g0; have R3 := Lib.hid r3; have B3 := Lib.hid b3; clear g0 r3 b3)
  go_ret2
  exact ⟨⟨_, rfl, G0.out, R3.out⟩, B3.out⟩

end Go.Proofs.Ytkcnmiaedcenoaa

/- Contracts of rs's Right. The first two are poly's text with another function (gen in NOTES: index of the first that isn't 0). -/
namespace Go.Proofs.Ytkcnmiaedcenoaa
open Go.RowKit GfMath PolyMath RsMath
set_option linter.unusedVariables false

theorem rsnz_any (x : Nat) (w : World) :
    Calls Try.prog 55 #[.int .u8 (x : Int)] w fun e w' => e = .returned (.bool (decide (x ≠ 0))) ∧ w = w' := by
  by_cases h : x = 0
  · subst h
    go_enter Try.func55, Try.ntmps55
    go_wp2
    go_ret
    exact ⟨rfl, rfl⟩
  · have h1 : ((x : Int) != 0) = true := by simp; omega
    have h2 : ¬ (x : Int) = 0 := by omega
    have h3 : decide (x ≠ 0) = true := by simpa using h
    go_enter Try.func55, Try.ntmps55
    go_wp2
    go_ret
    exact ⟨ret_bool h3.symm, rfl⟩

theorem rsindex_any (a : Option Addr) (cap : Nat) (l : List Nat) (w : World) (hl : l.length ≤ 140737488355328) (hr : Lies w w.heap.size a (u8s l)) :
    Calls Try.prog 60 #[.slice a l.length cap, .func (.func 55) #[] #[]] w fun e w' => e = .returned (.int .i64 (firstOf l)) ∧ w = w' := by
  go_enter Try.func60, Try.ntmps60
  go_wp2
  go_loop [8] (fun i => ∃ k : Nat, k ≤ l.length ∧ i = .int .i64 k ∧ ∀ j, j < k → sq l j = 0) (fun i => l.length - (intOf i).toNat)
  case atStart => exact ⟨0, Nat.zero_le _, rfl, fun j hj => absurd hj (by omega)⟩
  case round =>
    obtain ⟨k, hk, rfl, hz⟩ := hrel
    have HZ := Lib.hid hz
    clear hz
    by_cases hlt : k < l.length
    · obtain ⟨b2, off, rfl, hbb, hc⟩ := hr (by rw [u8s_length]; omega)
      have hcell : w.cell? ⟨b2, off + k, none⟩ = some (.int .u8 (sq l k : Int)) := by rw [sq_get l k hlt]; exact hc k _ (u8s_get l k hlt)
      obtain ⟨x, hx⟩ : ∃ x, sq l k = x := ⟨_, rfl⟩
      rw [hx] at hcell
      have hk1 : (k : Int) < l.length := by omega
      by_cases h0 : x = 0
      · have HN : Hid (∀ u, Calls Try.prog 55 #[.int .u8 (x : Int)] u fun e w' => e = .returned (.bool false) ∧ u = w') := Lib.hid fun u => by have := rsnz_any x u; rwa [decide_eq_false (by omega)] at this
        have HX : Hid (sq l k = 0) := Lib.hid (by rw [hx, h0])
        clear hr hc hx h0
        go_wp2_with (go_at_call 55; (with_reducible refine (HN.out _).mono ?_); rintro e w1 ⟨rfl, rfl⟩)
        go_round
        case rel => exact ⟨k + 1, by omega, by go_num, fun j hj => by
          by_cases e : j = k
          · rw [e]; exact HX.out
          · exact HZ.out j (by omega)⟩
        case measure => simp [intOf]; omega
      · have HN : Hid (∀ u, Calls Try.prog 55 #[.int .u8 (x : Int)] u fun e w' => e = .returned (.bool true) ∧ u = w') := Lib.hid fun u => by have := rsnz_any x u; rwa [decide_eq_true (by omega)] at this
        have HX : Hid (firstOf l = (k : Int)) := Lib.hid (by
          have := zs_eq l k HZ.out (by rw [hx]; exact h0)
          rw [firstOf, this, if_pos hlt])
        clear hr hc hx h0
        go_wp2_with (go_at_call 55; (with_reducible refine (HN.out _).mono ?_); rintro e w1 ⟨rfl, rfl⟩)
        go_ret
        exact ⟨ret_int HX.out.symm, rfl⟩
    · have HX : Hid (firstOf l = -1) := Lib.hid (by
        have := zs_all l fun j hj => HZ.out j (by omega)
        rw [firstOf, this, if_neg (by omega)])
      clear hr
      go_wp2
      go_ret
      exact ⟨ret_int HX.out.symm, rfl⟩


theorem contains_any (a : Option Addr) (cap : Nat) (l : List Nat) (w : World) (hl : l.length ≤ 140737488355328) (hr : Lies w w.heap.size a (u8s l)) :
    Calls Try.prog 54 #[.slice a l.length cap, .func (.func 55) #[] #[]] w fun e w' => e = .returned (.bool (!allz l)) ∧ w = w' := by
  have HI := Lib.hid (rsindex_any a cap l w hl hr)
  have hz := zs_le l
  by_cases hlt : zs l < l.length
  · have hf : firstOf l = (zs l : Int) := if_pos hlt
    have hb : (!allz l) = true := by unfold allz; rw [decide_eq_false (by omega)]; rfl
    have HB := Lib.hid hb
    rw [hf] at HI
    generalize zs l = z at *
    have hz0 : 0 ≤ (z : Int) := by omega
    have hz1 : (z : Int) ≤ l.length := by omega
    clear hf hr hb
    go_enter Try.func54, Try.ntmps54
    go_wp2_with (go_at_call 60; (with_reducible refine HI.out.mono ?_); rintro e w1 ⟨rfl, rfl⟩)
    go_ret
    exact ⟨ret_bool HB.out.symm, rfl⟩
  · have hf : firstOf l = -1 := if_neg hlt
    have hb : (!allz l) = false := by unfold allz; rw [decide_eq_true (by omega)]; rfl
    have HB := Lib.hid hb
    rw [hf] at HI
    clear hf hr hb
    go_enter Try.func54, Try.ntmps54
    go_wp2_with (go_at_call 60; (with_reducible refine HI.out.mono ?_); rintro e w1 ⟨rfl, rfl⟩)
    go_ret
    exact ⟨ret_bool HB.out.symm, rfl⟩

theorem rs_right_nil (a : Option Addr) (n cap : Nat) (w : World) : Calls Try.prog 31 #[.pointer none, .slice a n cap] w fun e w' => e = .returned (.bool false) ∧ Below w.heap.size w w' := by
  have HS := Lib.hid (syn_nil a n cap w)
  go_enter Try.func31, Try.ntmps31
  go_wp2_with (go_at_call 25; (with_reducible refine HS.out.mono ?_); rintro e w1 ⟨rfl, b1⟩; have B1 := Lib.hid b1; clear b1)
  go_ret
  exact ⟨rfl, B1.out⟩
theorem rs_right_bad (c b k p : Nat) (v : Value) (a : Option Addr) (n cap : Nat) (w : World) (h : Cor w c b k p v) (hn : n ≠ k + p) (hl : n ≤ 140737488355328) : Calls Try.prog 31 #[.pointer (some ⟨c, 0, none⟩), .slice a n cap] w fun e w' => e = .returned (.bool false) ∧ Below w.heap.size w w' := by
  have HS := Lib.hid (syn_bad c b k p v a n cap w h hn hl)
  clear h hn
  go_enter Try.func31, Try.ntmps31
  go_wp2_with (go_at_call 25; (with_reducible refine HS.out.mono ?_); rintro e w1 ⟨rfl, b1⟩; have B1 := Lib.hid b1; clear b1)
  go_ret
  exact ⟨rfl, B1.out⟩
theorem rs_right_any (c b k p : Nat) (v : Value) (a : Option Addr) (cap : Nat) (l : List Nat) (w : World) (h : Cor w c b k p v) (hn : k + p ≤ 255) (hl : l.length = k + p) (hby : By l) (hcap : l.length ≤ cap) (hr : Lies w w.heap.size a (u8s l)) :
    Calls Try.prog 31 #[.pointer (some ⟨c, 0, none⟩), .slice a (k + p) cap] w fun e w' => e = .returned (.bool (allz (vals l p))) ∧ Below w.heap.size w w' := by
  have HS := Lib.hid (syn_any c b k p v a cap l w h hn hl hby hcap hr)
  have HC : Hid (∀ (u : World) (g : Nat), Row u g 5 (u8s (vals l p)) → Calls Try.prog 54 #[.slice (some ⟨g, 0, none⟩) p p, .func (.func 55) #[] #[]] u fun e w' => e = .returned (.bool (!allz (vals l p))) ∧ u = w') := Lib.hid fun u g h1 => by
    have := contains_any (some ⟨g, 0, none⟩) p (vals l p) u (by rw [vals_length]; omega) (row_lies h1)
    rwa [vals_length] at this
  obtain ⟨m, hm⟩ : ∃ m, k + p = m := ⟨_, rfl⟩
  rw [hm] at HS ⊢
  have HV : Hid (∀ w' g, Row w' g 5 (u8s (tab p fun i => ev l (ex i))) → Row w' g 5 (u8s (vals l p))) := Lib.hid fun _ _ h => h
  obtain ⟨z, hz⟩ : ∃ z, allz (vals l p) = z := ⟨_, rfl⟩
  rw [hz] at HC ⊢
  clear h hn hl hr hby hm hz
  go_enter Try.func31, Try.ntmps31
  go_wp2_with (first
    | (go_at_call 25; (with_reducible refine HS.out.mono ?_); rintro e w1 ⟨⟨g, rfl, _, r1⟩, b1⟩; have R1 := Lib.hid (HV.out _ _ r1); have B1 := Lib.hid b1; clear b1 r1)
    | (go_at_call 54; (with_reducible refine (HC.out w1 g R1.out).mono ?_); rintro e w2 ⟨rfl, rfl⟩))
  go_ret
  exact ⟨by cases z <;> rfl, B1.out⟩

end Go.Proofs.Ytkcnmiaedcenoaa

/- append(nil, make([]T, n)...), as slices.Grow has it: a new block of one's own with room for n. -/
namespace Go.Proofs.Ytkcnmiaedcenoaa
open Go.RowKit
section
variable {P : Program}
theorem run_append_made (w : World) (t u ty e : TypeId) (i : TypeInfo) (z : Value) (k : IntKind) (ht : P.underlying t = some (.slice e)) (hu : P.underlying u = some (.int k)) (hi : P.info? e = some i) (hz : i.zero = some z) (hs : i.size = 1)
    (n : Nat) (h0 : 0 < n) (hn : n ≤ 1099511627776) (hb : i.bytes ≤ 64) :
    (Builtin.append_ #[t, u] ty #[.slice none 0 0, .int .i64 (n : Int)]).run P w =
      .ok (.slice (some ⟨w.heap.size, 0, none⟩) n (grownCap w n 0 e)) (w.drew.alloc (.cells (Builtin.zeroCells z.cells n ++ Builtin.zeroCells z.cells (grownCap w n 0 e - n)) e)) := by
  have hn0 : n ≠ 0 := by omega
  have hw : IntKind.i64.wrap (n : Int) = (n : Int) := by rw [IntKind.wrap_i64]; omega
  have hpos : ¬ (n : Int) < 0 := by omega
  have h63' : ¬ (9223372036854775807 < (n : Int)) := by omega
  have hb1 : n * i.bytes ≤ 1099511627776 * 64 := Nat.mul_le_mul hn hb
  have hb2 : ¬ (281474976710656 < (n : Int) * (i.bytes : Int)) := by
    have : ((n * i.bytes : Nat) : Int) ≤ 281474976710656 := by omega
    rw [Int.natCast_mul] at this
    omega
  have h48' : ¬ (281474976710656 < Builtin.nextslicecap n 0 * i.bytes) := by rw [nextslicecap_zero h0]; omega
  simp [Builtin.append_, run_underlying ht, run_underlying hu, asInt, asIntOf, sizeOf, typeInfo, zeroValue, hi, hz, hs, hw, hpos, hb2, Builtin.lenOf, hn0, h63', h48', Question.forced, run_firstCells_none, newRow, grownCap]

def appendMadeOf (o : Oper) (a : Act) : Option (TypeId × TypeId × Value × Value) :=
  match o.guard, o.op with
  | none, .call c => match c.callee, c.args.toList, c.argTypes.toList with
    | .builtin .append, [x, y], [t, t'] => some (t, t', a.eval x, a.eval y)
    | _, _, _ => none
  | _, _ => none
/-- append(nil, make([]T, n)...). -/
theorem wpAppendMadeK {ops : Array Oper} {rest : List Oper} {o : Oper} {a : Act} {w : World} {Q : Exit → Act → World → Prop} {n : Nat} {T U e : TypeId} (k : IntKind)
    (hT : P.underlying T = some (.slice e)) (hU : P.underlying U = some (.int k)) (he : One P e) (h0 : 0 < n) (hn : n ≤ 1099511627776)
    (ho : appendOf o a = some (T, U, .slice none 0 0, .int .i64 (n : Int)))
    (kk : ∀ c w', n ≤ c → w'.ownsRow w.heap.size e 1 (.slice (some ⟨w.heap.size, 0, none⟩) 0 c) 0 [] → Below w.heap.size w w' → wpList P ops Q rest (a.put o.dst (.slice (some ⟨w.heap.size, 0, none⟩) n c)) w') : wpList P ops Q (o :: rest) a w := by
  obtain ⟨hg, x, y, hop, hx, hy⟩ := appendOf_spec ho
  obtain ⟨i, z, hi, hz, h2, h3, h4⟩ := he.row
  refine wpList_plain hg fun K hK => ?_
  have hr := run_append_made (P := P) w T U o.type e i z k hT hU hi hz h2 n h0 hn h4
  unfold Oper.wp execOp
  simp only [hop, resolve, invoke, builtin, Sem.run_bind, Sem.run_pure, Result.andThen_ok, List.map_toArray, List.map_cons, List.map_nil, hx, hy, hr]
  have hge := grownCap_ge w n 0 e
  have hm : n ≤ maxLen := by unfold maxLen; omega
  have hle := grownCap_le_maxLen w n 0 e hm
  refine hK _ _ (kk _ _ hge ⟨by simp, .inr ⟨w.heap.size, _, _, rfl, Nat.le_refl _, heap_alloc_new w.drew _, Nat.zero_le _, hle, ?_, by simp⟩⟩ (((Below.refl _ _).drew).alloc (Nat.le_refl _) _))
  rw [Array.size_append, size_zeroCells, size_zeroCells, h3]
  omega
end
end Go.Proofs.Ytkcnmiaedcenoaa

/- Contracts of slices.Grow of nil, slices.Concat of lists of bytes. -/
namespace Go.Proofs.Ytkcnmiaedcenoaa
open Go.RowKit GfMath PolyMath RsMath
set_option linter.unusedVariables false

theorem grow_nil (n : Nat) (w : World) (h0 : 0 < n) (hn : n ≤ 1000000) :
    Calls Try.prog 42 #[.slice none 0 0, .int .i64 (n : Int)] w fun e w' => (∃ c, e = .returned (.slice (some ⟨w.heap.size, 0, none⟩) 0 c) ∧ w'.ownsRow w.heap.size 5 1 (.slice (some ⟨w.heap.size, 0, none⟩) 0 c) 0 []) ∧ Below w.heap.size w w' := by
  have h1 : ¬ (n : Int) < 0 := by omega
  have h2 : (n : Int) > 0 := by omega
  have h3 : (0 : Int) ≤ (n : Int) := by omega
  have hnb : (n : Int) ≤ 1000000 := by omega
  have H0 := Lib.hid h0
  have HN : Hid (n ≤ 1099511627776) := Lib.hid (by omega)
  go_enter Try.func42, Try.ntmps42
  go_wp2_with ((with_reducible refine wpAppendMadeK .i64 Try.underlying22 Try.underlying3 one_byte H0.out HN.out ?_ ?_); rfl; intro c w1 k1 k2 k3; have K1 : ((0 : Int) ≤ (c : Int)) := (by omega); have K2 := Lib.hid k2; have K3 := Lib.hid k3; clear k1 k2 k3)
  go_ret
  exact ⟨⟨_, rfl, K2.out⟩, K3.out⟩

/-- The first k lists, one behind the other. -/
def catl (ls : List (List Nat)) (k : Nat) : List Nat := (ls.take k).flatten
theorem catl_all (ls : List (List Nat)) : catl ls ls.length = ls.flatten := by rw [catl, List.take_of_length_le (Nat.le_refl _)]
set_option maxHeartbeats 1000000 in
theorem concat_any (a : Option Addr) (cap : Nat) (ts : List Hd) (ls : List (List Nat)) (w : World) (hp : Polys w ts ls) (h0 : 0 < ls.length) (hne : ∀ l ∈ ls, 0 < l.length) (hn : ls.length ≤ 1000) (hl : ls.flatten.length ≤ 1000000) (hr : Lies w w.heap.size a (slvs ts)) :
    Calls Try.prog 20 #[.slice a ls.length cap] w fun e w' =>
      (∃ g c, e = .returned (.slice (some ⟨g, 0, none⟩) ls.flatten.length c) ∧ w.heap.size ≤ g ∧ w'.ownsRow w.heap.size 5 1 (.slice (some ⟨g, 0, none⟩) ls.flatten.length c) ls.flatten.length (u8s ls.flatten)) ∧ Below w.heap.size w w' := by
  rw [← catl_all] at hl ⊢
  have HR := Lib.hid hr
  have HP := Lib.hid hp
  have HNE := Lib.hid hne
  have HL : Hid ((catl ls ls.length).length ≤ 1000000) := Lib.hid hl
  have hfl : 0 < (catl ls ls.length).length := by
    rw [catl_all]
    match ls, h0, hne with
    | l :: r, _, hne => rw [List.flatten_cons, List.length_append]; have := hne l (by simp); omega
  have hst : ∀ k (hk : k < ls.length), catl ls (k + 1) = catl ls k ++ ls[k] := fun k hk => by rw [catl, catl, take_snoc ls k hk, List.flatten_append, List.flatten_cons, List.flatten_nil, List.append_nil]
  have hle : ∀ k, (catl ls k).length ≤ (catl ls ls.length).length := fun k => by
    have h : catl ls ls.length = catl ls k ++ (ls.drop k).flatten := by rw [catl_all, catl, ← List.flatten_append, List.take_append_drop]
    rw [h, List.length_append]
    omega
  have HST := Lib.hid hst
  have HLE := Lib.hid hle
  have HG := Lib.hid (grow_nil (catl ls ls.length).length w hfl hl)
  have HFL : Hid (0 < (catl ls ls.length).length) := Lib.hid hfl
  clear hr hp hne hst hle hfl hl
  go_enter Try.func20, Try.ntmps20
  go_wp2
  go_loop [3, 11] (fun s i => ∃ k : Nat, k ≤ ls.length ∧ i = .int .i64 k ∧ s = .int .i64 (((catl ls k).length : Nat) : Int)) (fun _ i => ls.length - (intOf i).toNat)
  case atStart => exact ⟨0, Nat.zero_le _, rfl, rfl⟩
  case round =>
    obtain ⟨k, hk, rfl, rfl⟩ := hrel
    by_cases hlt : k < ls.length
    · have hk1 : (k : Int) < ls.length := by omega
      obtain ⟨q, c, ht, hqc, hc1, hq8, hql⟩ := HP.out.get k hlt
      have hkt : k < ts.length := by rw [HP.out.len]; exact hlt
      obtain ⟨b2, off, rfl, hbb, hcl⟩ := HR.out (by rw [slvs_length]; omega)
      have hcell : w.cell? ⟨b2, off + k, none⟩ = some (.slice q ls[k].length c) := by
        have h1 := hcl k _ (slvs_get ts k hkt)
        rw [ht] at h1
        exact h1
      have hs2 := congrArg List.length (HST.out k hlt)
      rw [List.length_append] at hs2
      have hb1 := HLE.out (k + 1)
      have hb2 := HL.out
      obtain ⟨x, hx⟩ : ∃ x, (catl ls k).length = x := ⟨_, rfl⟩
      obtain ⟨y, hy⟩ : ∃ y, ls[k].length = y := ⟨_, rfl⟩
      rw [hx, hy] at hs2
      rw [hy] at hcell
      rw [hx]
      obtain ⟨t, ht2⟩ : ∃ t, x + y = t := ⟨_, rfl⟩
      rw [ht2] at hs2
      have hxy : ((x : Int) + (y : Int)) = (t : Int) := by omega
      have hxy0 : ¬ (t : Int) < 0 := by omega
      have hxyw : IntKind.i64.wrap (t : Int) = (t : Int) := by rw [IntKind.wrap_i64]; omega
      have HS2 := Lib.hid hs2
      clear hs2 hb1 hb2 hx hy ht hqc hc1 hq8 hql hcl hbb ht2
      go_wp2
      go_round
      case rel => exact ⟨k + 1, by omega, by go_num, by rw [HS2.out]⟩
      case measure => simp [intOf]; omega
    · have ek : k = ls.length := by omega
      have e1 : catl ls k = catl ls ls.length := by rw [ek]
      rw [e1]
      clear e1 ek
      obtain ⟨M, hM⟩ : ∃ M, (catl ls ls.length).length = M := ⟨_, rfl⟩
      rw [hM] at HG ⊢
      have HM := Lib.hid hM
      clear hM
      go_wp2_with (go_at_call 42; (with_reducible refine HG.out.mono ?_); rintro e w1 ⟨⟨c1, rfl, o1⟩, b1⟩; have O1 := Lib.hid o1; have B1 := Lib.hid b1; clear o1 b1)
      go_loopw [6, 27] (fun v i wr => ∃ j : Nat, j ≤ ls.length ∧ i = .int .i64 j ∧ wr.ownsRow w.heap.size 5 1 v (catl ls j).length (u8s (catl ls j)) ∧ Below w.heap.size w wr) (fun _ i _ => ls.length - (intOf i).toNat)
      case atStart => exact ⟨0, Nat.zero_le _, rfl, O1.out, B1.out⟩
      case round =>
        clear O1 B1
        obtain ⟨j, hj, rfl, hown, hbw⟩ := hrel
        obtain ⟨av, cv, rfl, hcv, hlv⟩ := own_form2 hown
        clear hcv hlv
        by_cases hlt : j < ls.length
        · have hk1 : (j : Int) < ls.length := by omega
          obtain ⟨q, c, ht, hqc, hc1, hq8, hql⟩ := HP.out.get j hlt
          have hkt : j < ts.length := by rw [HP.out.len]; exact hlt
          obtain ⟨b2, off, rfl, hbb, hcl⟩ := HR.out (by rw [slvs_length]; omega)
          have hcell : wr.cell? ⟨b2, off + j, none⟩ = some (.slice q ls[j].length c) := by
            have h1 := (hbw.cell (p := ⟨b2, off + j, none⟩) hbb).trans (hcl j _ (slvs_get ts j hkt))
            rw [ht] at h1
            exact h1
          have hs2 := HST.out j hlt
          have hb1 := HLE.out (j + 1)
          have hb2 := HL.out
          have hpos := HNE.out _ (List.getElem_mem hlt)
          rw [hs2, List.length_append] at hb1
          have HS2 := Lib.hid hs2
          obtain ⟨F, hF⟩ : ∃ F, catl ls j = F := ⟨_, rfl⟩
          obtain ⟨l, hl⟩ : ∃ l, ls[j] = l := ⟨_, rfl⟩
          rw [hF] at hown hb1 ⊢
          rw [hl] at hcell hb1 hpos
          have HQL := Lib.hid (hql.step hbw)
          rw [hl] at HQL
          have HFF := Lib.hid hF
          have HLL2 := Lib.hid hl
          have HOWN := Lib.hid hown
          have HBW := Lib.hid hbw
          have HUL : Hid ((u8s l).length = l.length) := Lib.hid (u8s_length l)
          have HPO : Hid (0 < l.length) := Lib.hid hpos
          have HU1 : Hid ((u8s l).all (·.oneCell') = true) := Lib.hid (u8s_one l)
          have HBG : Big (F.length + l.length ≤ 1099511627776) := ⟨by omega⟩
          have HSZ : Hid (w.heap.size ≤ wr.heap.size) := Lib.hid hbw.size
          have HOL : Hid (∀ j, (Value.slice av F.length cv).ownBlock = some j → w.heap.size ≤ j) := Lib.hid fun j hj => (HOWN.out.lt j hj).1
          clear hs2 hb1 hb2 hF hl hown hbw ht hqc hc1 hq8 hql hcl hbb hpos
          go_wp2_with ((with_reducible refine wpAppendK c HOWN.out Try.underlying22 one_byte HQL.out HUL.out HPO.out HU1.out HBG HSZ.out ?_ ?_); rfl; intro v1 w2 g1 g2 g3; have G1 := Lib.hid g1; have G2 := Lib.hid g2; clear g1 g2 g3)
          go_roundw
          case rel => exact ⟨j + 1, by omega, by go_num, by rw [HS2.out, HFF.out, HLL2.out, u8s_append, List.length_append]; exact G1.out, HBW.out.grown G2.out HBW.out.size HOL.out⟩
          case measure => simp [intOf]; omega
        · have ek : j = ls.length := by omega
          have e1 : catl ls j = catl ls ls.length := by rw [ek]
          rw [e1] at hown
          rw [e1]
          have hform : ∃ g c2, Value.slice av (catl ls ls.length).length cv = .slice (some ⟨g, 0, none⟩) (catl ls ls.length).length c2 ∧ w.heap.size ≤ g := by
            rcases hown.2 with ⟨_, h2⟩ | ⟨g', cap', cur, h2, h3, _⟩
            · have := HFL.out; omega
            · exact ⟨g', cap', h2, h3⟩
          obtain ⟨g, c2, hv, hg⟩ := hform
          have hM := HM.out
          rw [hM] at hv hown ⊢
          rw [hv] at hown ⊢
          have HOWN := Lib.hid hown
          have HBW := Lib.hid hbw
          clear hown hbw e1 ek hv hM
          go_wp2
          go_ret
          exact ⟨⟨g, c2, congrArg (fun m => Ending.returned (.slice (some ⟨g, 0, none⟩) m c2)) HM.out.symm, hg, by rw [HM.out]; exact HOWN.out⟩, HBW.out⟩

end Go.Proofs.Ytkcnmiaedcenoaa

/- The contract of rs's Parity. Generated by gen_rs_par.py. -/
namespace Go.Proofs.Ytkcnmiaedcenoaa
open Go.RowKit GfMath PolyMath RsMath
set_option linter.unusedVariables false

/-- A slice that reads as l. -/
def Rd (l : List Nat) : Value → World → Prop := fun v w => Reads w v l
theorem Rd.monot (l : List Nat) : Monot (Rd l) := fun _ _ _ h hb => Reads.step h hb
/-- Three answers, the second of which reads as l. -/
def Tp (l : List Nat) : Value → World → Prop := fun v w => ∃ x y, v = .tuple #[x, y, .bool true] ∧ Reads w y l
theorem Tp.monot (l : List Nat) : Monot (Tp l) := fun _ _ _ ⟨x, y, h, hr⟩ hb => ⟨x, y, h, Reads.step hr hb⟩
def Any : Value → World → Prop := fun _ _ => True
theorem Any.monot : Monot Any := fun _ _ _ _ _ => trivial

theorem copy_zero (a : Option Addr) (cap : Nat) (W : World) (x : Option Addr) (c : Nat) : (Builtin.copy_ #[22, 22] 3 #[.slice x 0 c, .slice a 0 cap]).run Try.prog W = .ok (.int .i64 0) W := by
  cases hq : Try.prog.info? 5 with
  | none => have := info_byte1; rw [hq] at this; cases this
  | some i => cases a <;> cases x <;> simp [Builtin.copy_, run_underlying Try.underlying22, Builtin.lenOf, Builtin.firstCells, sizeOf, typeInfo, hq, loadCells, loadCellsFrom, storeCells] <;> rfl
theorem par_nil (v : Value) (w : World) : Calls Try.prog 19 #[.pointer none, v] w fun e w' => e = .returned (.tuple #[.slice none 0 0, .int .i64 1]) ∧ w = w' := by
  have HN := Lib.hid (rs_none_nil w)
  go_enter Try.func19, Try.ntmps19
  go_wp2_with (go_at_call 41; (with_reducible refine HN.out.mono ?_); rintro e w1 ⟨rfl, rfl⟩)
  go_ret2
  exact ⟨rfl, rfl⟩
theorem par_bad (c b k p : Nat) (v : Value) (a : Option Addr) (n cap : Nat) (w : World) (h : Cor w c b k p v) (hn : n ≠ k) (hl : n ≤ 140737488355328) : Calls Try.prog 19 #[.pointer (some ⟨c, 0, none⟩), .slice a n cap] w fun e w' => e = .returned (.tuple #[.slice none 0 0, .int .i64 1]) ∧ w = w' := by
  have HN := Lib.hid (rs_none_any c b k p v w h)
  have h2 := h.c2
  have hne : ¬ (n : Int) = (k : Int) := by omega
  have hne2 : ((n : Int) != (k : Int)) = true := by simp; omega
  clear h
  go_enter Try.func19, Try.ntmps19
  go_wp2_with (go_at_call 41; (with_reducible refine HN.out.mono ?_); rintro e w1 ⟨rfl, rfl⟩)
  go_ret2
  exact ⟨rfl, rfl⟩

set_option maxRecDepth 100000 in
set_option maxHeartbeats 4000000 in
theorem par_some (c b k p : Nat) (a : Option Addr) (cap : Nat) (X : List Nat) (w : World) (h : Cod w c b k p) (hl : X.length = k) (hby : By X) (hcap : X.length ≤ cap) (hr : Lies w w.heap.size a (u8s X)) (hR0 : 0 < (rem X p).length) :
    Calls Try.prog 19 #[.pointer (some ⟨c, 0, none⟩), .slice a k cap] w fun e w' =>
      (∃ g, e = .returned (.tuple #[.slice (some ⟨g, 0, none⟩) p p, .int .i64 0]) ∧ w.heap.size ≤ g ∧ Row w' g 5 (u8s (parity X p))) ∧ Below w.heap.size w w' := by
  have HC := Lib.hid h
  obtain ⟨hk1, hp1, hn255, hp64, aR, capR, hcor, hcapR, hlR⟩ := h
  have HN := Lib.hid (rs_none_any c b k p _ w hcor)
  have HLT : Hid (c < w.heap.size) := Lib.hid hcor.lt
  have c1 := hcor.c1
  have c2 := hcor.c2
  have HF := Lib.hid hcor.2
  have H0 := Lib.hid hcor.c0
  have H3 := Lib.hid hcor.c3
  have hRl := rem_le X hby p
  have hR8 := rem_by X hby p
  have hsl := shl_le X p
  have hs8 := shl_by hby p
  obtain ⟨hg8, hgl, _⟩ := rt_all (exs p) (exs_by p)
  rw [exs_length] at hgl
  have hshn : shn (p : Int) = p := by unfold shn; omega
  have HSH : Hid (∀ wx, Below w.heap.size w wx → Calls Try.prog 38 #[.slice a k cap, .int .i64 (p : Int)] wx fun e w' => (∃ v, e = .returned v ∧ Reads w' v (shl X p)) ∧ Below wx.heap.size wx w') := Lib.hid fun wx hb => by
    have := shift_any a cap X (p : Int) wx (by omega) hcap (hr.step hb)
    rwa [hshn, hl] at this
  have HDV : Hid (∀ wx, Below w.heap.size w wx → ∀ a14 c14, (shl X p).length ≤ c14 → Lies wx wx.heap.size a14 (u8s (shl X p)) → Calls Try.prog 40 #[.pointer (some ⟨b, 0, none⟩), .slice a14 (shl X p).length c14, .slice aR (p + 1) capR] wx fun e w' => (∃ x y, e = .returned (.tuple #[x, y, .bool true]) ∧ Reads w' y (rem X p)) ∧ Below wx.heap.size wx w') := Lib.hid fun wx hb a14 c14 h1 h2 => by
    have := divmod_any b a14 aR c14 capR (shl X p) (rt (exs p)) wx (HF.out.step hb) hs8 hg8 (by omega) (by omega) h1 (by omega) (by rw [beh_rt]; omega) h2 (hlR.step hb)
    rw [hgl] at this
    exact this.mono fun e w' ⟨⟨v, v2, h1, _, h3⟩, h4⟩ => ⟨⟨v, v2, h1, h3⟩, h4⟩
  obtain ⟨S, hS⟩ : ∃ S, shl X p = S := ⟨_, rfl⟩
  rw [hS] at HSH HDV
  have HPA : Hid (parity X p = List.replicate (p - (rem X p).length) 0 ++ rem X p) := Lib.hid rfl
  obtain ⟨T, hT⟩ : ∃ T, parity X p = T := ⟨_, rfl⟩
  rw [hT] at HPA ⊢
  obtain ⟨R, hR⟩ : ∃ R, rem X p = R := ⟨_, rfl⟩
  rw [hR] at HDV HPA hRl hR8 hR0
  obtain ⟨n, hnn⟩ : ∃ n, k + p = n := ⟨_, rfl⟩
  rw [hnn] at c1
  have H1 := Lib.hid c1
  have H2 := Lib.hid c2
  obtain ⟨z, hz⟩ : ∃ z, p - R.length = z := ⟨_, rfl⟩
  have hsub : (n : Int) - (k : Int) = (p : Int) := by omega
  have hsub2 : (p : Int) - (R.length : Int) = (z : Int) := by omega
  have hzb : (z : Int) ≤ (p : Int) := by omega
  have hzb2 : (z : Int) < (p : Int) := by omega
  have hzn : z < p := by omega
  have hpz : p - z = R.length := by omega
  have hz0 : 0 ≤ (z : Int) := by omega
  have hpb : (p : Int) ≤ 64 := by omega
  have hp0 : 0 ≤ (p : Int) := by omega
  have hpw : IntKind.i64.wrap (p : Int) = (p : Int) := by rw [IntKind.wrap_i64]; omega
  have hkb : (k : Int) ≤ 255 := by omega
  have hnb : (n : Int) ≤ 255 := by omega
  have h1' := H1.out
  have h2' := H2.out
  have HI8 : Hid ((Try.prog.info? 5).map (fun i => (i.zero, i.size, i.bytes)) = some (some (.int .u8 0), 1, 8) ∨ (Try.prog.info? 5).map (fun i => (i.zero, i.size, i.bytes)) = some (some (.int .u8 0), 1, 1)) := Lib.hid (Or.inr info_byte)
  have HLL : Hid (p ≤ p) := Lib.hid (Nat.le_refl _)
  have HLM0 : Hid (p ≤ 1099511627776) := Lib.hid (by omega)
  have HZC : Hid ((Value.int .u8 0).cells = #[.int .u8 0]) := Lib.hid rfl
  have HSP : Hid (∀ (u : World) (g : Nat), Row u g 5 (List.replicate p (.int .u8 0)) → Row u g 5 (List.replicate z (.int .u8 0) ++ List.replicate R.length (.int .u8 0) ++ [])) := Lib.hid fun u g h => by
    rw [List.append_nil, List.replicate_append_replicate, show z + R.length = p by omega]; exact h
  have HZL : Hid ((List.replicate z (Value.int .u8 0)).length = z) := Lib.hid List.length_replicate
  have HU : Hid ((u8s R).length = R.length) := Lib.hid (u8s_length R)
  have HM0 : Hid (0 < R.length) := Lib.hid hR0
  have HLR : Hid (R.length ≤ R.length) := Lib.hid (Nat.le_refl _)
  have HRP : Hid ((List.replicate R.length (Value.int .u8 0)).length = R.length) := Lib.hid List.length_replicate
  have HU1 : Hid ((u8s R).all (·.oneCell') = true) := Lib.hid (u8s_one R)
  have HPR : Hid (∀ (u : World) (g : Nat), Row u g 5 (List.replicate z (.int .u8 0) ++ u8s R ++ []) → Row u g 5 (u8s T)) := Lib.hid fun u g h => by
    rw [HPA.out, hz, u8s_append, u8s_zero]
    rwa [List.append_nil] at h
  clear hcor hr hlR hs8 hg8 hS hT hR hnn hby hR8 hsl hgl hshn hz hRl HPA hcap hcapR hl hk1 hp1 hn255
  go_enter Try.func19, Try.ntmps19
  go_wp2_with (go_at_call 41; (with_reducible refine HN.out.mono ?_); rintro e w1 ⟨rfl, rfl⟩)
  refine region_invX [(0, 22), (1, 23), (2, 24), (3, 25), (4, 26), (5, 27), (6, 28), (7, 29), (8, 30), (9, 31), (10, 32), (11, 33), (12, 34), (13, 35), (14, 36), (15, 37), (16, 38), (17, 39), (18, 40), (19, 41), (20, 21), (21, 42), (22, 43), (23, 44), (24, 6), (25, 7), (26, 8)]
    (fun i => [Is (.pointer (some ⟨c, 0, none⟩)), Is (.pointer (some ⟨c, 0, none⟩)), Is (.pointer (some ⟨c, 0, none⟩)), Is (.pointer (some ⟨b, 0, none⟩)), Is (.slice a k cap), Is (.pointer (some ⟨c, 0, none⟩)), Is (.pointer (some ⟨c, 0, none⟩)), Is (.pointer (some ⟨c, 1, none⟩)), Is (.int .i64 (n : Int)), Is (.pointer (some ⟨c, 0, none⟩)), Is (.pointer (some ⟨c, 0, none⟩)), Is (.pointer (some ⟨c, 2, none⟩)), Is (.int .i64 (k : Int)), Is (.int .i64 (p : Int)), Rd S, Is (.pointer (some ⟨c, 0, none⟩)), Is (.pointer (some ⟨c, 0, none⟩)), Is (.pointer (some ⟨c, 3, none⟩)), Is (.slice aR (p + 1) capR), Tp R, Tp R, Any, Rd R, Is (.bool true), Any, Rd R, Is (.bool true)].getD i (Is undef))
    (fun w' => Below w.heap.size w w') (by kernel_rfl) (by kernel_rfl) (by decide) (by decide) (by kernel_rfl) rfl ?mono ((Below.refl _ _).drew) ?step ?fin
  case mono =>
    intro i
    match i with
    | 0 | 1 | 2 | 3 | 4 | 5 | 6 | 7 | 8 | 9 | 10 | 11 | 12 | 13 | 15 | 16 | 17 | 18 | 23 | 26 => exact Is.monot _
    | 14 | 22 | 25 => exact Rd.monot _
    | 19 | 20 => exact Tp.monot _
    | 21 | 24 => exact Any.monot
    | _ + 27 => exact Is.monot _
  case step =>
    refine List.forall_mem_cons.2 ⟨?s0, List.forall_mem_cons.2 ⟨?s1, List.forall_mem_cons.2 ⟨?s2, List.forall_mem_cons.2 ⟨?s3, List.forall_mem_cons.2 ⟨?s4, List.forall_mem_cons.2 ⟨?s5, List.forall_mem_cons.2 ⟨?s6, List.forall_mem_cons.2 ⟨?s7, List.forall_mem_cons.2 ⟨?s8, List.forall_mem_cons.2 ⟨?s9, List.forall_mem_cons.2 ⟨?s10, List.forall_mem_cons.2 ⟨?s11, List.forall_mem_cons.2 ⟨?s12, List.forall_mem_cons.2 ⟨?s13, List.forall_mem_cons.2 ⟨?s14, List.forall_mem_cons.2 ⟨?s15, List.forall_mem_cons.2 ⟨?s16, List.forall_mem_cons.2 ⟨?s17, List.forall_mem_cons.2 ⟨?s18, List.forall_mem_cons.2 ⟨?s19, List.forall_mem_cons.2 ⟨?s20, List.forall_mem_cons.2 ⟨?s21, List.forall_mem_cons.2 ⟨?s22, List.forall_mem_cons.2 ⟨?s23, List.forall_mem_cons.2 ⟨?s24, List.forall_mem_cons.2 ⟨?s25, List.forall_mem_cons.2 ⟨?s26, List.forall_mem_nil _⟩⟩⟩⟩⟩⟩⟩⟩⟩⟩⟩⟩⟩⟩⟩⟩⟩⟩⟩⟩⟩⟩⟩⟩⟩⟩⟩
    case s1 =>
      intro u wx hg hC
      have hJ0 : u 0 = (.pointer (some ⟨c, 0, none⟩)) := hC.at 0 (by kernel_rfl)
      clear hC
      refine wpOp_step rfl (fun K hK => ?_)
      simp only [puts, List.foldl]
      go_simp
      exact hK _ _ ⟨rfl, rfl, hg, Below.refl _ _⟩
    case s2 =>
      intro u wx hg hC
      have hJ1 : u 1 = (.pointer (some ⟨c, 0, none⟩)) := hC.at 1 (by kernel_rfl)
      clear hC
      refine wpOp_step rfl (fun K hK => ?_)
      simp only [puts, List.foldl]
      go_simp
      exact hK _ _ ⟨rfl, rfl, hg, Below.refl _ _⟩
    case s3 =>
      intro u wx hg hC
      have hJ : u 2 = (.pointer (some ⟨c, 0, none⟩)) := hC.at 2 (by kernel_rfl)
      clear hC
      have hcl : wx.cell? ⟨c, 0, none⟩ = some (.pointer (some ⟨b, 0, none⟩)) := (hg.cell (p := ⟨c, 0, none⟩) HLT.out).trans H0.out
      refine wpOp_step rfl (fun K hK => ?_)
      simp only [puts, List.foldl]
      go_simp
      exact hK _ _ ⟨rfl, rfl, hg, Below.refl _ _⟩
    case s6 =>
      intro u wx hg hC
      have hJ5 : u 5 = (.pointer (some ⟨c, 0, none⟩)) := hC.at 5 (by kernel_rfl)
      clear hC
      refine wpOp_step rfl (fun K hK => ?_)
      simp only [puts, List.foldl]
      go_simp
      exact hK _ _ ⟨rfl, rfl, hg, Below.refl _ _⟩
    case s7 =>
      intro u wx hg hC
      have hJ6 : u 6 = (.pointer (some ⟨c, 0, none⟩)) := hC.at 6 (by kernel_rfl)
      clear hC
      refine wpOp_step rfl (fun K hK => ?_)
      simp only [puts, List.foldl]
      go_simp
      exact hK _ _ ⟨rfl, rfl, hg, Below.refl _ _⟩
    case s8 =>
      intro u wx hg hC
      have hJ : u 7 = (.pointer (some ⟨c, 1, none⟩)) := hC.at 7 (by kernel_rfl)
      clear hC
      have hcl : wx.cell? ⟨c, 1, none⟩ = some (.int .i64 (n : Int)) := (hg.cell (p := ⟨c, 1, none⟩) HLT.out).trans H1.out
      refine wpOp_step rfl (fun K hK => ?_)
      simp only [puts, List.foldl]
      go_simp
      exact hK _ _ ⟨rfl, rfl, hg, Below.refl _ _⟩
    case s10 =>
      intro u wx hg hC
      have hJ9 : u 9 = (.pointer (some ⟨c, 0, none⟩)) := hC.at 9 (by kernel_rfl)
      clear hC
      refine wpOp_step rfl (fun K hK => ?_)
      simp only [puts, List.foldl]
      go_simp
      exact hK _ _ ⟨rfl, rfl, hg, Below.refl _ _⟩
    case s11 =>
      intro u wx hg hC
      have hJ10 : u 10 = (.pointer (some ⟨c, 0, none⟩)) := hC.at 10 (by kernel_rfl)
      clear hC
      refine wpOp_step rfl (fun K hK => ?_)
      simp only [puts, List.foldl]
      go_simp
      exact hK _ _ ⟨rfl, rfl, hg, Below.refl _ _⟩
    case s12 =>
      intro u wx hg hC
      have hJ : u 11 = (.pointer (some ⟨c, 2, none⟩)) := hC.at 11 (by kernel_rfl)
      clear hC
      have hcl : wx.cell? ⟨c, 2, none⟩ = some (.int .i64 (k : Int)) := (hg.cell (p := ⟨c, 2, none⟩) HLT.out).trans H2.out
      refine wpOp_step rfl (fun K hK => ?_)
      simp only [puts, List.foldl]
      go_simp
      exact hK _ _ ⟨rfl, rfl, hg, Below.refl _ _⟩
    case s13 =>
      intro u wx hg hC
      have hJ8 : u 8 = (.int .i64 (n : Int)) := hC.at 8 (by kernel_rfl)
      have hJ12 : u 12 = (.int .i64 (k : Int)) := hC.at 12 (by kernel_rfl)
      clear hC
      refine wpOp_step rfl (fun K hK => ?_)
      simp only [puts, List.foldl]
      go_simp
      exact hK _ _ ⟨rfl, rfl, hg, Below.refl _ _⟩
    case s14 =>
      intro u wx hg hC
      have hJ4 : u 4 = (.slice a k cap) := hC.at 4 (by kernel_rfl)
      have hJ13 : u 13 = (.int .i64 (p : Int)) := hC.at 13 (by kernel_rfl)
      clear hC
      refine wpOp_step rfl (fun K hK => ?_)
      simp only [puts, List.foldl]
      go_simp
      refine (HSH.out wx hg).mono ?_
      rintro e w' ⟨⟨v, rfl, hv⟩, hb'⟩
      exact hK _ _ ⟨rfl, hv, hg.next hb', hb'⟩
    case s16 =>
      intro u wx hg hC
      have hJ15 : u 15 = (.pointer (some ⟨c, 0, none⟩)) := hC.at 15 (by kernel_rfl)
      clear hC
      refine wpOp_step rfl (fun K hK => ?_)
      simp only [puts, List.foldl]
      go_simp
      exact hK _ _ ⟨rfl, rfl, hg, Below.refl _ _⟩
    case s17 =>
      intro u wx hg hC
      have hJ16 : u 16 = (.pointer (some ⟨c, 0, none⟩)) := hC.at 16 (by kernel_rfl)
      clear hC
      refine wpOp_step rfl (fun K hK => ?_)
      simp only [puts, List.foldl]
      go_simp
      exact hK _ _ ⟨rfl, rfl, hg, Below.refl _ _⟩
    case s18 =>
      intro u wx hg hC
      have hJ : u 17 = (.pointer (some ⟨c, 3, none⟩)) := hC.at 17 (by kernel_rfl)
      clear hC
      have hcl : wx.cell? ⟨c, 3, none⟩ = some (.slice aR (p + 1) capR) := (hg.cell (p := ⟨c, 3, none⟩) HLT.out).trans H3.out
      refine wpOp_step rfl (fun K hK => ?_)
      simp only [puts, List.foldl]
      go_simp
      exact hK _ _ ⟨rfl, rfl, hg, Below.refl _ _⟩
    case s19 =>
      intro u wx hg hC
      have hJ3 : u 3 = (.pointer (some ⟨b, 0, none⟩)) := hC.at 3 (by kernel_rfl)
      obtain ⟨a14, c14, e14, h14c, h14⟩ : Rd S (u 14) wx := hC.at 14 (by kernel_rfl)
      have hJ18 : u 18 = (.slice aR (p + 1) capR) := hC.at 18 (by kernel_rfl)
      clear hC
      refine wpOp_step rfl (fun K hK => ?_)
      simp only [puts, List.foldl]
      go_simp
      refine (HDV.out wx hg a14 c14 h14c h14).mono ?_
      rintro e w' ⟨⟨x, y, rfl, hy⟩, hb'⟩
      exact hK _ _ ⟨rfl, ⟨x, y, rfl, hy⟩, hg.next hb', hb'⟩
    case s20 =>
      intro u wx hg hC
      obtain ⟨x, y, e19, h19⟩ : Tp R (u 19) wx := hC.at 19 (by kernel_rfl)
      clear hC
      refine wpOp_step rfl (fun K hK => ?_)
      simp only [puts, List.foldl]
      go_simp
      exact hK _ _ ⟨rfl, ⟨x, y, rfl, h19⟩, hg, Below.refl _ _⟩
    case s21 =>
      intro u wx hg hC
      obtain ⟨x, y, e20, h20⟩ : Tp R (u 20) wx := hC.at 20 (by kernel_rfl)
      clear hC
      refine wpOp_step rfl (fun K hK => ?_)
      simp only [puts, List.foldl]
      go_simp
      exact hK _ _ ⟨rfl, trivial, hg, Below.refl _ _⟩
    case s22 =>
      intro u wx hg hC
      obtain ⟨x, y, e20, h20⟩ : Tp R (u 20) wx := hC.at 20 (by kernel_rfl)
      clear hC
      refine wpOp_step rfl (fun K hK => ?_)
      simp only [puts, List.foldl]
      go_simp
      exact hK _ _ ⟨rfl, h20, hg, Below.refl _ _⟩
    case s23 =>
      intro u wx hg hC
      obtain ⟨x, y, e20, h20⟩ : Tp R (u 20) wx := hC.at 20 (by kernel_rfl)
      clear hC
      refine wpOp_step rfl (fun K hK => ?_)
      simp only [puts, List.foldl]
      go_simp
      exact hK _ _ ⟨rfl, rfl, hg, Below.refl _ _⟩
    case s24 =>
      intro u wx hg hC
      clear hC
      refine wpOp_step rfl (fun K hK => ?_)
      simp only [puts, List.foldl]
      go_simp
      exact hK _ _ ⟨rfl, trivial, hg, Below.refl _ _⟩
    case s25 =>
      intro u wx hg hC
      have h22 : Rd R (u 22) wx := hC.at 22 (by kernel_rfl)
      clear hC
      refine wpOp_step rfl (fun K hK => ?_)
      simp only [puts, List.foldl]
      go_simp
      exact hK _ _ ⟨rfl, h22, hg, Below.refl _ _⟩
    case s26 =>
      intro u wx hg hC
      have hJ23 : u 23 = .bool true := hC.at 23 (by kernel_rfl)
      clear hC
      refine wpOp_step rfl (fun K hK => ?_)
      simp only [puts, List.foldl]
      go_simp
      exact hK _ _ ⟨rfl, rfl, hg, Below.refl _ _⟩
    all_goals
      intro u wx hg hC
      clear hC
      refine wpOp_step rfl (fun K hK => ?_)
      simp only [puts, List.foldl]
      go_simp
      refine hK _ _ ?_
      clear hK K
      first
        | (refine ⟨rfl, ?_, hg, Below.refl _ _⟩; rfl)
        | (refine ⟨rfl, ?_, hg.alloc hg.size _, alloc_below _ _⟩; exact ⟨wx.heap.size, rfl, Lies.new [_] _ _⟩)
        | (refine ⟨rfl, ?_, hg.alloc hg.size _, alloc_below _ _⟩; exact ⟨wx.heap.size, rfl, Lies.new [_, _] _ _⟩)
  case fin =>
    intro u w2 hbw2 hφ
    obtain ⟨aq, cq, e25, hcq, hlq⟩ : Rd R (u 25) w2 := hφ (25, 7) (by decide)
    clear hφ
    simp only [puts, List.foldl]
    go_simp
    have q1 : w2.cell? ⟨c, 1, none⟩ = some (.int .i64 (n : Int)) := (hbw2.cell (p := ⟨c, 1, none⟩) HLT.out).trans H1.out
    have q2 : w2.cell? ⟨c, 2, none⟩ = some (.int .i64 (k : Int)) := (hbw2.cell (p := ⟨c, 2, none⟩) HLT.out).trans H2.out
    have B2 := Lib.hid hbw2
    have HLQ := Lib.hid hlq
    have HC2 := Lib.hid (HC.out.step hbw2)
    clear hbw2 hlq e25 h1' h2' c1 c2
    go_wp2
    go_still_tail 9, (by kernel_rfl)
    change wpList _ _ _ _ _ w2.drew
    have B3 : Hid (Below w.heap.size w w2.drew) := Lib.hid B2.out.drew
    have HL3 : Hid (Lies w2.drew w2.drew.heap.size aq (u8s R)) := Lib.hid HLQ.out
    clear B2 HLQ HC2
    generalize w2.drew = w3 at *
    go_wp2_with (first
      | ((with_reducible refine wpMakeK 22 5 (.int .u8 0) p p Try.underlying22 HI8.out HZC.out HLL.out HLM0.out ?_ ?_); rfl; intro w4 r4 b4 s4; have R4 := Lib.hid (HSP.out w4 w3.heap.size r4); have B4 := Lib.hid (B3.out.next b4); have HL4 := Lib.hid (HL3.out.step b4); have HG4 : Hid (w.heap.size ≤ w3.heap.size) := Lib.hid B3.out.size; clear r4 b4 s4)
      | ((with_reducible refine R4.out.wpCopyLK (i := z) (dLen := R.length) (m := R.length) HZL.out 22 R.length cq Try.underlying22 one_byte HL4.out HU.out HM0.out HLR.out HRP.out HU1.out ?_ ?_); rfl; intro w5 r5 o5 s5; have R5 := Lib.hid r5; have B5 := Lib.hid (B4.out.trans (o5.below HG4.out B4.out.size)); clear r5 o5 s5))
    go_ret2
    exact ⟨⟨_, rfl, HG4.out, HPR.out _ _ R5.out⟩, B5.out⟩

set_option maxRecDepth 100000 in
set_option maxHeartbeats 4000000 in
theorem par_none (c b k p : Nat) (a : Option Addr) (cap : Nat) (X : List Nat) (w : World) (h : Cod w c b k p) (hl : X.length = k) (hby : By X) (hcap : X.length ≤ cap) (hr : Lies w w.heap.size a (u8s X)) (hR0 : (rem X p).length = 0) :
    Calls Try.prog 19 #[.pointer (some ⟨c, 0, none⟩), .slice a k cap] w fun e w' =>
      (∃ g, e = .returned (.tuple #[.slice (some ⟨g, 0, none⟩) p p, .int .i64 0]) ∧ w.heap.size ≤ g ∧ Row w' g 5 (u8s (parity X p))) ∧ Below w.heap.size w w' := by
  have HC := Lib.hid h
  obtain ⟨hk1, hp1, hn255, hp64, aR, capR, hcor, hcapR, hlR⟩ := h
  have HN := Lib.hid (rs_none_any c b k p _ w hcor)
  have HLT : Hid (c < w.heap.size) := Lib.hid hcor.lt
  have c1 := hcor.c1
  have c2 := hcor.c2
  have HF := Lib.hid hcor.2
  have H0 := Lib.hid hcor.c0
  have H3 := Lib.hid hcor.c3
  have hRl := rem_le X hby p
  have hR8 := rem_by X hby p
  have hsl := shl_le X p
  have hs8 := shl_by hby p
  obtain ⟨hg8, hgl, _⟩ := rt_all (exs p) (exs_by p)
  rw [exs_length] at hgl
  have hshn : shn (p : Int) = p := by unfold shn; omega
  have HSH : Hid (∀ wx, Below w.heap.size w wx → Calls Try.prog 38 #[.slice a k cap, .int .i64 (p : Int)] wx fun e w' => (∃ v, e = .returned v ∧ Reads w' v (shl X p)) ∧ Below wx.heap.size wx w') := Lib.hid fun wx hb => by
    have := shift_any a cap X (p : Int) wx (by omega) hcap (hr.step hb)
    rwa [hshn, hl] at this
  have HDV : Hid (∀ wx, Below w.heap.size w wx → ∀ a14 c14, (shl X p).length ≤ c14 → Lies wx wx.heap.size a14 (u8s (shl X p)) → Calls Try.prog 40 #[.pointer (some ⟨b, 0, none⟩), .slice a14 (shl X p).length c14, .slice aR (p + 1) capR] wx fun e w' => (∃ x y, e = .returned (.tuple #[x, y, .bool true]) ∧ Reads w' y (rem X p)) ∧ Below wx.heap.size wx w') := Lib.hid fun wx hb a14 c14 h1 h2 => by
    have := divmod_any b a14 aR c14 capR (shl X p) (rt (exs p)) wx (HF.out.step hb) hs8 hg8 (by omega) (by omega) h1 (by omega) (by rw [beh_rt]; omega) h2 (hlR.step hb)
    rw [hgl] at this
    exact this.mono fun e w' ⟨⟨v, v2, h1, _, h3⟩, h4⟩ => ⟨⟨v, v2, h1, h3⟩, h4⟩
  obtain ⟨S, hS⟩ : ∃ S, shl X p = S := ⟨_, rfl⟩
  rw [hS] at HSH HDV
  have HPA : Hid (parity X p = List.replicate (p - (rem X p).length) 0 ++ rem X p) := Lib.hid rfl
  obtain ⟨T, hT⟩ : ∃ T, parity X p = T := ⟨_, rfl⟩
  rw [hT] at HPA ⊢
  obtain ⟨R, hR⟩ : ∃ R, rem X p = R := ⟨_, rfl⟩
  rw [hR] at HDV HPA hRl hR8 hR0
  obtain ⟨n, hnn⟩ : ∃ n, k + p = n := ⟨_, rfl⟩
  rw [hnn] at c1
  have H1 := Lib.hid c1
  have H2 := Lib.hid c2
  have hR1 : R = [] := List.eq_nil_of_length_eq_zero hR0
  subst hR1
  obtain ⟨z, hz⟩ : ∃ z, p - ([] : List Nat).length = z := ⟨_, rfl⟩
  simp only [List.length_nil] at hz
  have hsub : (n : Int) - (k : Int) = (p : Int) := by omega
  have hsub2 : (p : Int) - (0 : Int) = (z : Int) := by omega
  have hzb : (z : Int) ≤ (p : Int) := by omega
  have hzp : z = p := by omega
  have hpz : p - z = 0 := by omega
  have hz0 : 0 ≤ (z : Int) := by omega
  have hpb : (p : Int) ≤ 64 := by omega
  have hp0 : 0 ≤ (p : Int) := by omega
  have hpw : IntKind.i64.wrap (p : Int) = (p : Int) := by rw [IntKind.wrap_i64]; omega
  have hkb : (k : Int) ≤ 255 := by omega
  have hnb : (n : Int) ≤ 255 := by omega
  have h1' := H1.out
  have h2' := H2.out
  have HI8 : Hid ((Try.prog.info? 5).map (fun i => (i.zero, i.size, i.bytes)) = some (some (.int .u8 0), 1, 8) ∨ (Try.prog.info? 5).map (fun i => (i.zero, i.size, i.bytes)) = some (some (.int .u8 0), 1, 1)) := Lib.hid (Or.inr info_byte)
  have HLL : Hid (p ≤ p) := Lib.hid (Nat.le_refl _)
  have HLM0 : Hid (p ≤ 1099511627776) := Lib.hid (by omega)
  have HZC : Hid ((Value.int .u8 0).cells = #[.int .u8 0]) := Lib.hid rfl
  have HPR : Hid (∀ (u : World) (g : Nat), Row u g 5 (List.replicate p (.int .u8 0)) → Row u g 5 (u8s T)) := Lib.hid fun u g h => by
    rw [HPA.out, List.append_nil, u8s_zero, List.length_nil, Nat.sub_zero]
    exact h
  clear hcor hr hlR hs8 hg8 hS hT hR hnn hR0 hby hR8 hsl hgl hshn hz hRl HPA hcap hcapR hl hk1 hp1 hn255
  go_enter Try.func19, Try.ntmps19
  go_wp2_with (go_at_call 41; (with_reducible refine HN.out.mono ?_); rintro e w1 ⟨rfl, rfl⟩)
  refine region_invX [(0, 22), (1, 23), (2, 24), (3, 25), (4, 26), (5, 27), (6, 28), (7, 29), (8, 30), (9, 31), (10, 32), (11, 33), (12, 34), (13, 35), (14, 36), (15, 37), (16, 38), (17, 39), (18, 40), (19, 41), (20, 21), (21, 42), (22, 43), (23, 44), (24, 6), (25, 7), (26, 8)]
    (fun i => [Is (.pointer (some ⟨c, 0, none⟩)), Is (.pointer (some ⟨c, 0, none⟩)), Is (.pointer (some ⟨c, 0, none⟩)), Is (.pointer (some ⟨b, 0, none⟩)), Is (.slice a k cap), Is (.pointer (some ⟨c, 0, none⟩)), Is (.pointer (some ⟨c, 0, none⟩)), Is (.pointer (some ⟨c, 1, none⟩)), Is (.int .i64 (n : Int)), Is (.pointer (some ⟨c, 0, none⟩)), Is (.pointer (some ⟨c, 0, none⟩)), Is (.pointer (some ⟨c, 2, none⟩)), Is (.int .i64 (k : Int)), Is (.int .i64 (p : Int)), Rd S, Is (.pointer (some ⟨c, 0, none⟩)), Is (.pointer (some ⟨c, 0, none⟩)), Is (.pointer (some ⟨c, 3, none⟩)), Is (.slice aR (p + 1) capR), Tp [], Tp [], Any, Rd [], Is (.bool true), Any, Rd [], Is (.bool true)].getD i (Is undef))
    (fun w' => Below w.heap.size w w') (by kernel_rfl) (by kernel_rfl) (by decide) (by decide) (by kernel_rfl) rfl ?mono ((Below.refl _ _).drew) ?step ?fin
  case mono =>
    intro i
    match i with
    | 0 | 1 | 2 | 3 | 4 | 5 | 6 | 7 | 8 | 9 | 10 | 11 | 12 | 13 | 15 | 16 | 17 | 18 | 23 | 26 => exact Is.monot _
    | 14 | 22 | 25 => exact Rd.monot _
    | 19 | 20 => exact Tp.monot _
    | 21 | 24 => exact Any.monot
    | _ + 27 => exact Is.monot _
  case step =>
    refine List.forall_mem_cons.2 ⟨?s0, List.forall_mem_cons.2 ⟨?s1, List.forall_mem_cons.2 ⟨?s2, List.forall_mem_cons.2 ⟨?s3, List.forall_mem_cons.2 ⟨?s4, List.forall_mem_cons.2 ⟨?s5, List.forall_mem_cons.2 ⟨?s6, List.forall_mem_cons.2 ⟨?s7, List.forall_mem_cons.2 ⟨?s8, List.forall_mem_cons.2 ⟨?s9, List.forall_mem_cons.2 ⟨?s10, List.forall_mem_cons.2 ⟨?s11, List.forall_mem_cons.2 ⟨?s12, List.forall_mem_cons.2 ⟨?s13, List.forall_mem_cons.2 ⟨?s14, List.forall_mem_cons.2 ⟨?s15, List.forall_mem_cons.2 ⟨?s16, List.forall_mem_cons.2 ⟨?s17, List.forall_mem_cons.2 ⟨?s18, List.forall_mem_cons.2 ⟨?s19, List.forall_mem_cons.2 ⟨?s20, List.forall_mem_cons.2 ⟨?s21, List.forall_mem_cons.2 ⟨?s22, List.forall_mem_cons.2 ⟨?s23, List.forall_mem_cons.2 ⟨?s24, List.forall_mem_cons.2 ⟨?s25, List.forall_mem_cons.2 ⟨?s26, List.forall_mem_nil _⟩⟩⟩⟩⟩⟩⟩⟩⟩⟩⟩⟩⟩⟩⟩⟩⟩⟩⟩⟩⟩⟩⟩⟩⟩⟩⟩
    case s1 =>
      intro u wx hg hC
      have hJ0 : u 0 = (.pointer (some ⟨c, 0, none⟩)) := hC.at 0 (by kernel_rfl)
      clear hC
      refine wpOp_step rfl (fun K hK => ?_)
      simp only [puts, List.foldl]
      go_simp
      exact hK _ _ ⟨rfl, rfl, hg, Below.refl _ _⟩
    case s2 =>
      intro u wx hg hC
      have hJ1 : u 1 = (.pointer (some ⟨c, 0, none⟩)) := hC.at 1 (by kernel_rfl)
      clear hC
      refine wpOp_step rfl (fun K hK => ?_)
      simp only [puts, List.foldl]
      go_simp
      exact hK _ _ ⟨rfl, rfl, hg, Below.refl _ _⟩
    case s3 =>
      intro u wx hg hC
      have hJ : u 2 = (.pointer (some ⟨c, 0, none⟩)) := hC.at 2 (by kernel_rfl)
      clear hC
      have hcl : wx.cell? ⟨c, 0, none⟩ = some (.pointer (some ⟨b, 0, none⟩)) := (hg.cell (p := ⟨c, 0, none⟩) HLT.out).trans H0.out
      refine wpOp_step rfl (fun K hK => ?_)
      simp only [puts, List.foldl]
      go_simp
      exact hK _ _ ⟨rfl, rfl, hg, Below.refl _ _⟩
    case s6 =>
      intro u wx hg hC
      have hJ5 : u 5 = (.pointer (some ⟨c, 0, none⟩)) := hC.at 5 (by kernel_rfl)
      clear hC
      refine wpOp_step rfl (fun K hK => ?_)
      simp only [puts, List.foldl]
      go_simp
      exact hK _ _ ⟨rfl, rfl, hg, Below.refl _ _⟩
    case s7 =>
      intro u wx hg hC
      have hJ6 : u 6 = (.pointer (some ⟨c, 0, none⟩)) := hC.at 6 (by kernel_rfl)
      clear hC
      refine wpOp_step rfl (fun K hK => ?_)
      simp only [puts, List.foldl]
      go_simp
      exact hK _ _ ⟨rfl, rfl, hg, Below.refl _ _⟩
    case s8 =>
      intro u wx hg hC
      have hJ : u 7 = (.pointer (some ⟨c, 1, none⟩)) := hC.at 7 (by kernel_rfl)
      clear hC
      have hcl : wx.cell? ⟨c, 1, none⟩ = some (.int .i64 (n : Int)) := (hg.cell (p := ⟨c, 1, none⟩) HLT.out).trans H1.out
      refine wpOp_step rfl (fun K hK => ?_)
      simp only [puts, List.foldl]
      go_simp
      exact hK _ _ ⟨rfl, rfl, hg, Below.refl _ _⟩
    case s10 =>
      intro u wx hg hC
      have hJ9 : u 9 = (.pointer (some ⟨c, 0, none⟩)) := hC.at 9 (by kernel_rfl)
      clear hC
      refine wpOp_step rfl (fun K hK => ?_)
      simp only [puts, List.foldl]
      go_simp
      exact hK _ _ ⟨rfl, rfl, hg, Below.refl _ _⟩
    case s11 =>
      intro u wx hg hC
      have hJ10 : u 10 = (.pointer (some ⟨c, 0, none⟩)) := hC.at 10 (by kernel_rfl)
      clear hC
      refine wpOp_step rfl (fun K hK => ?_)
      simp only [puts, List.foldl]
      go_simp
      exact hK _ _ ⟨rfl, rfl, hg, Below.refl _ _⟩
    case s12 =>
      intro u wx hg hC
      have hJ : u 11 = (.pointer (some ⟨c, 2, none⟩)) := hC.at 11 (by kernel_rfl)
      clear hC
      have hcl : wx.cell? ⟨c, 2, none⟩ = some (.int .i64 (k : Int)) := (hg.cell (p := ⟨c, 2, none⟩) HLT.out).trans H2.out
      refine wpOp_step rfl (fun K hK => ?_)
      simp only [puts, List.foldl]
      go_simp
      exact hK _ _ ⟨rfl, rfl, hg, Below.refl _ _⟩
    case s13 =>
      intro u wx hg hC
      have hJ8 : u 8 = (.int .i64 (n : Int)) := hC.at 8 (by kernel_rfl)
      have hJ12 : u 12 = (.int .i64 (k : Int)) := hC.at 12 (by kernel_rfl)
      clear hC
      refine wpOp_step rfl (fun K hK => ?_)
      simp only [puts, List.foldl]
      go_simp
      exact hK _ _ ⟨rfl, rfl, hg, Below.refl _ _⟩
    case s14 =>
      intro u wx hg hC
      have hJ4 : u 4 = (.slice a k cap) := hC.at 4 (by kernel_rfl)
      have hJ13 : u 13 = (.int .i64 (p : Int)) := hC.at 13 (by kernel_rfl)
      clear hC
      refine wpOp_step rfl (fun K hK => ?_)
      simp only [puts, List.foldl]
      go_simp
      refine (HSH.out wx hg).mono ?_
      rintro e w' ⟨⟨v, rfl, hv⟩, hb'⟩
      exact hK _ _ ⟨rfl, hv, hg.next hb', hb'⟩
    case s16 =>
      intro u wx hg hC
      have hJ15 : u 15 = (.pointer (some ⟨c, 0, none⟩)) := hC.at 15 (by kernel_rfl)
      clear hC
      refine wpOp_step rfl (fun K hK => ?_)
      simp only [puts, List.foldl]
      go_simp
      exact hK _ _ ⟨rfl, rfl, hg, Below.refl _ _⟩
    case s17 =>
      intro u wx hg hC
      have hJ16 : u 16 = (.pointer (some ⟨c, 0, none⟩)) := hC.at 16 (by kernel_rfl)
      clear hC
      refine wpOp_step rfl (fun K hK => ?_)
      simp only [puts, List.foldl]
      go_simp
      exact hK _ _ ⟨rfl, rfl, hg, Below.refl _ _⟩
    case s18 =>
      intro u wx hg hC
      have hJ : u 17 = (.pointer (some ⟨c, 3, none⟩)) := hC.at 17 (by kernel_rfl)
      clear hC
      have hcl : wx.cell? ⟨c, 3, none⟩ = some (.slice aR (p + 1) capR) := (hg.cell (p := ⟨c, 3, none⟩) HLT.out).trans H3.out
      refine wpOp_step rfl (fun K hK => ?_)
      simp only [puts, List.foldl]
      go_simp
      exact hK _ _ ⟨rfl, rfl, hg, Below.refl _ _⟩
    case s19 =>
      intro u wx hg hC
      have hJ3 : u 3 = (.pointer (some ⟨b, 0, none⟩)) := hC.at 3 (by kernel_rfl)
      obtain ⟨a14, c14, e14, h14c, h14⟩ : Rd S (u 14) wx := hC.at 14 (by kernel_rfl)
      have hJ18 : u 18 = (.slice aR (p + 1) capR) := hC.at 18 (by kernel_rfl)
      clear hC
      refine wpOp_step rfl (fun K hK => ?_)
      simp only [puts, List.foldl]
      go_simp
      refine (HDV.out wx hg a14 c14 h14c h14).mono ?_
      rintro e w' ⟨⟨x, y, rfl, hy⟩, hb'⟩
      exact hK _ _ ⟨rfl, ⟨x, y, rfl, hy⟩, hg.next hb', hb'⟩
    case s20 =>
      intro u wx hg hC
      obtain ⟨x, y, e19, h19⟩ : Tp [] (u 19) wx := hC.at 19 (by kernel_rfl)
      clear hC
      refine wpOp_step rfl (fun K hK => ?_)
      simp only [puts, List.foldl]
      go_simp
      exact hK _ _ ⟨rfl, ⟨x, y, rfl, h19⟩, hg, Below.refl _ _⟩
    case s21 =>
      intro u wx hg hC
      obtain ⟨x, y, e20, h20⟩ : Tp [] (u 20) wx := hC.at 20 (by kernel_rfl)
      clear hC
      refine wpOp_step rfl (fun K hK => ?_)
      simp only [puts, List.foldl]
      go_simp
      exact hK _ _ ⟨rfl, trivial, hg, Below.refl _ _⟩
    case s22 =>
      intro u wx hg hC
      obtain ⟨x, y, e20, h20⟩ : Tp [] (u 20) wx := hC.at 20 (by kernel_rfl)
      clear hC
      refine wpOp_step rfl (fun K hK => ?_)
      simp only [puts, List.foldl]
      go_simp
      exact hK _ _ ⟨rfl, h20, hg, Below.refl _ _⟩
    case s23 =>
      intro u wx hg hC
      obtain ⟨x, y, e20, h20⟩ : Tp [] (u 20) wx := hC.at 20 (by kernel_rfl)
      clear hC
      refine wpOp_step rfl (fun K hK => ?_)
      simp only [puts, List.foldl]
      go_simp
      exact hK _ _ ⟨rfl, rfl, hg, Below.refl _ _⟩
    case s24 =>
      intro u wx hg hC
      clear hC
      refine wpOp_step rfl (fun K hK => ?_)
      simp only [puts, List.foldl]
      go_simp
      exact hK _ _ ⟨rfl, trivial, hg, Below.refl _ _⟩
    case s25 =>
      intro u wx hg hC
      have h22 : Rd [] (u 22) wx := hC.at 22 (by kernel_rfl)
      clear hC
      refine wpOp_step rfl (fun K hK => ?_)
      simp only [puts, List.foldl]
      go_simp
      exact hK _ _ ⟨rfl, h22, hg, Below.refl _ _⟩
    case s26 =>
      intro u wx hg hC
      have hJ23 : u 23 = .bool true := hC.at 23 (by kernel_rfl)
      clear hC
      refine wpOp_step rfl (fun K hK => ?_)
      simp only [puts, List.foldl]
      go_simp
      exact hK _ _ ⟨rfl, rfl, hg, Below.refl _ _⟩
    all_goals
      intro u wx hg hC
      clear hC
      refine wpOp_step rfl (fun K hK => ?_)
      simp only [puts, List.foldl]
      go_simp
      refine hK _ _ ?_
      clear hK K
      first
        | (refine ⟨rfl, ?_, hg, Below.refl _ _⟩; rfl)
        | (refine ⟨rfl, ?_, hg.alloc hg.size _, alloc_below _ _⟩; exact ⟨wx.heap.size, rfl, Lies.new [_] _ _⟩)
        | (refine ⟨rfl, ?_, hg.alloc hg.size _, alloc_below _ _⟩; exact ⟨wx.heap.size, rfl, Lies.new [_, _] _ _⟩)
  case fin =>
    intro u w2 hbw2 hφ
    obtain ⟨aq, cq, e25, hcq, hlq⟩ : Rd [] (u 25) w2 := hφ (25, 7) (by decide)
    clear hφ
    simp only [puts, List.foldl]
    go_simp
    have q1 : w2.cell? ⟨c, 1, none⟩ = some (.int .i64 (n : Int)) := (hbw2.cell (p := ⟨c, 1, none⟩) HLT.out).trans H1.out
    have q2 : w2.cell? ⟨c, 2, none⟩ = some (.int .i64 (k : Int)) := (hbw2.cell (p := ⟨c, 2, none⟩) HLT.out).trans H2.out
    have B2 := Lib.hid hbw2
    have HLQ := Lib.hid hlq
    have HC2 := Lib.hid (HC.out.step hbw2)
    clear hbw2 hlq e25 h1' h2' c1 c2
    have hcp : ∀ (W : World) (x : Option Addr) (c : Nat), (Builtin.copy_ #[22, 22] 3 #[.slice x 0 c, .slice aq 0 cq]).run Try.prog W = .ok (.int .i64 0) W := copy_zero aq cq
    go_wp2
    go_still_tail 9, (by kernel_rfl)
    change wpList _ _ _ _ _ w2.drew
    have B3 : Hid (Below w.heap.size w w2.drew) := Lib.hid B2.out.drew
    have HL3 : Hid (Lies w2.drew w2.drew.heap.size aq (u8s [])) := Lib.hid HLQ.out
    clear B2 HLQ HC2
    generalize w2.drew = w3 at *
    go_wp2_with (first
      | ((with_reducible refine wpMakeK 22 5 (.int .u8 0) p p Try.underlying22 HI8.out HZC.out HLL.out HLM0.out ?_ ?_); rfl; intro w4 r4 b4 s4; have R4 := Lib.hid (r4); have B4 := Lib.hid (B3.out.next b4); have HL4 := Lib.hid (HL3.out.step b4); have HG4 : Hid (w.heap.size ≤ w3.heap.size) := Lib.hid B3.out.size; clear r4 b4 s4))
    go_ret2
    exact ⟨⟨_, rfl, HG4.out, HPR.out _ _ R4.out⟩, B4.out⟩

theorem par_any (c b k p : Nat) (a : Option Addr) (cap : Nat) (X : List Nat) (w : World) (h : Cod w c b k p) (hl : X.length = k) (hby : By X) (hcap : X.length ≤ cap) (hr : Lies w w.heap.size a (u8s X)) :
    Calls Try.prog 19 #[.pointer (some ⟨c, 0, none⟩), .slice a k cap] w fun e w' =>
      (∃ g, e = .returned (.tuple #[.slice (some ⟨g, 0, none⟩) p p, .int .i64 0]) ∧ w.heap.size ≤ g ∧ Row w' g 5 (u8s (parity X p))) ∧ Below w.heap.size w w' := by
  by_cases h0 : (rem X p).length = 0
  · exact par_none c b k p a cap X w h hl hby hcap hr h0
  · exact par_some c b k p a cap X w h hl hby hcap hr (by omega)

end Go.Proofs.Ytkcnmiaedcenoaa

/- The contract of rs's Encode. -/
namespace Go.Proofs.Ytkcnmiaedcenoaa
open Go.RowKit GfMath PolyMath RsMath
set_option linter.unusedVariables false

theorem enc_nil (v : Value) (w : World) : Calls Try.prog 11 #[.pointer none, v] w fun e w' => e = .returned (.tuple #[.slice none 0 0, .int .i64 1]) ∧ w = w' := by
  have HN := Lib.hid (par_nil v w)
  go_enter Try.func11, Try.ntmps11
  go_wp2_with (go_at_call 19; (with_reducible refine HN.out.mono ?_); rintro e w1 ⟨rfl, rfl⟩)
  go_ret2
  exact ⟨rfl, rfl⟩
theorem enc_bad (c b k p : Nat) (v : Value) (a : Option Addr) (n cap : Nat) (w : World) (h : Cor w c b k p v) (hn : n ≠ k) (hl : n ≤ 140737488355328) : Calls Try.prog 11 #[.pointer (some ⟨c, 0, none⟩), .slice a n cap] w fun e w' => e = .returned (.tuple #[.slice none 0 0, .int .i64 1]) ∧ w = w' := by
  have HN := Lib.hid (par_bad c b k p v a n cap w h hn hl)
  clear h hn hl
  go_enter Try.func11, Try.ntmps11
  go_wp2_with (go_at_call 19; (with_reducible refine HN.out.mono ?_); rintro e w1 ⟨rfl, rfl⟩)
  go_ret2
  exact ⟨rfl, rfl⟩
theorem own_base {w : World} {b1 b2 : Nat} {e : TypeId} {v : Value} {n : Nat} {xs : List Value} (h : w.ownsRow b2 e 1 v n xs) (hb : b1 ≤ b2) : w.ownsRow b1 e 1 v n xs :=
  ⟨h.1, h.2.imp id fun ⟨g, cap, cur, h1, h2, h3⟩ => ⟨g, cap, cur, h1, Nat.le_trans hb h2, h3⟩⟩
theorem enc_any (c b k p : Nat) (a : Option Addr) (cap : Nat) (X : List Nat) (w : World) (h : Cod w c b k p) (hl : X.length = k) (hby : By X) (hcap : X.length ≤ cap) (hcap2 : cap ≤ 140737488351232) (hr : Lies w w.heap.size a (u8s X)) :
    Calls Try.prog 11 #[.pointer (some ⟨c, 0, none⟩), .slice a k cap] w fun e w' =>
      (∃ g c2, e = .returned (.tuple #[.slice (some ⟨g, 0, none⟩) (k + p) c2, .int .i64 0]) ∧ w.heap.size ≤ g ∧ w'.ownsRow w.heap.size 5 1 (.slice (some ⟨g, 0, none⟩) (k + p) c2) (k + p) (u8s (code X p))) ∧ Below w.heap.size w w' := by
  have HN := Lib.hid (par_any c b k p a cap X w h hl hby hcap hr)
  have hp8 := parity_by X hby p
  have hpl := parity_length X hby p
  have hk1 := h.k1
  have hp1 := h.p1
  have hn := h.n255
  have HCO : Hid (∀ (u : World) (g : Nat), Below w.heap.size w u → Row u g 5 (u8s (parity X p)) → Calls Try.prog 20 #[.slice (some ⟨u.heap.size, 0, none⟩) 2 2] (u.alloc (.cells #[.slice a k cap, .slice (some ⟨g, 0, none⟩) p p] 22)) fun e w' => (∃ g c2, e = .returned (.slice (some ⟨g, 0, none⟩) (k + p) c2) ∧ w.heap.size ≤ g ∧ w'.ownsRow w.heap.size 5 1 (.slice (some ⟨g, 0, none⟩) (k + p) c2) (k + p) (u8s (code X p))) ∧ Below w.heap.size w w') := Lib.hid fun u g hu hrow => by
    have hpo := two_polys (u := u.alloc (.cells #[.slice a k cap, .slice (some ⟨g, 0, none⟩) p p] 22)) (A := X) (C := parity X p) (ca := cap) (cc := p) hby hp8 hcap (by omega) hcap2 (by omega) ((hr.step hu).step (alloc_below _ _)) ((row_lies hrow).step (alloc_below _ _))
    rw [hl, hpl] at hpo
    have hb2 : Below w.heap.size w (u.alloc (.cells #[.slice a k cap, .slice (some ⟨g, 0, none⟩) p p] 22)) := hu.next (alloc_below _ _)
    have hfl : [X, parity X p].flatten = code X p := by simp [code]
    have := concat_any (some ⟨u.heap.size, 0, none⟩) 2 _ [X, parity X p] _ hpo (by simp) (by intro l hl; simp at hl; rcases hl with rfl | rfl <;> omega) (by simp) (by rw [hfl, code_length X hby]; omega) (Lies.new [.slice a k cap, .slice (some ⟨g, 0, none⟩) p p] u _)
    rw [hfl, code_length X hby, hl] at this
    exact this.mono fun e w' ⟨⟨g, c2, h1, h2, h3⟩, h4⟩ => ⟨⟨g, c2, h1, Nat.le_trans hb2.size h2, own_base h3 hb2.size⟩, hb2.next h4⟩
  obtain ⟨T, hT⟩ : ∃ T, code X p = T := ⟨_, rfl⟩
  obtain ⟨Y, hY⟩ : ∃ Y, parity X p = Y := ⟨_, rfl⟩
  rw [hT] at HCO ⊢
  rw [hY] at HCO HN
  obtain ⟨m, hm⟩ : ∃ m, k + p = m := ⟨_, rfl⟩
  rw [hm] at HCO ⊢
  clear h hr hby hp8 hT hY hm hpl
  go_enter Try.func11, Try.ntmps11
  go_wp2_with (first
    | (go_at_call 19; (with_reducible refine HN.out.mono ?_); rintro e w1 ⟨⟨g1, rfl, _, r1⟩, b1⟩; have R1 := Lib.hid r1; have B1 := Lib.hid b1; clear r1 b1)
    | (go_at_call 20; (with_reducible refine (HCO.out w1 g1 B1.out R1.out).mono ?_); rintro e w2 ⟨⟨g2, c2, rfl, hg2, o2⟩, b2⟩; have G2 := Lib.hid hg2; have O2 := Lib.hid o2; have B2 := Lib.hid b2; clear hg2 o2 b2))
  go_ret2
  exact ⟨⟨g2, c2, rfl, G2.out, O2.out⟩, B2.out⟩

end Go.Proofs.Ytkcnmiaedcenoaa

/- Contracts of poly's divisor and Gcd. -/
namespace Go.Proofs.Ytkcnmiaedcenoaa
open Go.RowKit GfMath PolyMath
set_option linter.unusedVariables false

/-- A list of polynomials, whatever room they have. -/
structure Polz (w : World) (ts : List Hd) (ls : List (List Nat)) : Prop where
  len : ts.length = ls.length
  at_ : ∀ i (h : i < ts.length) (h2 : i < ls.length), ts[i].2.1 = ls[i].length ∧ ls[i].length ≤ ts[i].2.2 ∧ By ls[i] ∧ Lies w w.heap.size ts[i].1 (u8s ls[i])
theorem Polz.step {w w' : World} {ts : List Hd} {ls : List (List Nat)} (h : Polz w ts ls) (hb : Below w.heap.size w w') : Polz w' ts ls :=
  ⟨h.len, fun i h1 h2 => by obtain ⟨a, b, d, e⟩ := h.at_ i h1 h2; exact ⟨a, b, d, e.step hb⟩⟩
theorem Polz.nil (w : World) : Polz w [] [] := ⟨rfl, fun i h => by simp at h⟩
theorem Polz.get {w : World} {ts : List Hd} {ls : List (List Nat)} (h : Polz w ts ls) (k : Nat) (hk : k < ls.length) :
    ∃ a c, ts[k]'(by rw [h.len]; exact hk) = (a, ls[k].length, c) ∧ ls[k].length ≤ c ∧ By ls[k] ∧ Lies w w.heap.size a (u8s ls[k]) := by
  obtain ⟨h1, h2, h4, h5⟩ := h.at_ k (by rw [h.len]; exact hk) hk
  have hk' : k < ts.length := by rw [h.len]; exact hk
  refine ⟨(ts[k]'hk').1, (ts[k]'hk').2.2, ?_, h2, h4, h5⟩
  rw [← h1]
theorem Polz.snoc {w : World} {ts : List Hd} {ls : List (List Nat)} (h : Polz w ts ls) {a : Option Addr} {c : Nat} {l : List Nat} (hc : l.length ≤ c) (hl : By l) (hr : Lies w w.heap.size a (u8s l)) : Polz w (ts ++ [(a, l.length, c)]) (ls ++ [l]) := by
  refine ⟨by rw [List.length_append, List.length_append, h.len]; rfl, fun i h1 h2 => ?_⟩
  rw [List.length_append, List.length_singleton] at h1 h2
  by_cases e : i < ls.length
  · have e2 : i < ts.length := by rw [h.len]; exact e
    rw [List.getElem_append_left e2, List.getElem_append_left e]
    exact h.at_ i e2 e
  · have e1 : i = ls.length := by omega
    subst e1
    have e2 : ts.length = ls.length := h.len
    rw [List.getElem_append_right (by omega), List.getElem_append_right (by omega)]
    simp only [e2, Nat.sub_self, List.getElem_cons_zero]
    exact ⟨trivial, hc, hl, hr⟩

end Go.Proofs.Ytkcnmiaedcenoaa
