/- Contracts of poly's Shift, Mul, Add. -/
import Derived.Test.YtligaipkdabmoaaPolyD
namespace Go.Proofs.Ytligaipkdabmoaa
open Go.RowKit GfMath PolyMath
set_option linter.unusedVariables false

theorem row_lies {w : World} {g : Nat} {t : TypeId} {xs : List Value} (h : Row w g t xs) : Lies w w.heap.size (some ⟨g, 0, none⟩) xs := fun _ => ⟨g, 0, rfl, h.lt, fun j u hu => by rw [Nat.zero_add, h.cell]; exact hu⟩

/-- How far is shifted. -/
def shn (n : Int) : Nat := (min (max n 0) 1000).toNat
set_option maxRecDepth 100000 in
set_option maxHeartbeats 1000000 in
theorem shift_any (a : Option Addr) (cap : Nat) (l : List Nat) (n : Int) (w : World) (hl : l.length ≤ 1000000) (hcap : l.length ≤ cap) (hr : Lies w w.heap.size a (u8s l)) :
    Calls Try.prog 23 #[.slice a l.length cap, .int .i64 n] w fun e w' => (∃ v, e = .returned v ∧ Reads w' v (shl l (shn n))) ∧ Below w.heap.size w w' := by
  have hbl := beh_le l
  by_cases h0 : (beh l).length = 0
  · have HB := Lib.hid (behind_none a cap l w (by omega) hcap hr h0)
    have HE : Hid (shl l (shn n) = []) := Lib.hid (by unfold shl; exact if_pos h0)
    clear hr h0 hbl
    go_enter Try.func23, Try.ntmps23
    go_wp2_with (go_at_call 39; (with_reducible refine HB.out.mono ?_); rintro e w1 ⟨rfl, rfl⟩)
    go_ret
    exact ⟨⟨_, rfl, by rw [HE.out]; exact Reads.nil _⟩, Below.refl _ _⟩
  · have HB := Lib.hid (behind_some a cap l w (by omega) hcap hr (by omega))
    have hsh : shl l (shn n) = beh l ++ List.replicate (shn n) 0 := by unfold shl; exact if_neg h0
    have hmb : (beh l).length ≤ 1000000 := by omega
    obtain ⟨m, hm⟩ : ∃ m, beh l = m := ⟨_, rfl⟩
    rw [hm] at HB h0 hsh hmb
    obtain ⟨k, hk⟩ : ∃ k, shn n = k := ⟨_, rfl⟩
    have hki : min (max n 0) 1000 = (k : Int) := by rw [← hk, shn]; omega
    have hkb : k ≤ 1000 := by omega
    rw [hk] at hsh ⊢
    obtain ⟨M, hM⟩ : ∃ M, m.length + k = M := ⟨_, rfl⟩
    have hMi : (m.length : Int) + (k : Int) = (M : Int) := by omega
    have hMw : IntKind.i64.wrap (M : Int) = (M : Int) := by rw [IntKind.wrap_i64]; omega
    have hMb : (M : Int) ≤ 2000000 := by omega
    have hM0 : 0 ≤ (M : Int) := by omega
    have ha0 : ¬ (m.length : Int) = 0 := by omega
    have ha1 : ((m.length : Int) == 0) = false := beq_false_of_ne ha0
    have HSH := Lib.hid hsh
    have HI8 : Hid ((Try.prog.info? 5).map (fun i => (i.zero, i.size, i.bytes)) = some (some (.int .u8 0), 1, 8) ∨ (Try.prog.info? 5).map (fun i => (i.zero, i.size, i.bytes)) = some (some (.int .u8 0), 1, 1)) := Lib.hid (Or.inr info_byte)
    have HLL : Hid (M ≤ M) := Lib.hid (Nat.le_refl _)
    have HLM0 : Hid (M ≤ 1099511627776) := Lib.hid (by omega)
    have HZC : Hid ((Value.int .u8 0).cells = #[.int .u8 0]) := Lib.hid rfl
    have HML : Hid (m.length ≤ M) := Lib.hid (by omega)
    have HMK : Hid (M = m.length + k) := Lib.hid hM.symm
    have HM0 : Hid (0 < m.length) := Lib.hid (by omega)
    have HU : Hid ((u8s m).length = m.length) := Lib.hid (u8s_length m)
    have HU1 : Hid ((u8s m).all (·.oneCell') = true) := Lib.hid (u8s_one m)
    have HRP : Hid ((List.replicate m.length (Value.int .u8 0)).length = m.length) := Lib.hid List.length_replicate
    have HRW : Hid (∀ u : World, Row u w.heap.size 5 (List.replicate M (.int .u8 0)) → Row u w.heap.size 5 ([] ++ List.replicate m.length (.int .u8 0) ++ List.replicate k (.int .u8 0))) := Lib.hid fun u h => by rw [List.nil_append, List.replicate_append_replicate, ← HMK.out]; exact h
    have hcase : (n < 0 ∧ k = 0) ∨ (1000 < n ∧ k = 1000) ∨ (0 ≤ n ∧ n ≤ 1000 ∧ n = (k : Int)) := by omega
    rcases hcase with ⟨hn1, hk0⟩ | ⟨hn1, hk0⟩ | ⟨hn1, hn2, hn3⟩
    · have hMj : (m.length : Int) = (M : Int) := by omega
      have hb0 : ¬ (M : Int) = 0 := by omega
      have hb1 : ((M : Int) == 0) = false := beq_false_of_ne hb0
      clear hMi hk0
      clear hr hm hk hM hsh hbl h0 hl hki
      go_enter Try.func23, Try.ntmps23
      go_wp2_with (first
        | (go_at_call 39; (with_reducible refine HB.out.mono ?_); rintro e w1 ⟨⟨g3, o3, c3, rfl, hc3, hm3⟩, rfl⟩; have HM3 := Lib.hid hm3; clear hm3 hc3)
        | ((with_reducible refine wpMakeK 28 5 (.int .u8 0) M M Try.underlying28 HI8.out HZC.out HLL.out HLM0.out ?_ ?_); rfl; intro w1 r1 b1 s1; have R1 := Lib.hid (HRW.out w1 r1); have B1 := Lib.hid b1; clear r1 b1 s1)
        | ((with_reducible refine R1.out.wpCopyLK (i := 0) (dLen := M) (m := m.length) rfl 28 M c3 Try.underlying28 one_byte (HM3.out.step B1.out) HU.out HM0.out HML.out HRP.out HU1.out ?_ ?_); rfl; intro w2 r2 o2 s2; have R2 := Lib.hid r2; have O2 := Lib.hid o2; clear r2 o2 s2))
      go_ret
      refine ⟨⟨_, rfl, ?_⟩, B1.out.trans (O2.out.below (Nat.le_refl _) B1.out.size)⟩
      rw [HSH.out]
      refine ⟨_, _, by rw [List.length_append, List.length_replicate, ← HMK.out]; rfl, by rw [List.length_append, List.length_replicate, ← HMK.out]; exact Nat.le_refl _, ?_⟩
      have h := R2.out
      rw [List.nil_append] at h
      have e : u8s (m ++ List.replicate k 0) = u8s m ++ List.replicate k (.int .u8 0) := by rw [u8s_append]; congr 1; rw [u8s, List.map_replicate]; rfl
      rw [e]
      exact row_lies h
    · have hMj : (m.length : Int) + 1000 = (M : Int) := by omega
      clear hMi hk0
      clear hr hm hk hM hsh hbl h0 hl hki
      go_enter Try.func23, Try.ntmps23
      go_wp2_with (first
        | (go_at_call 39; (with_reducible refine HB.out.mono ?_); rintro e w1 ⟨⟨g3, o3, c3, rfl, hc3, hm3⟩, rfl⟩; have HM3 := Lib.hid hm3; clear hm3 hc3)
        | ((with_reducible refine wpMakeK 28 5 (.int .u8 0) M M Try.underlying28 HI8.out HZC.out HLL.out HLM0.out ?_ ?_); rfl; intro w1 r1 b1 s1; have R1 := Lib.hid (HRW.out w1 r1); have B1 := Lib.hid b1; clear r1 b1 s1)
        | ((with_reducible refine R1.out.wpCopyLK (i := 0) (dLen := M) (m := m.length) rfl 28 M c3 Try.underlying28 one_byte (HM3.out.step B1.out) HU.out HM0.out HML.out HRP.out HU1.out ?_ ?_); rfl; intro w2 r2 o2 s2; have R2 := Lib.hid r2; have O2 := Lib.hid o2; clear r2 o2 s2))
      go_ret
      refine ⟨⟨_, rfl, ?_⟩, B1.out.trans (O2.out.below (Nat.le_refl _) B1.out.size)⟩
      rw [HSH.out]
      refine ⟨_, _, by rw [List.length_append, List.length_replicate, ← HMK.out]; rfl, by rw [List.length_append, List.length_replicate, ← HMK.out]; exact Nat.le_refl _, ?_⟩
      have h := R2.out
      rw [List.nil_append] at h
      have e : u8s (m ++ List.replicate k 0) = u8s m ++ List.replicate k (.int .u8 0) := by rw [u8s_append]; congr 1; rw [u8s, List.map_replicate]; rfl
      rw [e]
      exact row_lies h
    · subst hn3
      clear hr hm hk hM hsh hbl h0 hl hki
      go_enter Try.func23, Try.ntmps23
      go_wp2_with (first
        | (go_at_call 39; (with_reducible refine HB.out.mono ?_); rintro e w1 ⟨⟨g3, o3, c3, rfl, hc3, hm3⟩, rfl⟩; have HM3 := Lib.hid hm3; clear hm3 hc3)
        | ((with_reducible refine wpMakeK 28 5 (.int .u8 0) M M Try.underlying28 HI8.out HZC.out HLL.out HLM0.out ?_ ?_); rfl; intro w1 r1 b1 s1; have R1 := Lib.hid (HRW.out w1 r1); have B1 := Lib.hid b1; clear r1 b1 s1)
        | ((with_reducible refine R1.out.wpCopyLK (i := 0) (dLen := M) (m := m.length) rfl 28 M c3 Try.underlying28 one_byte (HM3.out.step B1.out) HU.out HM0.out HML.out HRP.out HU1.out ?_ ?_); rfl; intro w2 r2 o2 s2; have R2 := Lib.hid r2; have O2 := Lib.hid o2; clear r2 o2 s2))
      go_ret
      refine ⟨⟨_, rfl, ?_⟩, B1.out.trans (O2.out.below (Nat.le_refl _) B1.out.size)⟩
      rw [HSH.out]
      refine ⟨_, _, by rw [List.length_append, List.length_replicate, ← HMK.out]; rfl, by rw [List.length_append, List.length_replicate, ← HMK.out]; exact Nat.le_refl _, ?_⟩
      have h := R2.out
      rw [List.nil_append] at h
      have e : u8s (m ++ List.replicate k 0) = u8s m ++ List.replicate k (.int .u8 0) := by rw [u8s_append]; congr 1; rw [u8s, List.map_replicate]; rfl
      rw [e]
      exact row_lies h

theorem Polys.get {w : World} {ts : List Hd} {ls : List (List Nat)} (h : Polys w ts ls) (k : Nat) (hk : k < ls.length) :
    ∃ a c, ts[k]'(by rw [h.len]; exact hk) = (a, ls[k].length, c) ∧ ls[k].length ≤ c ∧ c ≤ 140737488351232 ∧ By ls[k] ∧ Lies w w.heap.size a (u8s ls[k]) := by
  obtain ⟨h1, h2, h3, h4, h5⟩ := h.at_ k (by rw [h.len]; exact hk) hk
  have hk' : k < ts.length := by rw [h.len]; exact hk
  refine ⟨(ts[k]'hk').1, (ts[k]'hk').2.2, ?_, h2, h3, h4, h5⟩
  rw [← h1]
theorem Polys.by {w : World} {ts : List Hd} {ls : List (List Nat)} (h : Polys w ts ls) : ∀ l ∈ ls, By l := by
  intro l hl
  obtain ⟨i, hi, rfl⟩ := List.mem_iff_getElem.1 hl
  exact (h.at_ i (by rw [h.len]; exact hi) hi).2.2.2.1

set_option maxHeartbeats 1000000 in
theorem pmul_any (b : Nat) (a : Option Addr) (cap : Nat) (ts : List Hd) (ls : List (List Nat)) (w : World) (hf : Fld w b) (hp : Polys w ts ls) (hn : ls.length ≤ 100) (hl : ∀ l ∈ ls, l.length ≤ 5000) (hr : Lies w w.heap.size a (slvs ts)) :
    Calls Try.prog 19 #[.pointer (some ⟨b, 0, none⟩), .slice a ls.length cap] w fun e w' => (∃ v, e = .returned v ∧ Reads w' v (pms ls)) ∧ Below w.heap.size w w' := by
  have HF := Lib.hid hf
  have HR := Lib.hid hr
  have HP := Lib.hid hp
  have HL := Lib.hid hl
  have HN : Hid (ls.length ≤ 100) := Lib.hid hn
  have H0 : Hid (Reads (w.alloc (.cells #[.int .u8 1] 5)) (.slice (some ⟨w.heap.size, 0, none⟩) 1 1) (pms [])) := Lib.hid ⟨_, 1, rfl, by decide, Lies.new [.int .u8 1] w _⟩
  clear hf hr hp hl
  go_enter Try.func19, Try.ntmps19
  go_wp2
  go_loopw [5, 13] (fun p i wr => ∃ k : Nat, k ≤ ls.length ∧ i = .int .i64 k ∧ Reads wr p (pms (ls.take k)) ∧ Below w.heap.size w wr) (fun _ i _ => ls.length - (intOf i).toNat)
  case atStart => exact ⟨0, Nat.zero_le _, rfl, H0.out, alloc_below _ _⟩
  case round =>
    clear H0
    obtain ⟨k, hk, rfl, ⟨ap, cp, rfl, hcp, hp⟩, hbw⟩ := hrel
    by_cases hlt : k < ls.length
    · have hk1 : (k : Int) < ls.length := by omega
      obtain ⟨q, c, ht, hqc, hc1, hq8, hql⟩ := HP.out.get k hlt
      have hkt : k < ts.length := by rw [HP.out.len]; exact hlt
      obtain ⟨b2, off, rfl, hbb, hcl⟩ := HR.out (by rw [slvs_length]; omega)
      have hcell : wr.cell? ⟨b2, off + k, none⟩ = some (.slice q ls[k].length c) := by
        have h1 := (hbw.cell (p := ⟨b2, off + k, none⟩) hbb).trans (hcl k _ (slvs_get ts k hkt))
        rw [ht] at h1
        exact h1
      have hst : pms (ls.take (k + 1)) = pm (pms (ls.take k)) (beh ls[k]) := by rw [take_snoc ls k hlt, pms_snoc]
      have hby : ∀ l ∈ ls.take k, By l := fun l h => HP.out.by l (List.mem_of_mem_take h)
      obtain ⟨hP8, _⟩ := pms_all (ls.take k) hby
      have hPl := pms_le (ls.take k) 5000 fun l h => HL.out l (List.mem_of_mem_take h)
      rw [List.length_take] at hPl
      have hPl2 : (pms (ls.take k)).length ≤ 1000000 := by have := HN.out; omega
      have hql5 := HL.out ls[k] (List.getElem_mem hlt)
      obtain ⟨l, hle⟩ : ∃ l, ls[k] = l := ⟨_, rfl⟩
      rw [hle] at hcell hst hqc hq8 hql hql5
      obtain ⟨P, hP⟩ : ∃ P, pms (ls.take k) = P := ⟨_, rfl⟩
      rw [hP] at hst hp hcp hP8 hPl2
      rw [hP]
      have hmb := beh_le l
      have hm8 := hq8.beh
      have HBE := Lib.hid (behind_any q c l wr (by omega) hqc (hql.step hbw))
      obtain ⟨m, hm⟩ : ∃ m, beh l = m := ⟨_, rfl⟩
      rw [hm] at HBE hst hmb hm8
      have HT : Hid (∀ (u : World) (q2 : Option Addr) (c2 : Nat), Fld u b → Lies u u.heap.size ap (u8s P) → Lies u u.heap.size q2 (u8s m) → Calls Try.prog 40 #[.pointer (some ⟨b, 0, none⟩), .slice ap P.length cp, .slice q2 m.length c2] u fun e w' => (∃ v, e = .returned v ∧ Reads w' v (pm P m)) ∧ Below u.heap.size u w') :=
        Lib.hid fun u q2 c2 h3 h4 h5 => ptimes_any b ap q2 cp c2 P m u h3 hP8 hm8 hPl2 (by omega) h4 h5
      have HPP := Lib.hid hp
      have HS := Lib.hid hst
      have HW := Lib.hid hbw
      have HFR : Hid (Fld wr b) := Lib.hid (HF.out.step hbw)
      clear hp hst hbw hcl hbb hP hcp hP8 hPl hPl2 hql hqc hq8 hle hm8 hmb hm ht hql5 hc1
      go_wp2_with (first
        | (go_at_call 39; (with_reducible refine HBE.out.mono ?_); rintro e w1 ⟨⟨v, rfl, q2, c2, rfl, _, hv⟩, rfl⟩; have HV := Lib.hid hv; clear hv)
        | (go_at_call 40; (with_reducible refine (HT.out wr q2 c2 HFR.out HPP.out HV.out).mono ?_); rintro e w2 ⟨⟨v, rfl, hv⟩, b2⟩; have V2 := Lib.hid hv; have B2 := Lib.hid b2; clear hv b2))
      go_roundw
      case rel => exact ⟨k + 1, by omega, by go_num, by rw [HS.out]; exact V2.out, HW.out.next B2.out⟩
      case measure => simp [intOf]; omega
    · have ek : k = ls.length := by omega
      have HV : Hid (Reads wr (.slice ap (pms (ls.take k)).length cp) (pms ls)) := Lib.hid (by
        rw [ek, List.take_of_length_le (Nat.le_refl _)] at hp hcp ⊢
        exact ⟨ap, cp, rfl, hcp, hp⟩)
      have HW := Lib.hid hbw
      clear hp hbw
      go_wp2
      go_ret
      exact ⟨⟨_, rfl, HV.out⟩, HW.out⟩

end Go.Proofs.Ytligaipkdabmoaa
