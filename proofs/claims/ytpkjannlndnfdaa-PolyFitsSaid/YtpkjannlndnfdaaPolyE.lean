/- Contracts of poly's Shift, Mul, Add. -/
import Derived.Test.YtpkjannlndnfdaaPolyD
namespace Go.Proofs.Ytpkjannlndnfdaa
open Go.RowKit GfMath PolyMath
set_option linter.unusedVariables false

theorem row_lies {w : World} {g : Nat} {t : TypeId} {xs : List Value} (h : Row w g t xs) : Lies w w.heap.size (some ⟨g, 0, none⟩) xs := fun _ => ⟨g, 0, rfl, h.lt, fun j u hu => by rw [Nat.zero_add, h.cell]; exact hu⟩

/-- How far is shifted. -/
def shn (n : Int) : Nat := (min (max n 0) 1000).toNat
theorem Polys.get {w : World} {ts : List Hd} {ls : List (List Nat)} (h : Polys w ts ls) (k : Nat) (hk : k < ls.length) :
    ∃ a c, ts[k]'(by rw [h.len]; exact hk) = (a, ls[k].length, c) ∧ ls[k].length ≤ c ∧ c ≤ 140737488351232 ∧ By ls[k] ∧ Lies w w.heap.size a (u8s ls[k]) := by
  obtain ⟨h1, h2, h3, h4, h5⟩ := h.at_ k (by rw [h.len]; exact hk) hk
  have hk' : k < ts.length := by rw [h.len]; exact hk
  refine ⟨(ts[k]'hk').1, (ts[k]'hk').2.2, ?_, h2, h3, h4, h5⟩
  rw [← h1]
theorem Polys.by {w : World} {ts : List Hd} {ls : List (List Nat)} (h : Polys w ts ls) : ∀ l ∈ ls, By l := by
  intro l hl
  obtain ⟨i, hi, rfl⟩ := List.mem_iff_getElem.1 hl
  exact (h.at_ i (by rw [h.len]; exact hi) hi).2.2.2.1

set_option maxHeartbeats 1000000 in
theorem pmul_any (b : Nat) (a : Option Addr) (cap : Nat) (ts : List Hd) (ls : List (List Nat)) (w : World) (hf : Fld w b) (hp : Polys w ts ls) (hn : ls.length ≤ 100) (hl : ∀ l ∈ ls, l.length ≤ 5000) (hr : Lies w w.heap.size a (slvs ts)) :
    Calls Try.prog 20 #[.pointer (some ⟨b, 0, none⟩), .slice a ls.length cap] w fun e w' => (∃ v, e = .returned v ∧ Reads w' v (pms ls)) ∧ Below w.heap.size w w' := by
  have HF := Lib.hid hf
  have HR := Lib.hid hr
  have HP := Lib.hid hp
  have HL := Lib.hid hl
  have HN : Hid (ls.length ≤ 100) := Lib.hid hn
  have H0 : Hid (Reads (w.alloc (.cells #[.int .u8 1] 5)) (.slice (some ⟨w.heap.size, 0, none⟩) 1 1) (pms [])) := Lib.hid ⟨_, 1, rfl, by decide, Lies.new [.int .u8 1] w _⟩
  clear hf hr hp hl
  go_enter Try.func20, Try.ntmps20
  go_wp2
  go_loopw [5, 13] (fun p i wr => ∃ k : Nat, k ≤ ls.length ∧ i = .int .i64 k ∧ Reads wr p (pms (ls.take k)) ∧ Below w.heap.size w wr) (fun _ i _ => ls.length - (intOf i).toNat)
  case atStart => exact ⟨0, Nat.zero_le _, rfl, H0.out, alloc_below _ _⟩
  case round =>
    clear H0
    obtain ⟨k, hk, rfl, ⟨ap, cp, rfl, hcp, hp⟩, hbw⟩ := hrel
    by_cases hlt : k < ls.length
    · have hk1 : (k : Int) < ls.length := by omega
      obtain ⟨q, c, ht, hqc, hc1, hq8, hql⟩ := HP.out.get k hlt
      have hkt : k < ts.length := by rw [HP.out.len]; exact hlt
      obtain ⟨b2, off, rfl, hbb, hcl⟩ := HR.out (by rw [slvs_length]; omega)
      have hcell : wr.cell? ⟨b2, off + k, none⟩ = some (.slice q ls[k].length c) := by
        have h1 := (hbw.cell (p := ⟨b2, off + k, none⟩) hbb).trans (hcl k _ (slvs_get ts k hkt))
        rw [ht] at h1
        exact h1
      have hst : pms (ls.take (k + 1)) = pm (pms (ls.take k)) (beh ls[k]) := by rw [take_snoc ls k hlt, pms_snoc]
      have hby : ∀ l ∈ ls.take k, By l := fun l h => HP.out.by l (List.mem_of_mem_take h)
      obtain ⟨hP8, _⟩ := pms_all (ls.take k) hby
      have hPl := pms_le (ls.take k) 5000 fun l h => HL.out l (List.mem_of_mem_take h)
      rw [List.length_take] at hPl
      have hPl2 : (pms (ls.take k)).length ≤ 1000000 := by have := HN.out; omega
      have hql5 := HL.out ls[k] (List.getElem_mem hlt)
      obtain ⟨l, hle⟩ : ∃ l, ls[k] = l := ⟨_, rfl⟩
      rw [hle] at hcell hst hqc hq8 hql hql5
      obtain ⟨P, hP⟩ : ∃ P, pms (ls.take k) = P := ⟨_, rfl⟩
      rw [hP] at hst hp hcp hP8 hPl2
      rw [hP]
      have hmb := beh_le l
      have hm8 := hq8.beh
      have HBE := Lib.hid (behind_any q c l wr (by omega) hqc (hql.step hbw))
      obtain ⟨m, hm⟩ : ∃ m, beh l = m := ⟨_, rfl⟩
      rw [hm] at HBE hst hmb hm8
      have HT : Hid (∀ (u : World) (q2 : Option Addr) (c2 : Nat), Fld u b → Lies u u.heap.size ap (u8s P) → Lies u u.heap.size q2 (u8s m) → Calls Try.prog 21 #[.pointer (some ⟨b, 0, none⟩), .slice ap P.length cp, .slice q2 m.length c2] u fun e w' => (∃ v, e = .returned v ∧ Reads w' v (pm P m)) ∧ Below u.heap.size u w') :=
        Lib.hid fun u q2 c2 h3 h4 h5 => ptimes_any b ap q2 cp c2 P m u h3 hP8 hm8 hPl2 (by omega) h4 h5
      have HPP := Lib.hid hp
      have HS := Lib.hid hst
      have HW := Lib.hid hbw
      have HFR : Hid (Fld wr b) := Lib.hid (HF.out.step hbw)
      clear hp hst hbw hcl hbb hP hcp hP8 hPl hPl2 hql hqc hq8 hle hm8 hmb hm ht hql5 hc1
      go_wp2_with (first
        | (go_at_call 23; (with_reducible refine HBE.out.mono ?_); rintro e w1 ⟨⟨v, rfl, q2, c2, rfl, _, hv⟩, rfl⟩; have HV := Lib.hid hv; clear hv)
        | (go_at_call 21; (with_reducible refine (HT.out wr q2 c2 HFR.out HPP.out HV.out).mono ?_); rintro e w2 ⟨⟨v, rfl, hv⟩, b2⟩; have V2 := Lib.hid hv; have B2 := Lib.hid b2; clear hv b2))
      go_roundw
      case rel => exact ⟨k + 1, by omega, by go_num, by rw [HS.out]; exact V2.out, HW.out.next B2.out⟩
      case measure => simp [intOf]; omega
    · have ek : k = ls.length := by omega
      have HV : Hid (Reads wr (.slice ap (pms (ls.take k)).length cp) (pms ls)) := Lib.hid (by
        rw [ek, List.take_of_length_le (Nat.le_refl _)] at hp hcp ⊢
        exact ⟨ap, cp, rfl, hcp, hp⟩)
      have HW := Lib.hid hbw
      clear hp hbw
      go_wp2
      go_ret
      exact ⟨⟨_, rfl, HV.out⟩, HW.out⟩

end Go.Proofs.Ytpkjannlndnfdaa
