/- Contracts of poly's Shift, Mul, Add. -/
import Derived.Test.YtpnjmbhplckgmaaPolyD
namespace Go.Proofs.Ytpnjmbhplckgmaa
open Go.RowKit GfMath PolyMath
set_option linter.unusedVariables false

theorem row_lies {w : World} {g : Nat} {t : TypeId} {xs : List Value} (h : Row w g t xs) : Lies w w.heap.size (some ⟨g, 0, none⟩) xs := fun _ => ⟨g, 0, rfl, h.lt, fun j u hu => by rw [Nat.zero_add, h.cell]; exact hu⟩

/-- How far is shifted. -/
def shn (n : Int) : Nat := (min (max n 0) 1000).toNat
set_option maxRecDepth 100000 in
set_option maxHeartbeats 1000000 in
theorem shift_any (a : Option Addr) (cap : Nat) (l : List Nat) (n : Int) (w : World) (hl : l.length ≤ 1000000) (hcap : l.length ≤ cap) (hr : Lies w w.heap.size a (u8s l)) :
    Calls Try.prog 28 #[.slice a l.length cap, .int .i64 n] w fun e w' => (∃ v, e = .returned v ∧ Reads w' v (shl l (shn n))) ∧ Below w.heap.size w w' := by
  have hbl := beh_le l
  by_cases h0 : (beh l).length = 0
  · have HB := Lib.hid (behind_none a cap l w (by omega) hcap hr h0)
    have HE : Hid (shl l (shn n) = []) := Lib.hid (by unfold shl; exact if_pos h0)
    clear hr h0 hbl
    go_enter Try.func28, Try.ntmps28
    go_wp2_with (go_at_call 42; (with_reducible refine HB.out.mono ?_); rintro e w1 ⟨rfl, rfl⟩)
    go_ret
    exact ⟨⟨_, rfl, by rw [HE.out]; exact Reads.nil _⟩, Below.refl _ _⟩
  · have HB := Lib.hid (behind_some a cap l w (by omega) hcap hr (by omega))
    have hsh : shl l (shn n) = beh l ++ List.replicate (shn n) 0 := by unfold shl; exact if_neg h0
    have hmb : (beh l).length ≤ 1000000 := by omega
    obtain ⟨m, hm⟩ : ∃ m, beh l = m := ⟨_, rfl⟩
    rw [hm] at HB h0 hsh hmb
    obtain ⟨k, hk⟩ : ∃ k, shn n = k := ⟨_, rfl⟩
    have hki : min (max n 0) 1000 = (k : Int) := by rw [← hk, shn]; omega
    have hkb : k ≤ 1000 := by omega
    rw [hk] at hsh ⊢
    obtain ⟨M, hM⟩ : ∃ M, m.length + k = M := ⟨_, rfl⟩
    have hMi : (m.length : Int) + (k : Int) = (M : Int) := by omega
    have hMw : IntKind.i64.wrap (M : Int) = (M : Int) := by rw [IntKind.wrap_i64]; omega
    have hMb : (M : Int) ≤ 2000000 := by omega
    have hM0 : 0 ≤ (M : Int) := by omega
    have ha0 : ¬ (m.length : Int) = 0 := by omega
    have ha1 : ((m.length : Int) == 0) = false := beq_false_of_ne ha0
    have HSH := Lib.hid hsh
    have HI8 : Hid ((Try.prog.info? 5).map (fun i => (i.zero, i.size, i.bytes)) = some (some (.int .u8 0), 1, 8) ∨ (Try.prog.info? 5).map (fun i => (i.zero, i.size, i.bytes)) = some (some (.int .u8 0), 1, 1)) := Lib.hid (Or.inr info_byte)
    have HLL : Hid (M ≤ M) := Lib.hid (Nat.le_refl _)
    have HLM0 : Hid (M ≤ 1099511627776) := Lib.hid (by omega)
    have HZC : Hid ((Value.int .u8 0).cells = #[.int .u8 0]) := Lib.hid rfl
    have HML : Hid (m.length ≤ M) := Lib.hid (by omega)
    have HMK : Hid (M = m.length + k) := Lib.hid hM.symm
    have HM0 : Hid (0 < m.length) := Lib.hid (by omega)
    have HU : Hid ((u8s m).length = m.length) := Lib.hid (u8s_length m)
    have HU1 : Hid ((u8s m).all (·.oneCell') = true) := Lib.hid (u8s_one m)
    have HRP : Hid ((List.replicate m.length (Value.int .u8 0)).length = m.length) := Lib.hid List.length_replicate
    have HRW : Hid (∀ u : World, Row u w.heap.size 5 (List.replicate M (.int .u8 0)) → Row u w.heap.size 5 ([] ++ List.replicate m.length (.int .u8 0) ++ List.replicate k (.int .u8 0))) := Lib.hid fun u h => by rw [List.nil_append, List.replicate_append_replicate, ← HMK.out]; exact h
    have hcase : (n < 0 ∧ k = 0) ∨ (1000 < n ∧ k = 1000) ∨ (0 ≤ n ∧ n ≤ 1000 ∧ n = (k : Int)) := by omega
    rcases hcase with ⟨hn1, hk0⟩ | ⟨hn1, hk0⟩ | ⟨hn1, hn2, hn3⟩
    · have hMj : (m.length : Int) = (M : Int) := by omega
      have hb0 : ¬ (M : Int) = 0 := by omega
      have hb1 : ((M : Int) == 0) = false := beq_false_of_ne hb0
      clear hMi hk0
      clear hr hm hk hM hsh hbl h0 hl hki
      go_enter Try.func28, Try.ntmps28
      go_wp2_with (first
        | (go_at_call 42; (with_reducible refine HB.out.mono ?_); rintro e w1 ⟨⟨g3, o3, c3, rfl, hc3, hm3⟩, rfl⟩; have HM3 := Lib.hid hm3; clear hm3 hc3)
        | ((with_reducible refine wpMakeK 22 5 (.int .u8 0) M M Try.underlying22 HI8.out HZC.out HLL.out HLM0.out ?_ ?_); rfl; intro w1 r1 b1 s1; have R1 := Lib.hid (HRW.out w1 r1); have B1 := Lib.hid b1; clear r1 b1 s1)
        | ((with_reducible refine R1.out.wpCopyLK (i := 0) (dLen := M) (m := m.length) rfl 22 M c3 Try.underlying22 one_byte (HM3.out.step B1.out) HU.out HM0.out HML.out HRP.out HU1.out ?_ ?_); rfl; intro w2 r2 o2 s2; have R2 := Lib.hid r2; have O2 := Lib.hid o2; clear r2 o2 s2))
      go_ret
      refine ⟨⟨_, rfl, ?_⟩, B1.out.trans (O2.out.below (Nat.le_refl _) B1.out.size)⟩
      rw [HSH.out]
      refine ⟨_, _, by rw [List.length_append, List.length_replicate, ← HMK.out]; rfl, by rw [List.length_append, List.length_replicate, ← HMK.out]; exact Nat.le_refl _, ?_⟩
      have h := R2.out
      rw [List.nil_append] at h
      have e : u8s (m ++ List.replicate k 0) = u8s m ++ List.replicate k (.int .u8 0) := by rw [u8s_append]; congr 1; rw [u8s, List.map_replicate]; rfl
      rw [e]
      exact row_lies h
    · have hMj : (m.length : Int) + 1000 = (M : Int) := by omega
      clear hMi hk0
      clear hr hm hk hM hsh hbl h0 hl hki
      go_enter Try.func28, Try.ntmps28
      go_wp2_with (first
        | (go_at_call 42; (with_reducible refine HB.out.mono ?_); rintro e w1 ⟨⟨g3, o3, c3, rfl, hc3, hm3⟩, rfl⟩; have HM3 := Lib.hid hm3; clear hm3 hc3)
        | ((with_reducible refine wpMakeK 22 5 (.int .u8 0) M M Try.underlying22 HI8.out HZC.out HLL.out HLM0.out ?_ ?_); rfl; intro w1 r1 b1 s1; have R1 := Lib.hid (HRW.out w1 r1); have B1 := Lib.hid b1; clear r1 b1 s1)
        | ((with_reducible refine R1.out.wpCopyLK (i := 0) (dLen := M) (m := m.length) rfl 22 M c3 Try.underlying22 one_byte (HM3.out.step B1.out) HU.out HM0.out HML.out HRP.out HU1.out ?_ ?_); rfl; intro w2 r2 o2 s2; have R2 := Lib.hid r2; have O2 := Lib.hid o2; clear r2 o2 s2))
      go_ret
      refine ⟨⟨_, rfl, ?_⟩, B1.out.trans (O2.out.below (Nat.le_refl _) B1.out.size)⟩
      rw [HSH.out]
      refine ⟨_, _, by rw [List.length_append, List.length_replicate, ← HMK.out]; rfl, by rw [List.length_append, List.length_replicate, ← HMK.out]; exact Nat.le_refl _, ?_⟩
      have h := R2.out
      rw [List.nil_append] at h
      have e : u8s (m ++ List.replicate k 0) = u8s m ++ List.replicate k (.int .u8 0) := by rw [u8s_append]; congr 1; rw [u8s, List.map_replicate]; rfl
      rw [e]
      exact row_lies h
    · subst hn3
      clear hr hm hk hM hsh hbl h0 hl hki
      go_enter Try.func28, Try.ntmps28
      go_wp2_with (first
        | (go_at_call 42; (with_reducible refine HB.out.mono ?_); rintro e w1 ⟨⟨g3, o3, c3, rfl, hc3, hm3⟩, rfl⟩; have HM3 := Lib.hid hm3; clear hm3 hc3)
        | ((with_reducible refine wpMakeK 22 5 (.int .u8 0) M M Try.underlying22 HI8.out HZC.out HLL.out HLM0.out ?_ ?_); rfl; intro w1 r1 b1 s1; have R1 := Lib.hid (HRW.out w1 r1); have B1 := Lib.hid b1; clear r1 b1 s1)
        | ((with_reducible refine R1.out.wpCopyLK (i := 0) (dLen := M) (m := m.length) rfl 22 M c3 Try.underlying22 one_byte (HM3.out.step B1.out) HU.out HM0.out HML.out HRP.out HU1.out ?_ ?_); rfl; intro w2 r2 o2 s2; have R2 := Lib.hid r2; have O2 := Lib.hid o2; clear r2 o2 s2))
      go_ret
      refine ⟨⟨_, rfl, ?_⟩, B1.out.trans (O2.out.below (Nat.le_refl _) B1.out.size)⟩
      rw [HSH.out]
      refine ⟨_, _, by rw [List.length_append, List.length_replicate, ← HMK.out]; rfl, by rw [List.length_append, List.length_replicate, ← HMK.out]; exact Nat.le_refl _, ?_⟩
      have h := R2.out
      rw [List.nil_append] at h
      have e : u8s (m ++ List.replicate k 0) = u8s m ++ List.replicate k (.int .u8 0) := by rw [u8s_append]; congr 1; rw [u8s, List.map_replicate]; rfl
      rw [e]
      exact row_lies h

theorem Polys.get {w : World} {ts : List Hd} {ls : List (List Nat)} (h : Polys w ts ls) (k : Nat) (hk : k < ls.length) :
    ∃ a c, ts[k]'(by rw [h.len]; exact hk) = (a, ls[k].length, c) ∧ ls[k].length ≤ c ∧ c ≤ 140737488351232 ∧ By ls[k] ∧ Lies w w.heap.size a (u8s ls[k]) := by
  obtain ⟨h1, h2, h3, h4, h5⟩ := h.at_ k (by rw [h.len]; exact hk) hk
  have hk' : k < ts.length := by rw [h.len]; exact hk
  refine ⟨(ts[k]'hk').1, (ts[k]'hk').2.2, ?_, h2, h3, h4, h5⟩
  rw [← h1]
theorem Polys.by {w : World} {ts : List Hd} {ls : List (List Nat)} (h : Polys w ts ls) : ∀ l ∈ ls, By l := by
  intro l hl
  obtain ⟨i, hi, rfl⟩ := List.mem_iff_getElem.1 hl
  exact (h.at_ i (by rw [h.len]; exact hi) hi).2.2.2.1

end Go.Proofs.Ytpnjmbhplckgmaa
