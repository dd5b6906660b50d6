/- Trial; New. -/
import Derived.Test.YtbpdnaiackfdmaaMetB
namespace Go.Proofs.Ytbpdnaiackfdmaa
open Go.RowKit MetMath
set_option linter.unusedVariables false
set_option maxRecDepth 100000

theorem zero_slot : ∀ u, (zeroValue 25).run Try.prog u = .ok (.agg (slc ⟨0, 0, 0⟩).toArray) u := fun u => by kernel_rfl
theorem slots_index (a b c : Sl) (u : World) : (Instr.index 26 (.agg (slc a ++ slc b ++ slc c).toArray) (.int .i64 0)).run Try.prog u = .ok (.agg (slc a).toArray) u
    ∧ (Instr.index 26 (.agg (slc a ++ slc b ++ slc c).toArray) (.int .i64 1)).run Try.prog u = .ok (.agg (slc b).toArray) u
    ∧ (Instr.index 26 (.agg (slc a ++ slc b ++ slc c).toArray) (.int .i64 2)).run Try.prog u = .ok (.agg (slc c).toArray) u := by
  refine ⟨?_, ?_, ?_⟩ <;> kernel_rfl
def slots (m : Mt) : List Value := slc m.a ++ slc m.b ++ slc m.c
def rest4 (m : Mt) : List Value := [.int .i64 m.act, .int .i64 m.flo, .int .i64 m.cur, .int .i64 m.int]
theorem mcs_parts (m : Mt) : mcs m = [] ++ slots m ++ rest4 m := rfl

theorem met_trial_any (m : Mt) (w : World) : Calls Try.prog 10 #[.agg (mcs m).toArray] w fun e w' => e = .returned (.tuple #[.int .i64 m.trial.1, .bool m.trial.2]) ∧ Below w.heap.size w w' := by
  obtain ⟨S, hS⟩ : ∃ S, slots m = S := ⟨_, rfl⟩
  obtain ⟨R4, hR4⟩ : ∃ R4, rest4 m = R4 := ⟨_, rfl⟩
  have HS9 : Hid (S.length = 9) := Lib.hid (by rw [← hS]; rfl)
  have HI : Hid (∀ u, (Instr.index 26 (.agg S.toArray) (.int .i64 0)).run Try.prog u = .ok (.agg (slc m.a).toArray) u ∧ (Instr.index 26 (.agg S.toArray) (.int .i64 1)).run Try.prog u = .ok (.agg (slc m.b).toArray) u
      ∧ (Instr.index 26 (.agg S.toArray) (.int .i64 2)).run Try.prog u = .ok (.agg (slc m.c).toArray) u) := Lib.hid fun u => by rw [← hS]; exact slots_index m.a m.b m.c u
  obtain ⟨M, hM⟩ : ∃ M, mcs m = M := ⟨_, rfl⟩
  have HP : Hid (M = [] ++ S ++ R4) := Lib.hid (by rw [← hS, ← hR4, ← hM]; exact mcs_parts m)
  have HZ : Hid ((slc ⟨0, 0, 0⟩).length = 3) := Lib.hid rfl
  have hi0 : ∀ u, (Instr.index 26 (.agg S.toArray) (.int .i64 0)).run Try.prog u = .ok (.agg (slc m.a).toArray) u := fun u => (HI.out u).1
  have hi1 : ∀ u, (Instr.index 26 (.agg S.toArray) (.int .i64 1)).run Try.prog u = .ok (.agg (slc m.b).toArray) u := fun u => (HI.out u).2.1
  have hi2 : ∀ u, (Instr.index 26 (.agg S.toArray) (.int .i64 2)).run Try.prog u = .ok (.agg (slc m.c).toArray) u := fun u => (HI.out u).2.2
  obtain ⟨A0, hA0⟩ : ∃ X, slc m.a = X := ⟨_, rfl⟩
  obtain ⟨A1, hA1⟩ : ∃ X, slc m.b = X := ⟨_, rfl⟩
  obtain ⟨A2, hA2⟩ : ∃ X, slc m.c = X := ⟨_, rfl⟩
  rw [hA0] at hi0
  rw [hA1] at hi1
  rw [hA2] at hi2
  obtain ⟨Z, hZ⟩ : ∃ Z, slc ⟨0, 0, 0⟩ = Z := ⟨_, rfl⟩
  rw [hZ] at HZ
  have HZZ : Hid (∀ u, (zeroValue 25).run Try.prog u = .ok (.agg Z.toArray) u) := Lib.hid (by rw [← hZ]; exact zero_slot)
  have HA0 := Lib.hid hA0
  have HA1 := Lib.hid hA1
  have HA2 := Lib.hid hA2
  rw [hM]
  clear HI hS hR4 hM hZ hA0 hA1 hA2
  have L0 : Hid (A0.length = 3) := Lib.hid (by rw [← HA0.out]; rfl)
  have K0 : Hid (A0.all (·.oneCell') = true) := Lib.hid (by rw [← HA0.out]; rfl)
  have C0 : Hid (A0[0]? = some (.int .i64 m.a.s)) := Lib.hid (by rw [← HA0.out]; rfl)
  have L1 : Hid (A1.length = 3) := Lib.hid (by rw [← HA1.out]; rfl)
  have K1 : Hid (A1.all (·.oneCell') = true) := Lib.hid (by rw [← HA1.out]; rfl)
  have C1 : Hid (A1[0]? = some (.int .i64 m.b.s)) := Lib.hid (by rw [← HA1.out]; rfl)
  have L2 : Hid (A2.length = 3) := Lib.hid (by rw [← HA2.out]; rfl)
  have K2 : Hid (A2.all (·.oneCell') = true) := Lib.hid (by rw [← HA2.out]; rfl)
  have C2 : Hid (A2[0]? = some (.int .i64 m.c.s)) := Lib.hid (by rw [← HA2.out]; rfl)
  clear HA0 HA1 HA2
  by_cases h0 : m.a.s = 3
  · have ht : m.trial = (0, true) := by unfold Mt.trial; rw [if_pos h0]
    rw [ht]
    have e0 : (m.a.s == (3 : Int)) = true := by simp [h0]
    clear ht h0
    go_enter Try.func10, Try.ntmps10
    go_wp2_with (first
      | ((with_reducible refine wpBoxK M 28 ?_ ?_); rfl; intro u1 r1 b1 s1; have R1 : Hid (Row u1 w.heap.size 28 ([] ++ S ++ R4)) := Lib.hid (by rw [← HP.out]; exact r1); have B1 := Lib.hid b1; clear r1 b1 s1)
      | ((with_reducible refine R1.out.wpLoadMidK 0 rfl 26 fits_slots HS9.out ?_ ?_); rfl))
    refine wp_loop_rounds 1 ?_
    rw [rounds_succ]
    go_wp2_with (first
      | ((with_reducible refine wpAllocK (w := u1) Z 25 HZZ.out ?_ ?_); rfl; intro u2 r2 b2 s2; have R2 := Lib.hid r2; have B2 : Hid (Below w.heap.size w u2) := Lib.hid (B1.out.next b2); have G2 : Hid (w.heap.size ≤ u1.heap.size) := Lib.hid B1.out.size; clear r2 b2 s2)
      | ((with_reducible refine R2.out.wpStoreK 25 A0 fits_slot HZ.out L0.out K0.out ?_ ?_); rfl; intro u3 r3 o3 s3; have c3 := (r3.cell 0).trans C0.out; have B3 : Hid (Below w.heap.size w u3) := Lib.hid (B2.out.trans (o3.below G2.out B2.out.size)); clear r3 o3 s3))
    go_ret2
    exact ⟨rfl, B3.out⟩
  have e0 : (m.a.s == (3 : Int)) = false := by simp [h0]
  by_cases h1 : m.b.s = 3
  · have ht : m.trial = (1, true) := by unfold Mt.trial; rw [if_neg h0, if_pos h1]
    rw [ht]
    have e1 : (m.b.s == (3 : Int)) = true := by simp [h1]
    clear ht h1
    go_enter Try.func10, Try.ntmps10
    go_wp2_with (first
      | ((with_reducible refine wpBoxK M 28 ?_ ?_); rfl; intro u1 r1 b1 s1; have R1 : Hid (Row u1 w.heap.size 28 ([] ++ S ++ R4)) := Lib.hid (by rw [← HP.out]; exact r1); have B1 := Lib.hid b1; clear r1 b1 s1)
      | ((with_reducible refine R1.out.wpLoadMidK 0 rfl 26 fits_slots HS9.out ?_ ?_); rfl))
    refine wp_loop_rounds 2 ?_
    rw [rounds_succ]
    go_wp2_with (first
      | ((with_reducible refine wpAllocK (w := u1) Z 25 HZZ.out ?_ ?_); rfl; intro u2 r2 b2 s2; have R2 := Lib.hid r2; have B2 : Hid (Below w.heap.size w u2) := Lib.hid (B1.out.next b2); have G2 : Hid (w.heap.size ≤ u1.heap.size) := Lib.hid B1.out.size; clear r2 b2 s2)
      | ((with_reducible refine R2.out.wpStoreK 25 A0 fits_slot HZ.out L0.out K0.out ?_ ?_); rfl; intro u3 r3 o3 s3; have c3 := (r3.cell 0).trans C0.out; have B3 : Hid (Below w.heap.size w u3) := Lib.hid (B2.out.trans (o3.below G2.out B2.out.size)); clear r3 o3 s3))
    rw [rounds_succ]
    go_wp2_with (first
      | ((with_reducible refine wpAllocK (w := u3) Z 25 HZZ.out ?_ ?_); rfl; intro u4 r4 b4 s4; have R4 := Lib.hid r4; have B4 : Hid (Below w.heap.size w u4) := Lib.hid (B3.out.next b4); have G4 : Hid (w.heap.size ≤ u3.heap.size) := Lib.hid B3.out.size; clear r4 b4 s4)
      | ((with_reducible refine R4.out.wpStoreK 25 A1 fits_slot HZ.out L1.out K1.out ?_ ?_); rfl; intro u5 r5 o5 s5; have c5 := (r5.cell 0).trans C1.out; have B5 : Hid (Below w.heap.size w u5) := Lib.hid (B4.out.trans (o5.below G4.out B4.out.size)); clear r5 o5 s5))
    go_ret2
    exact ⟨rfl, B5.out⟩
  have e1 : (m.b.s == (3 : Int)) = false := by simp [h1]
  by_cases h2 : m.c.s = 3
  · have ht : m.trial = (2, true) := by unfold Mt.trial; rw [if_neg h0, if_neg h1, if_pos h2]
    rw [ht]
    have e2 : (m.c.s == (3 : Int)) = true := by simp [h2]
    clear ht h2
    go_enter Try.func10, Try.ntmps10
    go_wp2_with (first
      | ((with_reducible refine wpBoxK M 28 ?_ ?_); rfl; intro u1 r1 b1 s1; have R1 : Hid (Row u1 w.heap.size 28 ([] ++ S ++ R4)) := Lib.hid (by rw [← HP.out]; exact r1); have B1 := Lib.hid b1; clear r1 b1 s1)
      | ((with_reducible refine R1.out.wpLoadMidK 0 rfl 26 fits_slots HS9.out ?_ ?_); rfl))
    refine wp_loop_rounds 3 ?_
    rw [rounds_succ]
    go_wp2_with (first
      | ((with_reducible refine wpAllocK (w := u1) Z 25 HZZ.out ?_ ?_); rfl; intro u2 r2 b2 s2; have R2 := Lib.hid r2; have B2 : Hid (Below w.heap.size w u2) := Lib.hid (B1.out.next b2); have G2 : Hid (w.heap.size ≤ u1.heap.size) := Lib.hid B1.out.size; clear r2 b2 s2)
      | ((with_reducible refine R2.out.wpStoreK 25 A0 fits_slot HZ.out L0.out K0.out ?_ ?_); rfl; intro u3 r3 o3 s3; have c3 := (r3.cell 0).trans C0.out; have B3 : Hid (Below w.heap.size w u3) := Lib.hid (B2.out.trans (o3.below G2.out B2.out.size)); clear r3 o3 s3))
    rw [rounds_succ]
    go_wp2_with (first
      | ((with_reducible refine wpAllocK (w := u3) Z 25 HZZ.out ?_ ?_); rfl; intro u4 r4 b4 s4; have R4 := Lib.hid r4; have B4 : Hid (Below w.heap.size w u4) := Lib.hid (B3.out.next b4); have G4 : Hid (w.heap.size ≤ u3.heap.size) := Lib.hid B3.out.size; clear r4 b4 s4)
      | ((with_reducible refine R4.out.wpStoreK 25 A1 fits_slot HZ.out L1.out K1.out ?_ ?_); rfl; intro u5 r5 o5 s5; have c5 := (r5.cell 0).trans C1.out; have B5 : Hid (Below w.heap.size w u5) := Lib.hid (B4.out.trans (o5.below G4.out B4.out.size)); clear r5 o5 s5))
    rw [rounds_succ]
    go_wp2_with (first
      | ((with_reducible refine wpAllocK (w := u5) Z 25 HZZ.out ?_ ?_); rfl; intro u6 r6 b6 s6; have R6 := Lib.hid r6; have B6 : Hid (Below w.heap.size w u6) := Lib.hid (B5.out.next b6); have G6 : Hid (w.heap.size ≤ u5.heap.size) := Lib.hid B5.out.size; clear r6 b6 s6)
      | ((with_reducible refine R6.out.wpStoreK 25 A2 fits_slot HZ.out L2.out K2.out ?_ ?_); rfl; intro u7 r7 o7 s7; have c7 := (r7.cell 0).trans C2.out; have B7 : Hid (Below w.heap.size w u7) := Lib.hid (B6.out.trans (o7.below G6.out B6.out.size)); clear r7 o7 s7))
    go_ret2
    exact ⟨rfl, B7.out⟩
  have e2 : (m.c.s == (3 : Int)) = false := by simp [h2]
  have ht : m.trial = (0, false) := by unfold Mt.trial; rw [if_neg h0, if_neg h1, if_neg h2]
  rw [ht]
  clear ht h0 h1 h2
  go_enter Try.func10, Try.ntmps10
  go_wp2_with (first
    | ((with_reducible refine wpBoxK M 28 ?_ ?_); rfl; intro u1 r1 b1 s1; have R1 : Hid (Row u1 w.heap.size 28 ([] ++ S ++ R4)) := Lib.hid (by rw [← HP.out]; exact r1); have B1 := Lib.hid b1; clear r1 b1 s1)
    | ((with_reducible refine R1.out.wpLoadMidK 0 rfl 26 fits_slots HS9.out ?_ ?_); rfl))
  refine wp_loop_rounds 4 ?_
  rw [rounds_succ]
  go_wp2_with (first
    | ((with_reducible refine wpAllocK (w := u1) Z 25 HZZ.out ?_ ?_); rfl; intro u2 r2 b2 s2; have R2 := Lib.hid r2; have B2 : Hid (Below w.heap.size w u2) := Lib.hid (B1.out.next b2); have G2 : Hid (w.heap.size ≤ u1.heap.size) := Lib.hid B1.out.size; clear r2 b2 s2)
    | ((with_reducible refine R2.out.wpStoreK 25 A0 fits_slot HZ.out L0.out K0.out ?_ ?_); rfl; intro u3 r3 o3 s3; have c3 := (r3.cell 0).trans C0.out; have B3 : Hid (Below w.heap.size w u3) := Lib.hid (B2.out.trans (o3.below G2.out B2.out.size)); clear r3 o3 s3))
  rw [rounds_succ]
  go_wp2_with (first
    | ((with_reducible refine wpAllocK (w := u3) Z 25 HZZ.out ?_ ?_); rfl; intro u4 r4 b4 s4; have R4 := Lib.hid r4; have B4 : Hid (Below w.heap.size w u4) := Lib.hid (B3.out.next b4); have G4 : Hid (w.heap.size ≤ u3.heap.size) := Lib.hid B3.out.size; clear r4 b4 s4)
    | ((with_reducible refine R4.out.wpStoreK 25 A1 fits_slot HZ.out L1.out K1.out ?_ ?_); rfl; intro u5 r5 o5 s5; have c5 := (r5.cell 0).trans C1.out; have B5 : Hid (Below w.heap.size w u5) := Lib.hid (B4.out.trans (o5.below G4.out B4.out.size)); clear r5 o5 s5))
  rw [rounds_succ]
  go_wp2_with (first
    | ((with_reducible refine wpAllocK (w := u5) Z 25 HZZ.out ?_ ?_); rfl; intro u6 r6 b6 s6; have R6 := Lib.hid r6; have B6 : Hid (Below w.heap.size w u6) := Lib.hid (B5.out.next b6); have G6 : Hid (w.heap.size ≤ u5.heap.size) := Lib.hid B5.out.size; clear r6 b6 s6)
    | ((with_reducible refine R6.out.wpStoreK 25 A2 fits_slot HZ.out L2.out K2.out ?_ ?_); rfl; intro u7 r7 o7 s7; have c7 := (r7.cell 0).trans C2.out; have B7 : Hid (Below w.heap.size w u7) := Lib.hid (B6.out.trans (o7.below G6.out B6.out.size)); clear r7 o7 s7))
  rw [rounds_succ]
  go_wp2
  go_ret2
  exact ⟨rfl, B7.out⟩
end Go.Proofs.Ytbpdnaiackfdmaa
