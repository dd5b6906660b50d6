/- The statement StripeReads holds for every input: the law's Go function answers true, and leaves what was there as it was. No condition. -/
import Derived.Test.YtnbjaijhdjneoaaGreatRows
import Derived.Test.YtnbjaijhdjneoaaGreatP8
import Derived.WalkKit
import Derived.ProofKit
import Derived.OpenShut
import Derived.ShutString
import Derived.ChangeOld
import Derived.Below
import Derived.SizedLaws
namespace Go.Proofs.YtnbjaijhdjneoaaGreat.stripeReads
open Go.ChangeShapes Go.WideShapes Go.ChangeAt Go.RowKit
set_option linter.unusedVariables false

theorem own : ownKnob Tryz.prog.godebug = none := by kernel_rfl
theorem laidOut : laidOutB Tryz.prog = true := by kernel_rfl

theorem walk (w : World) (cs0 : List Value) (x0 : Open.Ty.den (.pair (.int .i64) (.pair (.int .i64) (.pair (.int .i64) .unit)))) (r0 : Open.Reads w (.pair (.int .i64) (.pair (.int .i64) (.pair (.int .i64) .unit))) cs0 x0) (a1 : Option Addr) (cap1 : Nat) (l1 : List (Open.Ty.den (.arr 60 (.int .u8)))) (r1 : Open.Reads w (.sl 60 (.arr 60 (.int .u8))) [.slice a1 l1.length cap1] l1) (a2 : Option Addr) (cap2 : Nat) (l2 : List (Open.Ty.den (.pair (.int .i64) (.pair (.int .i64) (.pair (.int .u8) (.pair .bool .unit)))))) (r2 : Open.Reads w (.sl 24 (.pair (.int .i64) (.pair (.int .i64) (.pair (.int .u8) (.pair .bool .unit))))) [.slice a2 l2.length cap2] l2) :
    Calls Tryz.prog 3 #[.agg ⟨cs0⟩, .slice a1 l1.length cap1, .slice a2 l2.length cap2] w fun e w' => e = .returned (.bool true) ∧ Below w.heap.size w w' := by
  obtain ⟨d, p, s, rfl⟩ := reads_geo r0
  obtain ⟨f, hf⟩ := reads_fb r1
  obtain ⟨ts, hts, htr⟩ := reads_tus r2
  exact stripeReads_walk d p s a1 a2 _ _ cap1 cap2 f ts w hf (reads_len r1) hts (reads_len r2) htr

set_option maxRecDepth 100000 in
set_option maxHeartbeats 1000000 in
theorem lifted (os : Os) (started : os.Started) (H : Type) (enc : TypeId × Value → H) :
    ReturnsInHanded {} Tryz.checked os 3 .any (Rows.stripeReadsSpec.pre6 enc Tryz.prog Tryz.f3 Rows.stripeReadsRow.domain false) (Rows.stripeReadsSpec.post enc Tryz.prog Tryz.f3 false true false false) := by
  refine returnsInHanded_of_change_sized (C := Tryz.checked) own started (by kernel_rfl) Tryz.func3
    (ChangeSpec.witness6 (enc := enc) (C := Tryz.checked) false ⟨#[], #[.agg #[.int .i64 0, .int .i64 0, .int .i64 0], .slice none 0 0, .slice none 0 0], []⟩ 8 (by kernel_rfl) (by kernel_rfl) (by kernel_rfl) (by kernel_rfl)) ?_
  intro W base args ds gs before hval0 hW hcnd hsz0 _
  have hval : ∀ (j : Nat) t v, Tryz.f3.params[j]? = some t → args[j]? = some v → Value.okWide Tryz.prog W .any base t v := hval0
  have hW' := hW
  obtain ⟨p, q, hA0, hV, rfl, hfz, hnd⟩ := hW
  have hA : DataW.TrodAll enc Tryz.prog W 0 (fun _ => true) true Tryz.f3.params.toList args.toList ds p := hA0
  have hsz : (DataW.weightsEach Tryz.prog (Tryz.f3.params.toList ++ Rows.stripeReadsSpec.plain.varTypes Tryz.prog) (ds ++ gs)).all (· ≤ reachBytes) = true := hsz0
  rw [Tryz.params3] at hA hval hsz
  obtain ⟨v0, vs0, d0, ds0, p0, q0, hargs, rfl, rfl, h0, r0⟩ := trodAll_cons hA
  obtain ⟨v1, vs1, d1, ds1, p1, q1, rfl, rfl, rfl, h1, r1⟩ := trodAll_cons r0
  obtain ⟨v2, vs2, d2, ds2, p2, q2, rfl, rfl, rfl, h2, r2⟩ := trodAll_cons r1
  obtain ⟨rfl, rfl, rfl⟩ := trodAll_nil r2
  obtain rfl : args = #[v0, v1, v2] := by cases args; simp_all
  obtain ⟨rfl, rfl⟩ := trodVars_none hV
  have k0 := h0
  have lt0 : ∀ x ∈ p0, x.block < W.heap.size := by obtain ⟨m, hm⟩ := k0; exact DataW.trod_lt m _ _ _ hm
  have k1 := h1
  have lt1 : ∀ x ∈ p1, x.block < W.heap.size := by obtain ⟨m, hm⟩ := k1; exact DataW.trod_lt m _ _ _ hm
  have k2 := h2
  have lt2 : ∀ x ∈ p2, x.block < W.heap.size := by obtain ⟨m, hm⟩ := k2; exact DataW.trod_lt m _ _ _ hm
  obtain ⟨fu0, hf0⟩ := h0
  obtain ⟨x0, R0⟩ := (Open.opens (w := W) (spare := fun _ => true) (fun _ => rfl) (.pair (.int .i64) (.pair (.int .i64) (.pair (.int .i64) .unit)))).1 23 fu0 _ _ (by kernel_rfl) hf0 (fun m hm => of_decide_eq_true (List.all_eq_true.1 hsz m (DataW.weights_mem_each (j := 0) rfl rfl m hm)))
  obtain ⟨cs0, rfl⟩ : ∃ cs, v0 = .agg cs := by have := hval 0 23 v0 rfl rfl; revert this; cases v0 <;> simp [Value.okWide, Tryz.underlying23]
  obtain ⟨fu1, hf1⟩ := h1
  obtain ⟨x1, R1⟩ := (Open.opens (w := W) (spare := fun _ => true) (fun _ => rfl) (.sl 60 (.arr 60 (.int .u8)))).1 24 fu1 _ _ (by kernel_rfl) hf1 (fun m hm => of_decide_eq_true (List.all_eq_true.1 hsz m (DataW.weights_mem_each (j := 1) rfl rfl m hm)))
  obtain ⟨a1, len1, cap1, rfl⟩ := okWide_slice Tryz.underlying24 (hval 1 24 v1 rfl rfl)
  obtain rfl : len1 = x1.length := by obtain ⟨_, _, hc, _⟩ := R1; simp [Value.cells] at hc; exact hc.2.1
  obtain ⟨fu2, hf2⟩ := h2
  obtain ⟨x2, R2⟩ := (Open.opens (w := W) (spare := fun _ => true) (fun _ => rfl) (.sl 24 (.pair (.int .i64) (.pair (.int .i64) (.pair (.int .u8) (.pair .bool .unit)))))).1 25 fu2 _ _ (by kernel_rfl) hf2 (fun m hm => of_decide_eq_true (List.all_eq_true.1 hsz m (DataW.weights_mem_each (j := 2) rfl rfl m hm)))
  obtain ⟨a2, len2, cap2, rfl⟩ := okWide_slice Tryz.underlying25 (hval 2 25 v2 rfl rfl)
  obtain rfl : len2 = x2.length := by obtain ⟨_, _, hc, _⟩ := R2; simp [Value.cells] at hc; exact hc.2.1
  clear hA0 hval0
  refine (walk W cs0.toList x0 R0 a1 cap1 x1 R1 a2 cap2 x2 R2).mono fun e W' ⟨he, bel⟩ => ?_
  subst he
  exact ⟨_, rfl, _, _, _, [], _, [], hW', trodAll_mk1 (shut_bool Tryz.underlying4 _), (trodAll_cons_mk (Below.trod laidOut (by kernel_rfl) (of_decide_eq_true (by kernel_rfl)) k0 bel lt0) (trodAll_cons_mk (Below.trod laidOut (by kernel_rfl) (of_decide_eq_true (by kernel_rfl)) k1 bel lt1) (trodAll_cons_mk (Below.trod laidOut (by kernel_rfl) (of_decide_eq_true (by kernel_rfl)) k2 bel lt2) trodAll_mk0))), rfl, bel.frame _, fun h => by cases h⟩

theorem over : Rows.stripeReadsRow.holds Tryz.pinned (OpenSpec.ofChange Rows.stripeReadsSpec) :=
  OpenClaim.holds_of_wide 3 Tryz.f3 rfl rfl rfl rfl rfl rfl rfl ⟨rfl, rfl, rfl, rfl, rfl⟩ rfl rfl rfl rfl rfl (by kernel_rfl) Tryz.func3 (by kernel_rfl)
    (of_decide_eq_true (by kernel_rfl)) (by unfold Func.isWrapper; first | (rw [if_pos (by decide +kernel)]; kernel_rfl) | (rw [if_neg (by decide +kernel)]; exact ⟨rfl, rfl⟩))
    (fun os started H enc _ => lifted os started H enc)

theorem proved : Rows.StripeReadsSaid := over
#print axioms proved
end Go.Proofs.YtnbjaijhdjneoaaGreat.stripeReads
