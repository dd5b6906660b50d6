/- The statement AreaTexts holds for every input, the two listed variables as the program's own text lays them (the card's tie): the law's Go function answers true, and leaves what was there as it was. -/
import Derived.Test.YtojimgbcghiblaaGreatDoorRows
import Derived.Test.YtojimgbcghiblaaGreatDoorTie
import Derived.Test.YtojimgbcghiblaaGreatDoorCards
import Derived.Test.YtojimgbcghiblaaGreatDoorR9
import Derived.WalkKit
import Derived.ProofKit
import Derived.LaidMore
import Derived.SevenTiedAt
import Derived.OpenShut
import Derived.ShutString
import Derived.ChangeOld
import Derived.Below
import Derived.SizedLaws
namespace Go.Proofs.YtojimgbcghiblaaGreatDoor.areaTexts
open Go.ChangeShapes Go.WideShapes Go.ChangeAt Go.WideMaps Go.WideElems Go.RowKit
set_option linter.unusedVariables false

theorem own : ownKnob Tryz.prog.godebug = none := by kernel_rfl
theorem laidOut : laidOutB Tryz.prog = true := by kernel_rfl

theorem walk (w : World) (hg : Glob w) (cs0 : List Value) (x0 : Open.Ty.den (.pair (.int .i64) (.pair (.int .i64) (.pair (.int .i64) .unit)))) (r0 : Open.Reads w (.pair (.int .i64) (.pair (.int .i64) (.pair (.int .i64) .unit))) cs0 x0) (cs1 : List Value) (x1 : Open.Ty.den (.pair (.arr 3 (.int .i64)) (.pair (.int .i64) (.pair (.arr 32 (.int .u8)) .unit)))) (r1 : Open.Reads w (.pair (.arr 3 (.int .i64)) (.pair (.int .i64) (.pair (.arr 32 (.int .u8)) .unit))) cs1 x1) (a2 : ByteArray) (w2 : a2.size ≤ 140737488351232) :
    Calls Tryz.prog 3 #[.agg ⟨cs0⟩, .agg ⟨cs1⟩, .string a2] w fun e w' => e = .returned (.bool true) ∧ Below w.heap.size w w' := by
  obtain ⟨d, p, s, rfl⟩ := reads_geo r0
  obtain ⟨a, b, c, n, H, hH, rfl⟩ := reads_head r1
  exact areaTexts_walk a b c n H d p s a2 w hg hH (by omega)

theorem door_met (os : Os) (args : Array Value) : laidMetH Tryz.prog [("triptych/sha.first", Rows.laid_triptych_sha_first), ("triptych/sha.roots", Rows.laid_triptych_sha_roots)] ((World.doorLaid Tryz.prog 400 os).forCall (fun _ _ => 0) ⟨#[], args, []⟩).memory :=
  laidMetH_of_parts3 (fuel := 8) (laidMet_of_run' 8 (by kernel_rfl) (by kernel_rfl)) (by kernel_rfl) (by kernel_rfl)

set_option maxRecDepth 100000 in
set_option maxHeartbeats 1000000 in
theorem lifted (os : Os) (started : os.Started) (H : Type) (enc : TypeId × Value → H) :
    ReturnsInHanded {} Tryz.checked os 3 .any (fun w args => (Rows.areaTextsSpec.pre enc Tryz.prog Tryz.f3 Rows.areaTextsRow.domain false w args ∧ laidMetH Tryz.prog [("triptych/sha.first", Rows.laid_triptych_sha_first), ("triptych/sha.roots", Rows.laid_triptych_sha_roots)] w) ∧ sizedMet enc Tryz.prog Tryz.f3 (OpenSpec.ofChange Rows.areaTextsSpec) false w args)
      (Rows.areaTextsSpec.post enc Tryz.prog Tryz.f3 false true false false) := by
  refine returnsInHanded_of_change_and (C := Tryz.checked) (X := fun w _ => laidMetH Tryz.prog [("triptych/sha.first", Rows.laid_triptych_sha_first), ("triptych/sha.roots", Rows.laid_triptych_sha_roots)] w) (fun _ _ _ hh h => h.of_heap hh) own started (by kernel_rfl) Tryz.func3
    (ChangeSpec.witness_shaped (enc := enc) (C := Tryz.checked) (os := os) (X := fun w _ => laidMetH Tryz.prog [("triptych/sha.first", Rows.laid_triptych_sha_first), ("triptych/sha.roots", Rows.laid_triptych_sha_roots)] w) false (World.doorLaid Tryz.prog 400 os) #[.agg #[.int .i64 0, .int .i64 0, .int .i64 0], .agg #[.int .i64 0, .int .i64 0, .int .i64 0, .int .i64 0, .int .u8 0, .int .u8 0, .int .u8 0, .int .u8 0, .int .u8 0, .int .u8 0, .int .u8 0, .int .u8 0, .int .u8 0, .int .u8 0, .int .u8 0, .int .u8 0, .int .u8 0, .int .u8 0, .int .u8 0, .int .u8 0, .int .u8 0, .int .u8 0, .int .u8 0, .int .u8 0, .int .u8 0, .int .u8 0, .int .u8 0, .int .u8 0, .int .u8 0, .int .u8 0, .int .u8 0, .int .u8 0, .int .u8 0, .int .u8 0, .int .u8 0, .int .u8 0], .string ByteArray.empty] 8 rfl (World.shaped_of_RefB (by kernel_rfl) (by kernel_rfl)) (by kernel_rfl) (by kernel_rfl) (by kernel_rfl) (door_met os _)) ?_
  intro W base args ds gs before hval0 hW hcnd hsz0 hL _
  have hglob := glob_of_laid hL
  have hval : ∀ (j : Nat) t v, Tryz.f3.params[j]? = some t → args[j]? = some v → Value.okWide Tryz.prog W .any base t v := hval0
  have hW' := hW
  obtain ⟨p, q, hA0, hV, rfl, hfz, hnd⟩ := hW
  have hA : DataW.TrodAll enc Tryz.prog W 0 (fun _ => true) true Tryz.f3.params.toList args.toList ds p := hA0
  have hsz : (DataW.weightsEach Tryz.prog (Tryz.f3.params.toList ++ Rows.areaTextsSpec.plain.varTypes Tryz.prog) (ds ++ gs)).all (· ≤ reachBytes) = true := hsz0
  rw [Tryz.params3] at hA hval hsz
  obtain ⟨v0, vs0, d0, ds0, p0, q0, hargs, rfl, rfl, h0, r0⟩ := trodAll_cons hA
  obtain ⟨v1, vs1, d1, ds1, p1, q1, rfl, rfl, rfl, h1, r1⟩ := trodAll_cons r0
  obtain ⟨v2, vs2, d2, ds2, p2, q2, rfl, rfl, rfl, h2, r2⟩ := trodAll_cons r1
  obtain ⟨rfl, rfl, rfl⟩ := trodAll_nil r2
  obtain rfl : args = #[v0, v1, v2] := by cases args; simp_all
  obtain ⟨rfl, rfl⟩ := trodVars_none hV
  have k0 := h0
  have lt0 : ∀ x ∈ p0, x.block < W.heap.size := by obtain ⟨m, hm⟩ := k0; exact DataW.trod_lt m _ _ _ hm
  have k1 := h1
  have lt1 : ∀ x ∈ p1, x.block < W.heap.size := by obtain ⟨m, hm⟩ := k1; exact DataW.trod_lt m _ _ _ hm
  have k2 := h2
  have lt2 : ∀ x ∈ p2, x.block < W.heap.size := by obtain ⟨m, hm⟩ := k2; exact DataW.trod_lt m _ _ _ hm
  obtain ⟨fu0, hf0⟩ := h0
  obtain ⟨x0, R0⟩ := (Open.opens (w := W) (spare := fun _ => true) (fun _ => rfl) (.pair (.int .i64) (.pair (.int .i64) (.pair (.int .i64) .unit)))).1 23 fu0 _ _ (by kernel_rfl) hf0 (fun m hm => of_decide_eq_true (List.all_eq_true.1 hsz m (DataW.weights_mem_each (j := 0) rfl rfl m hm)))
  obtain ⟨cs0, rfl⟩ : ∃ cs, v0 = .agg cs := by have := hval 0 23 v0 rfl rfl; revert this; cases v0 <;> simp [Value.okWide, Tryz.underlying23]
  obtain ⟨fu1, hf1⟩ := h1
  obtain ⟨x1, R1⟩ := (Open.opens (w := W) (spare := fun _ => true) (fun _ => rfl) (.pair (.arr 3 (.int .i64)) (.pair (.int .i64) (.pair (.arr 32 (.int .u8)) .unit)))).1 29 fu1 _ _ (by kernel_rfl) hf1 (fun m hm => of_decide_eq_true (List.all_eq_true.1 hsz m (DataW.weights_mem_each (j := 1) rfl rfl m hm)))
  obtain ⟨cs1, rfl⟩ : ∃ cs, v1 = .agg cs := by have := hval 1 29 v1 rfl rfl; revert this; cases v1 <;> simp [Value.okWide, Tryz.underlying29]
  obtain ⟨fu2, hf2⟩ := h2
  obtain ⟨x2, R2⟩ := (Open.opens (w := W) (spare := fun _ => true) (fun _ => rfl) .str).1 9 fu2 _ _ (by kernel_rfl) hf2 (fun m hm => of_decide_eq_true (List.all_eq_true.1 hsz m (DataW.weights_mem_each (j := 2) rfl rfl m hm)))
  obtain ⟨y2, rfl⟩ := okWide_string Tryz.underlying9 (hval 2 9 v2 rfl rfl)
  obtain rfl : y2 = x2 := by have := R2.1; simp [Value.cells] at this; exact this
  clear hA0 hval0
  refine (walk W hglob cs0.toList x0 R0 cs1.toList x1 R1 y2 R2.2).mono fun e W' ⟨he, bel⟩ => ?_
  subst he
  exact ⟨_, rfl, _, _, _, [], _, [], hW', trodAll_mk1 (shut_bool Tryz.underlying4 _), (trodAll_cons_mk (Below.trod laidOut (by kernel_rfl) (of_decide_eq_true (by kernel_rfl)) k0 bel lt0) (trodAll_cons_mk (Below.trod laidOut (by kernel_rfl) (of_decide_eq_true (by kernel_rfl)) k1 bel lt1) (trodAll_cons_mk (Below.trod laidOut (by kernel_rfl) (of_decide_eq_true (by kernel_rfl)) k2 bel lt2) trodAll_mk0))), rfl, bel.frame _, fun h => by cases h⟩

theorem over : Rows.AreaTextsSaid :=
  OpenClaim.holds_of_wide 3 Tryz.f3 rfl rfl rfl rfl rfl rfl rfl ⟨rfl, rfl, rfl, rfl, rfl⟩ rfl rfl rfl rfl rfl (by kernel_rfl) Tryz.func3 (by kernel_rfl)
    (of_decide_eq_true (by kernel_rfl)) (by unfold Func.isWrapper; first | (rw [if_pos (by decide +kernel)]; kernel_rfl) | (rw [if_neg (by decide +kernel)]; exact ⟨rfl, rfl⟩))
    (fun os started H enc _ => lifted os started H enc)

theorem proved : Rows.AreaTextsCardSaid :=
  Claim7.holds_tied_plain_at .later [] [.data, .data] true (true, "766ed595ecb6e30a3638b7c54ee03d06d274b1aa15efbeb710128766bb3b0e86") false
    over (fun _ h => by cases h) (by kernel_rfl) (fun _ h => by cases h) areaTexts_row_tie rfl ⟨rfl, rfl⟩ (by kernel_rfl) rfl
    (fun f fn hf hfn => by
      obtain rfl : f = 3 := Option.some.inj ((show Tryz.prog.funcNamed "triptych/triptychlaw13.AreaTexts" = some 3 by kernel_rfl).symm.trans hf) |>.symm
      obtain rfl : fn = Tryz.f3 := (Option.some.inj (Tryz.func3.symm.trans hfn)).symm
      exact ⟨by kernel_rfl, fun j t ht => by
        rw [Tryz.params3] at ht
        have hm : t ∈ [23, 29, 9] := by simpa using Array.mem_of_getElem? ht
        have hall : ([23, 29, 9].all fun u => !Tryz.prog.wantsStandIn u) = true := by kernel_rfl
        exact (show Tryz.prog.wantsStandIn t = false by simpa using List.all_eq_true.1 hall t hm)⟩)
    (by kernel_rfl)
#print axioms proved
end Go.Proofs.YtojimgbcghiblaaGreatDoor.areaTexts
