/- Contracts of geo's below, within, Right. -/
import Derived.Test.YtiakbdekleaaoaaDoorInvS
import Derived.Test.YtiakbdekleaaoaaDoorInvG
import Derived.Test.YtiakbdekleaaoaaDoorSlice
import Derived.Test.YtiakbdekleaaoaaDoorGeoMath
namespace Go.Proofs.YtiakbdekleaaoaaDoor
open Go.RowKit GeoMath
set_option linter.unusedVariables false
set_option maxRecDepth 100000

def spc (s : Sp) : List Value := [.int .i64 s.n, .int .i64 s.lo, .int .i64 s.hi]
def spv (s : Sp) : Value := .agg (spc s).toArray
/-- The spans L lie at a. -/
def SpAt (w : World) (b : Nat) (L : List Sp) : Prop := b < w.heap.size ∧ ∀ i (h : i < L.length), w.rangeAt b (i * 3) (spc L[i])
theorem SpAt.step {w w' : World} {b : Nat} {L : List Sp} (h : SpAt w b L) (hb : Below w.heap.size w w') : SpAt w' b L :=
  ⟨Nat.lt_of_lt_of_le h.1 hb.size, fun i hi j v hj => (hb.cell (p := ⟨b, i * 3 + j, none⟩) h.1).trans (h.2 i hi j v hj)⟩
/-- A slice of the spans L. -/
def Sps (L : List Sp) : Value → World → Prop := fun v w => ∃ b, v = .slice (some ⟨b, 0, none⟩) L.length L.length ∧ SpAt w b L
theorem Sps.monot (L : List Sp) : Monot (Sps L) := fun _ _ _ ⟨b, h1, h2⟩ hb => ⟨b, h1, h2.step hb⟩
theorem SpAt.of_row {w : World} {b : Nat} {T : TypeId} {L : List Sp} (h : Row w b T (L.flatMap spc)) : SpAt w b L := by
  refine ⟨h.lt, fun i hi j v hj => ?_⟩
  rw [h.cell]
  have h3 : j < 3 := (List.getElem?_eq_some_iff.1 hj).1
  rw [← hj]
  clear h hj
  induction L generalizing i with
  | nil => exact absurd hi (by simp)
  | cons x L ih =>
    rw [List.flatMap_cons]
    cases i with
    | zero => rw [List.getElem?_append_left (by show 0 * 3 + j < 3; omega)]; simp
    | succ i =>
      rw [List.getElem?_append_right (by show 3 ≤ (i + 1) * 3 + j; omega)]
      have := ih i (by simpa using hi)
      rw [show (i + 1) * 3 + j - (spc x).length = i * 3 + j from by show (i + 1) * 3 + j - 3 = _; omega]
      simpa using this
section
variable {P : Program}
theorem wpLoadAtG {ops : Array Oper} {rest : List Oper} {o : Oper} {a : Act} {w : World} {Q : Exit → Act → World → Prop} {g i : Nat} {y : List Value} (hy : w.rangeAt g i y) (ty : TypeId) {n : Nat} (hf : Fits P ty n) (hl : y.length = n)
    (ho : loadOf o a = some (ty, .pointer (some ⟨g, i, none⟩))) (k : wpList P ops Q rest (a.put o.dst (.agg y.toArray)) w) : wpList P ops Q (o :: rest) a w := by
  obtain ⟨hg, x, ho, hx⟩ := loadOf_spec ho
  obtain ⟨d, hu, hd⟩ := hf.row
  exact wpList_load_mid hg ty x ho g i hx y d hy hu hd (by rw [hl]; exact hf.size) k
end
theorem fits_span : Fits Tryd.prog 42 3 := ⟨⟨_, Tryd.underlying42, rfl⟩, by kernel_rfl⟩
theorem zero_span : ∀ u, (zeroValue 42).run Tryd.prog u = .ok (.agg [Value.int .i64 0, .int .i64 0, .int .i64 0].toArray) u := fun u => by kernel_rfl

theorem below_any (n many m : Int) (w : World) (hm : wrap64 (many - 1) = m) :
    Calls Tryd.prog 17 #[.int .i64 n, .int .i64 many] w fun e w' => e = .returned (spv ⟨n, 0, m⟩) ∧ Below w.heap.size w w' := by
  have HM := Lib.hid hm
  clear hm
  have HV : Hid (Value.agg [Value.int .i64 n, .int .i64 0, .int .i64 (wrap64 (many - 1))].toArray = spv ⟨n, 0, m⟩) := Lib.hid (by rw [HM.out]; rfl)
  go_enter Tryd.func17, Tryd.ntmps17
  go_wp2_with (first
    | ((with_reducible refine wpAllocK [Value.int .i64 0, .int .i64 0, .int .i64 0] 42 zero_span ?_ ?_); rfl; intro w1 r1 b1 s1; have R1 := Lib.hid r1; have B1 := Lib.hid b1; clear r1 b1 s1)
    | ((with_reducible refine R1.out.wpStoreK 42 [Value.int .i64 n, .int .i64 0, .int .i64 (wrap64 (many - 1))] fits_span rfl rfl rfl ?_ ?_); rfl; intro w2 r2 o2 s2; have R2 := Lib.hid r2; have B2 := Lib.hid (B1.out.trans (o2.below (Nat.le_refl _) B1.out.size)); clear r2 o2 s2))
  exact bodyPost_ret (R2.out.result rfl _ _ rfl Tryd.underlying42 rfl fits_span.size) rfl ⟨by rw [HV.out], B2.out⟩
theorem okAll_bad {L : List Sp} {k : Nat} (hk : k < L.length) (h : L[k].ok = false) : okAll L = false := List.all_eq_false.2 ⟨_, List.getElem_mem hk, by rw [h]; decide⟩
theorem okAll_all {L : List Sp} (h : ∀ j (hj : j < L.length), L[j].ok = true) : okAll L = true := List.all_eq_true.2 fun s hs => by
  obtain ⟨j, hj, rfl⟩ := List.mem_iff_getElem.1 hs
  exact h j hj
theorem within_any (b : Nat) (L : List Sp) (w : World) (h : SpAt w b L) (hL : L.length < 1000) :
    Calls Tryd.prog 19 #[.slice (some ⟨b, 0, none⟩) L.length L.length] w fun e w' => e = .returned (.bool (okAll L)) ∧ Below w.heap.size w w' := by
  obtain ⟨n, hn⟩ : ∃ n, L.length = n := ⟨_, rfl⟩
  have HNL := Lib.hid hn
  have HH := Lib.hid h
  rw [hn] at hL ⊢
  clear h hn
  go_enter Tryd.func19, Tryd.ntmps19
  go_wp2
  go_loopw [7] (fun x wr => ∃ k : Nat, k ≤ n ∧ x = .int .i64 k ∧ Below w.heap.size w wr ∧ ∀ j (hj : j < L.length), j < k → L[j].ok = true) (fun x _ => n - (intOf x).toNat)
  case atStart => exact ⟨0, Nat.zero_le _, rfl, Below.refl _ _, fun j hj h => absurd h (by omega)⟩
  case round =>
    obtain ⟨k, hk, rfl, hbl, hall⟩ := hrel
    have HA := Lib.hid hall
    have HBL := Lib.hid hbl
    clear hall hbl
    by_cases hlt : k < n
    · have hkL : k < L.length := by rw [HNL.out]; exact hlt
      obtain ⟨x, lo, hi, hs⟩ : ∃ x lo hi, L[k] = ⟨x, lo, hi⟩ := ⟨_, _, _, rfl⟩
      have RY : Hid (wr.rangeAt b (k * 3) [Value.int .i64 x, .int .i64 lo, .int .i64 hi]) := Lib.hid (by
        have := (HH.out.step HBL.out).2 k hkL
        rwa [hs] at this)
      have HS : Hid (∀ hj : k < L.length, L[k] = ⟨x, lo, hi⟩) := Lib.hid fun _ => hs
      have HK := Lib.hid hkL
      clear hs hkL
      by_cases h1 : x < lo
      · have HG : Hid (okAll L = false) := Lib.hid (okAll_bad HK.out (by rw [HS.out HK.out]; simp [Sp.ok, h1]))
        go_wp2_with (first
          | ((with_reducible refine wpLoadAtG RY.out 42 fits_span rfl ?_ ?_); rfl)
          | ((with_reducible refine wpAllocK [Value.int .i64 0, .int .i64 0, .int .i64 0] 42 zero_span ?_ ?_); rfl; intro w1 r1 b1 s1; have R1 := Lib.hid r1; have B1 := Lib.hid (HBL.out.next b1); clear r1 b1 s1)
          | ((with_reducible refine R1.out.wpStoreK 42 [Value.int .i64 x, .int .i64 lo, .int .i64 hi] fits_span rfl rfl rfl ?_ ?_); rfl; intro w2 r2 o2 s2; have c0 := r2.cell 0; have c1 := r2.cell 1; have c2 := r2.cell 2; have B2 := Lib.hid (B1.out.trans (o2.below HBL.out.size B1.out.size)); clear r2 o2 s2))
        go_ret
        exact ⟨ret_bool HG.out.symm, B2.out⟩
      · by_cases h2 : hi < x
        · have HG : Hid (okAll L = false) := Lib.hid (okAll_bad HK.out (by rw [HS.out HK.out]; simp [Sp.ok, h2]))
          go_wp2_with (first
            | ((with_reducible refine wpLoadAtG RY.out 42 fits_span rfl ?_ ?_); rfl)
            | ((with_reducible refine wpAllocK [Value.int .i64 0, .int .i64 0, .int .i64 0] 42 zero_span ?_ ?_); rfl; intro w1 r1 b1 s1; have R1 := Lib.hid r1; have B1 := Lib.hid (HBL.out.next b1); clear r1 b1 s1)
            | ((with_reducible refine R1.out.wpStoreK 42 [Value.int .i64 x, .int .i64 lo, .int .i64 hi] fits_span rfl rfl rfl ?_ ?_); rfl; intro w2 r2 o2 s2; have c0 := r2.cell 0; have c1 := r2.cell 1; have c2 := r2.cell 2; have B2 := Lib.hid (B1.out.trans (o2.below HBL.out.size B1.out.size)); clear r2 o2 s2))
          go_ret
          exact ⟨ret_bool HG.out.symm, B2.out⟩
        · have HG : Hid (∀ hj : k < L.length, L[k].ok = true) := Lib.hid fun hj => by rw [HS.out hj]; simp [Sp.ok]; omega
          go_wp2_with (first
            | ((with_reducible refine wpLoadAtG RY.out 42 fits_span rfl ?_ ?_); rfl)
            | ((with_reducible refine wpAllocK [Value.int .i64 0, .int .i64 0, .int .i64 0] 42 zero_span ?_ ?_); rfl; intro w1 r1 b1 s1; have R1 := Lib.hid r1; have B1 := Lib.hid (HBL.out.next b1); clear r1 b1 s1)
            | ((with_reducible refine R1.out.wpStoreK 42 [Value.int .i64 x, .int .i64 lo, .int .i64 hi] fits_span rfl rfl rfl ?_ ?_); rfl; intro w2 r2 o2 s2; have c0 := r2.cell 0; have c1 := r2.cell 1; have c2 := r2.cell 2; have B2 := Lib.hid (B1.out.trans (o2.below HBL.out.size B1.out.size)); clear r2 o2 s2))
          go_roundw
          case rel => exact ⟨k + 1, by omega, by go_num, B2.out, fun j hj h => by
            by_cases e : j = k
            · subst e; exact HG.out hj
            · exact HA.out j hj (by omega)⟩
          case measure => simp [intOf]; omega
    · have HG : Hid (okAll L = true) := Lib.hid (okAll_all fun j hj => HA.out j hj (by rw [HNL.out] at hj; omega))
      go_wp2
      go_ret
      exact ⟨ret_bool HG.out.symm, HBL.out⟩
end Go.Proofs.YtiakbdekleaaoaaDoor
