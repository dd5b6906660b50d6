/- The texts GeoA, GeoB, GeoC, GeoD, GeoE, Lst, TalG, TalD, GeoF, GeoMath2, SliceM, GeoG, GeoH, GeoMath3, GeoI, Geo1, TalH, TalI, TalJ, GeoR, TalK, one behind the other. -/
import Derived.Deep.MidRow
import Derived.Test.YtcehdgdgjjecmaaB2
/- Contracts of geo's below, within, Right. -/
namespace Go.Proofs.Ytcehdgdgjjecmaa
open Go.RowKit GeoMath
set_option linter.unusedVariables false
set_option maxRecDepth 100000

def spc (s : Sp) : List Value := [.int .i64 s.n, .int .i64 s.lo, .int .i64 s.hi]
def spv (s : Sp) : Value := .agg (spc s).toArray
/-- The spans L lie at a. -/
def SpAt (w : World) (b : Nat) (L : List Sp) : Prop := b < w.heap.size ∧ ∀ i (h : i < L.length), w.rangeAt b (i * 3) (spc L[i])
theorem SpAt.step {w w' : World} {b : Nat} {L : List Sp} (h : SpAt w b L) (hb : Below w.heap.size w w') : SpAt w' b L :=
  ⟨Nat.lt_of_lt_of_le h.1 hb.size, fun i hi j v hj => (hb.cell (p := ⟨b, i * 3 + j, none⟩) h.1).trans (h.2 i hi j v hj)⟩
/-- A slice of the spans L. -/
def Sps (L : List Sp) : Value → World → Prop := fun v w => ∃ b, v = .slice (some ⟨b, 0, none⟩) L.length L.length ∧ SpAt w b L
theorem Sps.monot (L : List Sp) : Monot (Sps L) := fun _ _ _ ⟨b, h1, h2⟩ hb => ⟨b, h1, h2.step hb⟩
theorem SpAt.of_row {w : World} {b : Nat} {T : TypeId} {L : List Sp} (h : Row w b T (L.flatMap spc)) : SpAt w b L := by
  refine ⟨h.lt, fun i hi j v hj => ?_⟩
  rw [h.cell]
  have h3 : j < 3 := (List.getElem?_eq_some_iff.1 hj).1
  rw [← hj]
  clear h hj
  induction L generalizing i with
  | nil => exact absurd hi (by simp)
  | cons x L ih =>
    rw [List.flatMap_cons]
    cases i with
    | zero => rw [List.getElem?_append_left (by show 0 * 3 + j < 3; omega)]; simp
    | succ i =>
      rw [List.getElem?_append_right (by show 3 ≤ (i + 1) * 3 + j; omega)]
      have := ih i (by simpa using hi)
      rw [show (i + 1) * 3 + j - (spc x).length = i * 3 + j from by show (i + 1) * 3 + j - 3 = _; omega]
      simpa using this
section
variable {P : Program}
theorem wpLoadAtG {ops : Array Oper} {rest : List Oper} {o : Oper} {a : Act} {w : World} {Q : Exit → Act → World → Prop} {g i : Nat} {y : List Value} (hy : w.rangeAt g i y) (ty : TypeId) {n : Nat} (hf : Fits P ty n) (hl : y.length = n)
    (ho : loadOf o a = some (ty, .pointer (some ⟨g, i, none⟩))) (k : wpList P ops Q rest (a.put o.dst (.agg y.toArray)) w) : wpList P ops Q (o :: rest) a w := by
  obtain ⟨hg, x, ho, hx⟩ := loadOf_spec ho
  obtain ⟨d, hu, hd⟩ := hf.row
  exact wpList_load_mid hg ty x ho g i hx y d hy hu hd (by rw [hl]; exact hf.size) k
end
theorem fits_span : Fits Try.prog 67 3 := ⟨⟨_, Try.underlying67, rfl⟩, by kernel_rfl⟩
theorem zero_span : ∀ u, (zeroValue 67).run Try.prog u = .ok (.agg [Value.int .i64 0, .int .i64 0, .int .i64 0].toArray) u := fun u => by kernel_rfl

theorem below_any (n many m : Int) (w : World) (hm : wrap64 (many - 1) = m) :
    Calls Try.prog 36 #[.int .i64 n, .int .i64 many] w fun e w' => e = .returned (spv ⟨n, 0, m⟩) ∧ Below w.heap.size w w' := by
  have HM := Lib.hid hm
  clear hm
  have HV : Hid (Value.agg [Value.int .i64 n, .int .i64 0, .int .i64 (wrap64 (many - 1))].toArray = spv ⟨n, 0, m⟩) := Lib.hid (by rw [HM.out]; rfl)
  go_enter Try.func36, Try.ntmps36
  go_wp2_with (first
    | ((with_reducible refine wpAllocK [Value.int .i64 0, .int .i64 0, .int .i64 0] 67 zero_span ?_ ?_); rfl; intro w1 r1 b1 s1; have R1 := Lib.hid r1; have B1 := Lib.hid b1; clear r1 b1 s1)
    | ((with_reducible refine R1.out.wpStoreK 67 [Value.int .i64 n, .int .i64 0, .int .i64 (wrap64 (many - 1))] fits_span rfl rfl rfl ?_ ?_); rfl; intro w2 r2 o2 s2; have R2 := Lib.hid r2; have B2 := Lib.hid (B1.out.trans (o2.below (Nat.le_refl _) B1.out.size)); clear r2 o2 s2))
  exact bodyPost_ret (R2.out.result rfl _ _ rfl Try.underlying67 rfl fits_span.size) rfl ⟨by rw [HV.out], B2.out⟩
theorem okAll_bad {L : List Sp} {k : Nat} (hk : k < L.length) (h : L[k].ok = false) : okAll L = false := List.all_eq_false.2 ⟨_, List.getElem_mem hk, by rw [h]; decide⟩
theorem okAll_all {L : List Sp} (h : ∀ j (hj : j < L.length), L[j].ok = true) : okAll L = true := List.all_eq_true.2 fun s hs => by
  obtain ⟨j, hj, rfl⟩ := List.mem_iff_getElem.1 hs
  exact h j hj
theorem geowithin_any (b : Nat) (L : List Sp) (w : World) (h : SpAt w b L) (hL : L.length < 1000) :
    Calls Try.prog 34 #[.slice (some ⟨b, 0, none⟩) L.length L.length] w fun e w' => e = .returned (.bool (okAll L)) ∧ Below w.heap.size w w' := by
  obtain ⟨n, hn⟩ : ∃ n, L.length = n := ⟨_, rfl⟩
  have HNL := Lib.hid hn
  have HH := Lib.hid h
  rw [hn] at hL ⊢
  clear h hn
  go_enter Try.func34, Try.ntmps34
  go_wp2
  go_loopw [7] (fun x wr => ∃ k : Nat, k ≤ n ∧ x = .int .i64 k ∧ Below w.heap.size w wr ∧ ∀ j (hj : j < L.length), j < k → L[j].ok = true) (fun x _ => n - (intOf x).toNat)
  case atStart => exact ⟨0, Nat.zero_le _, rfl, Below.refl _ _, fun j hj h => absurd h (by omega)⟩
  case round =>
    obtain ⟨k, hk, rfl, hbl, hall⟩ := hrel
    have HA := Lib.hid hall
    have HBL := Lib.hid hbl
    clear hall hbl
    by_cases hlt : k < n
    · have hkL : k < L.length := by rw [HNL.out]; exact hlt
      obtain ⟨x, lo, hi, hs⟩ : ∃ x lo hi, L[k] = ⟨x, lo, hi⟩ := ⟨_, _, _, rfl⟩
      have RY : Hid (wr.rangeAt b (k * 3) [Value.int .i64 x, .int .i64 lo, .int .i64 hi]) := Lib.hid (by
        have := (HH.out.step HBL.out).2 k hkL
        rwa [hs] at this)
      have HS : Hid (∀ hj : k < L.length, L[k] = ⟨x, lo, hi⟩) := Lib.hid fun _ => hs
      have HK := Lib.hid hkL
      clear hs hkL
      by_cases h1 : x < lo
      · have HG : Hid (okAll L = false) := Lib.hid (okAll_bad HK.out (by rw [HS.out HK.out]; simp [Sp.ok, h1]))
        go_wp2_with (first
          | ((with_reducible refine wpLoadAtG RY.out 67 fits_span rfl ?_ ?_); rfl)
          | ((with_reducible refine wpAllocK [Value.int .i64 0, .int .i64 0, .int .i64 0] 67 zero_span ?_ ?_); rfl; intro w1 r1 b1 s1; have R1 := Lib.hid r1; have B1 := Lib.hid (HBL.out.next b1); clear r1 b1 s1)
          | ((with_reducible refine R1.out.wpStoreK 67 [Value.int .i64 x, .int .i64 lo, .int .i64 hi] fits_span rfl rfl rfl ?_ ?_); rfl; intro w2 r2 o2 s2; have c0 := r2.cell 0; have c1 := r2.cell 1; have c2 := r2.cell 2; have B2 := Lib.hid (B1.out.trans (o2.below HBL.out.size B1.out.size)); clear r2 o2 s2))
        go_ret
        exact ⟨ret_bool HG.out.symm, B2.out⟩
      · by_cases h2 : hi < x
        · have HG : Hid (okAll L = false) := Lib.hid (okAll_bad HK.out (by rw [HS.out HK.out]; simp [Sp.ok, h2]))
          go_wp2_with (first
            | ((with_reducible refine wpLoadAtG RY.out 67 fits_span rfl ?_ ?_); rfl)
            | ((with_reducible refine wpAllocK [Value.int .i64 0, .int .i64 0, .int .i64 0] 67 zero_span ?_ ?_); rfl; intro w1 r1 b1 s1; have R1 := Lib.hid r1; have B1 := Lib.hid (HBL.out.next b1); clear r1 b1 s1)
            | ((with_reducible refine R1.out.wpStoreK 67 [Value.int .i64 x, .int .i64 lo, .int .i64 hi] fits_span rfl rfl rfl ?_ ?_); rfl; intro w2 r2 o2 s2; have c0 := r2.cell 0; have c1 := r2.cell 1; have c2 := r2.cell 2; have B2 := Lib.hid (B1.out.trans (o2.below HBL.out.size B1.out.size)); clear r2 o2 s2))
          go_ret
          exact ⟨ret_bool HG.out.symm, B2.out⟩
        · have HG : Hid (∀ hj : k < L.length, L[k].ok = true) := Lib.hid fun hj => by rw [HS.out hj]; simp [Sp.ok]; omega
          go_wp2_with (first
            | ((with_reducible refine wpLoadAtG RY.out 67 fits_span rfl ?_ ?_); rfl)
            | ((with_reducible refine wpAllocK [Value.int .i64 0, .int .i64 0, .int .i64 0] 67 zero_span ?_ ?_); rfl; intro w1 r1 b1 s1; have R1 := Lib.hid r1; have B1 := Lib.hid (HBL.out.next b1); clear r1 b1 s1)
            | ((with_reducible refine R1.out.wpStoreK 67 [Value.int .i64 x, .int .i64 lo, .int .i64 hi] fits_span rfl rfl rfl ?_ ?_); rfl; intro w2 r2 o2 s2; have c0 := r2.cell 0; have c1 := r2.cell 1; have c2 := r2.cell 2; have B2 := Lib.hid (B1.out.trans (o2.below HBL.out.size B1.out.size)); clear r2 o2 s2))
          go_roundw
          case rel => exact ⟨k + 1, by omega, by go_num, B2.out, fun j hj h => by
            by_cases e : j = k
            · subst e; exact HG.out hj
            · exact HA.out j hj (by omega)⟩
          case measure => simp [intOf]; omega
    · have HG : Hid (okAll L = true) := Lib.hid (okAll_all fun j hj => HA.out j hj (by rw [HNL.out] at hj; omega))
      go_wp2
      go_ret
      exact ⟨ret_bool HG.out.symm, HBL.out⟩
end Go.Proofs.Ytcehdgdgjjecmaa

/- Contracts of geo's Right, Wide, Slot, log, tally, All, Room, Golden, ask. -/
namespace Go.Proofs.Ytcehdgdgjjecmaa
open Go.RowKit GeoMath
set_option linter.unusedVariables false
set_option maxRecDepth 100000

def geoV (g : Gm) : Value := .agg #[.int .i64 g.d, .int .i64 g.p, .int .i64 g.s]
theorem fits_geo : Fits Try.prog 23 3 := ⟨⟨_, Try.underlying23, rfl⟩, by kernel_rfl⟩
theorem within_new (L : List Sp) (cs : Array Value) (n : Nat) (w : World) (hc : cs = (L.flatMap spc).toArray) (hn : L.length = n) (hL : n < 1000) :
    Calls Try.prog 34 #[.slice (some ⟨w.heap.size, 0, none⟩) n n] (w.alloc (.cells cs 67)) fun e w' => e = .returned (.bool (okAll L)) ∧ Below w.heap.size w w' := by
  subst hc
  subst hn
  refine (geowithin_any _ L _ (SpAt.of_row (Row.new w 67 (L.flatMap spc))) hL).mono ?_
  rintro e w' ⟨h1, h2⟩
  exact ⟨h1, (alloc_below w _).next h2⟩
theorem right_any (g : Gm) (w : World) :
    Calls Try.prog 21 #[geoV g] w fun e w' => e = .returned (.bool (right g)) ∧ Below w.heap.size w w' := by
  have HX := Lib.hid fun w1 => within_new [⟨g.d, 1, 8⟩, ⟨g.p, 2, 6⟩, ⟨g.s, 1, 8⟩] #[.int .i64 g.d, .int .i64 1, .int .i64 8, .int .i64 g.p, .int .i64 2, .int .i64 6, .int .i64 g.s, .int .i64 1, .int .i64 8] 3 w1 rfl rfl (by decide)
  have HR : Hid (okAll [⟨g.d, 1, 8⟩, ⟨g.p, 2, 6⟩, ⟨g.s, 1, 8⟩] = right g) := Lib.hid rfl
  generalize okAll [⟨g.d, 1, 8⟩, ⟨g.p, 2, 6⟩, ⟨g.s, 1, 8⟩] = r at HX HR
  rw [← HR.out]
  obtain ⟨d, p, s⟩ := g
  dsimp only [geoV] at HX ⊢
  go_enter Try.func21, Try.ntmps21
  go_wp2_with (first
    | ((with_reducible refine wpBoxK [Value.int .i64 d, .int .i64 p, .int .i64 s] 23 ?_ ?_); rfl; intro w1 r1 b1 s1; have c0 := r1.cell 0; have c1 := r1.cell 1; have c2 := r1.cell 2; have B1 := Lib.hid b1; clear r1 b1 s1)
    | (go_at_call 34; (with_reducible refine (HX.out w1).mono ?_); rintro e u1 ⟨rfl, b2⟩; have B2 := Lib.hid (B1.out.next b2); clear b2))
  go_ret
  exact ⟨rfl, B2.out⟩
theorem wide_any (g : Gm) (w : World) :
    Calls Try.prog 57 #[geoV g] w fun e w' => e = .returned (.int .i64 (wide g)) ∧ Below w.heap.size w w' := by
  have HX := Lib.hid fun w1 => right_any g w1
  cases hr : right g with
  | false =>
    have HW := Lib.hid (wide_no hr)
    rw [hr] at HX
    clear hr
    obtain ⟨d, p, s⟩ := g
    dsimp only [geoV] at HX ⊢
    go_enter Try.func57, Try.ntmps57
    go_wp2_with (first
      | ((with_reducible refine wpBoxK [Value.int .i64 d, .int .i64 p, .int .i64 s] 23 ?_ ?_); rfl; intro w1 r1 b1 s1; have R1 := Lib.hid r1; have B1 := Lib.hid b1; clear r1 b1 s1)
      | ((with_reducible refine R1.out.wpLoadK 23 fits_geo rfl ?_ ?_); rfl)
      | (go_at_call 21; (with_reducible refine (HX.out w1).mono ?_); rintro e u1 ⟨rfl, b2⟩; have B2 := Lib.hid (B1.out.next b2); clear b2))
    go_ret
    exact ⟨ret_int HW.out.symm, B2.out⟩
  | true =>
    have HW := Lib.hid (wide_yes hr)
    have hg := (right_iff g).1 hr
    rw [hr] at HX
    clear hr
    obtain ⟨d, p, s⟩ := g
    have h1 := hg.d1
    have h2 := hg.d8
    have h3 := hg.p2
    have h4 := hg.p6
    clear hg
    dsimp only [geoV] at HX h1 h2 h3 h4 ⊢
    go_enter Try.func57, Try.ntmps57
    go_wp2_with (first
      | ((with_reducible refine wpBoxK [Value.int .i64 d, .int .i64 p, .int .i64 s] 23 ?_ ?_); rfl; intro w1 r1 b1 s1; have R1 := Lib.hid r1; have B1 := Lib.hid b1; clear r1 b1 s1)
      | ((with_reducible refine R1.out.wpLoadK 23 fits_geo rfl ?_ ?_); rfl)
      | (go_at_call 21; (with_reducible refine (HX.out w1).mono ?_); rintro e u1 ⟨rfl, b2⟩; have R2 := R1.out.step b2; have c0 := R2.cell 0; have c1 := R2.cell 1; have B2 := Lib.hid (B1.out.next b2); clear b2 R2))
    go_ret
    exact ⟨ret_int HW.out.symm, B2.out⟩
end Go.Proofs.Ytcehdgdgjjecmaa

/- Contracts of geo's Slot, log, tally, All, Room, Golden, ask (gen_geo_c.py). -/
namespace Go.Proofs.Ytcehdgdgjjecmaa
open Go.RowKit GeoMath
set_option linter.unusedVariables false
set_option maxRecDepth 100000

theorem slot_any (g : Gm) (w : World) :
    Calls Try.prog 50 #[geoV g] w fun e w' => e = .returned (.int .i64 (slot g)) ∧ Below w.heap.size w w' := by
  have HX := Lib.hid fun w1 => wide_any g w1
  have HW : Hid (IntKind.i64.wrap (wide g * g.s) = slot g) := Lib.hid (by
    have := slot_le g
    rw [← slot, IntKind.wrap_i64]
    omega)
  generalize slot g = sl at HW ⊢
  generalize wide g = wd at HX HW
  obtain ⟨d, p, s⟩ := g
  dsimp only [geoV] at HX HW ⊢
  go_enter Try.func50, Try.ntmps50
  go_wp2_with ((with_reducible refine wpBoxK [Value.int .i64 d, .int .i64 p, .int .i64 s] 23 ?_ ?_); rfl; intro w1 r1 b1 s1; have R1 := Lib.hid r1; have B1 := Lib.hid b1; clear r1 b1 s1)
  have HLT : Hid (w.heap.size < w1.heap.size) := Lib.hid R1.out.lt
  have C0 : Hid (w1.cell? ⟨w.heap.size, 0, none⟩ = some (.int .i64 d)) := Lib.hid (R1.out.cell 0)
  have C1 : Hid (w1.cell? ⟨w.heap.size, 1, none⟩ = some (.int .i64 p)) := Lib.hid (R1.out.cell 1)
  have C2 : Hid (w1.cell? ⟨w.heap.size, 2, none⟩ = some (.int .i64 s)) := Lib.hid (R1.out.cell 2)
  refine region_invX [(0, 3), (1, 4), (2, 5), (3, 6), (4, 7), (5, 2)]
    (fun ii => [Is (.agg #[(.int .i64 d), (.int .i64 p), (.int .i64 s)]), Is (.int .i64 wd), Is (.pointer (some ⟨w.heap.size, 2, none⟩)), Is (.int .i64 s), Is (.int .i64 sl), Is (.int .i64 sl)].getD ii (Is undef))
    (fun w' => Below w1.heap.size w1 w') (by kernel_rfl) (by kernel_rfl) (by decide) (by decide) (by kernel_rfl) rfl ?monoq ((Below.refl _ _).drew) ?stepq ?finq
  case monoq =>
    intro i
    match i with
    | 0 | 1 | 2 | 3 | 4 | 5 => exact Is.monot _
    | _ + 6 => exact Is.monot _
  case stepq =>
    refine List.forall_mem_cons.2 ⟨?qs0, List.forall_mem_cons.2 ⟨?qs1, List.forall_mem_cons.2 ⟨?qs2, List.forall_mem_cons.2 ⟨?qs3, List.forall_mem_cons.2 ⟨?qs4, List.forall_mem_cons.2 ⟨?qs5, List.forall_mem_nil _⟩⟩⟩⟩⟩⟩
    case qs0 =>
      intro u wx hg hC
      clear hC
      have hcl0 : wx.cell? ⟨w.heap.size, 0, none⟩ = some (.int .i64 d) := (hg.cell (p := ⟨w.heap.size, 0, none⟩) HLT.out).trans C0.out
      have hcl1 : wx.cell? ⟨w.heap.size, 1, none⟩ = some (.int .i64 p) := (hg.cell (p := ⟨w.heap.size, 1, none⟩) HLT.out).trans C1.out
      have hcl2 : wx.cell? ⟨w.heap.size, 2, none⟩ = some (.int .i64 s) := (hg.cell (p := ⟨w.heap.size, 2, none⟩) HLT.out).trans C2.out
      refine wpOp_step rfl (fun K hK => ?_)
      simp only [puts, List.foldl]
      go_simp
      exact hK _ _ ⟨rfl, rfl, hg, Below.refl _ _⟩
    case qs1 =>
      intro u wx hg hC
      have hJ0 : u 0 = (.agg #[(.int .i64 d), (.int .i64 p), (.int .i64 s)]) := hC.at 0 (by kernel_rfl)
      clear hC
      refine wpOp_step rfl (fun K hK => ?_)
      simp only [puts, List.foldl]
      go_simp
      refine (HX.out wx).mono ?_
      rintro e w' ⟨rfl, hb'⟩
      exact hK _ _ ⟨rfl, rfl, hg.next hb', hb'⟩
    case qs2 =>
      intro u wx hg hC
      clear hC
      refine wpOp_step rfl (fun K hK => ?_)
      simp only [puts, List.foldl]
      go_simp
      exact hK _ _ ⟨rfl, rfl, hg, Below.refl _ _⟩
    case qs3 =>
      intro u wx hg hC
      have hJ2 : u 2 = (.pointer (some ⟨w.heap.size, 2, none⟩)) := hC.at 2 (by kernel_rfl)
      clear hC
      have hcl : wx.cell? ⟨w.heap.size, 2, none⟩ = some (.int .i64 s) := (hg.cell (p := ⟨w.heap.size, 2, none⟩) HLT.out).trans C2.out
      refine wpOp_step rfl (fun K hK => ?_)
      simp only [puts, List.foldl]
      go_simp
      exact hK _ _ ⟨rfl, rfl, hg, Below.refl _ _⟩
    case qs4 =>
      intro u wx hg hC
      have hJ1 : u 1 = (.int .i64 wd) := hC.at 1 (by kernel_rfl)
      have hJ3 : u 3 = (.int .i64 s) := hC.at 3 (by kernel_rfl)
      clear hC
      have hw : IntKind.i64.wrap (wd * s) = sl := HW.out
      refine wpOp_step rfl (fun K hK => ?_)
      simp only [puts, List.foldl]
      go_simp
      exact hK _ _ ⟨rfl, rfl, hg, Below.refl _ _⟩
    case qs5 =>
      intro u wx hg hC
      have hJ4 : u 4 = (.int .i64 sl) := hC.at 4 (by kernel_rfl)
      clear hC
      refine wpOp_step rfl (fun K hK => ?_)
      simp only [puts, List.foldl]
      go_simp
      exact hK _ _ ⟨rfl, rfl, hg, Below.refl _ _⟩
  case finq =>
    intro u wq hbq hφ
    have e2 : u 5 = .int .i64 sl := hφ (5, 2) (by decide)
    clear hφ
    simp only [puts, List.foldl]
    go_simp
    have HBQ := Lib.hid (B1.out.next hbq)
    clear hbq e2
    go_wp2
    go_ret
    exact ⟨ret_int rfl, HBQ.out⟩
theorem geo_log_any (g : Gm) (w : World) :
    Calls Try.prog 41 #[geoV g] w fun e w' => e = .returned (.int .i64 (log g)) ∧ Below w.heap.size w w' := by
  have HX := Lib.hid fun w1 => slot_any g w1
  have HW := slot_le g
  rw [log]
  generalize slot g = sl at HX HW ⊢
  have h1 := HW.1
  have h2 := HW.2
  clear HW
  obtain ⟨d, p, s⟩ := g
  dsimp only [geoV] at HX ⊢
  go_enter Try.func41, Try.ntmps41
  go_wp2_with (first
    | ((with_reducible refine wpBoxK [Value.int .i64 d, .int .i64 p, .int .i64 s] 23 ?_ ?_); rfl; intro w1 r1 b1 s1; have R1 := Lib.hid r1; have B1 := Lib.hid b1; clear r1 b1 s1)
    | ((with_reducible refine R1.out.wpLoadK 23 fits_geo rfl ?_ ?_); rfl)
    | (go_at_call 50; (with_reducible refine (HX.out w1).mono ?_); rintro e u1 ⟨rfl, b2⟩; have B2 := Lib.hid (B1.out.next b2); clear b2))
  go_ret
  exact ⟨ret_int rfl, B2.out⟩
theorem log_le (g : Gm) : 0 ≤ log g ∧ log g ≤ 336 := by have := slot_le g; rw [log]; omega
theorem tal_any (g : Gm) (w : World) :
    Calls Try.prog 27 #[geoV g] w fun e w' => e = .returned (.int .i64 (tal g)) ∧ Below w.heap.size w w' := by
  have HX := Lib.hid fun w1 => geo_log_any g w1
  have HW := log_le g
  rw [tal]
  generalize log g = sl at HX HW ⊢
  have h1 := HW.1
  have h2 := HW.2
  clear HW
  obtain ⟨d, p, s⟩ := g
  dsimp only [geoV] at HX ⊢
  go_enter Try.func27, Try.ntmps27
  go_wp2_with (first
    | ((with_reducible refine wpBoxK [Value.int .i64 d, .int .i64 p, .int .i64 s] 23 ?_ ?_); rfl; intro w1 r1 b1 s1; have R1 := Lib.hid r1; have B1 := Lib.hid b1; clear r1 b1 s1)
    | ((with_reducible refine R1.out.wpLoadK 23 fits_geo rfl ?_ ?_); rfl)
    | (go_at_call 41; (with_reducible refine (HX.out w1).mono ?_); rintro e u1 ⟨rfl, b2⟩; have B2 := Lib.hid (B1.out.next b2); clear b2))
  go_ret
  exact ⟨ret_int rfl, B2.out⟩
theorem tal_le (g : Gm) : 16 ≤ tal g ∧ tal g ≤ 352 := by have := log_le g; rw [tal]; omega
theorem all_any (g : Gm) (w : World) :
    Calls Try.prog 10 #[geoV g] w fun e w' => e = .returned (.int .i64 (all g)) ∧ Below w.heap.size w w' := by
  have HX := Lib.hid fun w1 => right_any g w1
  have HT := Lib.hid fun w1 => tal_any g w1
  have HW := tal_le g
  rw [all]
  cases hr : right g with
  | false =>
    rw [hr] at HX
    clear hr HW
    obtain ⟨d, p, s⟩ := g
    dsimp only [geoV] at HX HT ⊢
    go_enter Try.func10, Try.ntmps10
    go_wp2_with (first
      | ((with_reducible refine wpBoxK [Value.int .i64 d, .int .i64 p, .int .i64 s] 23 ?_ ?_); rfl; intro w1 r1 b1 s1; have R1 := Lib.hid r1; have B1 := Lib.hid b1; clear r1 b1 s1)
      | ((with_reducible refine R1.out.wpLoadK 23 fits_geo rfl ?_ ?_); rfl)
      | (go_at_call 21; (with_reducible refine (HX.out w1).mono ?_); rintro e u1 ⟨rfl, b2⟩; have B2 := Lib.hid (B1.out.next b2); clear b2))
    go_ret
    exact ⟨ret_int rfl, B2.out⟩
  | true =>
    rw [hr] at HX
    clear hr
    generalize tal g = sl at HT HW ⊢
    have h1 := HW.1
    have h2 := HW.2
    clear HW
    obtain ⟨d, p, s⟩ := g
    dsimp only [geoV] at HX HT ⊢
    go_enter Try.func10, Try.ntmps10
    go_wp2_with (first
      | ((with_reducible refine wpBoxK [Value.int .i64 d, .int .i64 p, .int .i64 s] 23 ?_ ?_); rfl; intro w1 r1 b1 s1; have R1 := Lib.hid r1; have B1 := Lib.hid b1; clear r1 b1 s1)
      | ((with_reducible refine R1.out.wpLoadK 23 fits_geo rfl ?_ ?_); rfl)
      | ((with_reducible refine R2.out.wpLoadK 23 fits_geo rfl ?_ ?_); rfl)
      | (go_at_call 21; (with_reducible refine (HX.out w1).mono ?_); rintro e u1 ⟨rfl, b2⟩; have R2 := Lib.hid (R1.out.step b2); have B2 := Lib.hid (B1.out.next b2); clear b2)
      | (go_at_call 27; (with_reducible refine (HT.out _).mono ?_); rintro e u2 ⟨rfl, b3⟩; have B3 := Lib.hid (B2.out.next b3); clear b3))
    go_ret
    exact ⟨ret_int rfl, B3.out⟩
theorem ask_any (g : Gm) (b : Nat) (L : List Sp) (n : Nat) (w : World) (h : SpAt w b L) (hn : L.length = n) (hL : n < 1000) :
    Calls Try.prog 35 #[geoV g, .slice (some ⟨b, 0, none⟩) n n] w fun e w' => e = .returned (.int .i64 (askF g L)) ∧ Below w.heap.size w w' := by
  subst hn
  have HX := Lib.hid fun w1 => right_any g w1
  have HY : Hid (∀ w1, Below w.heap.size w w1 → Calls Try.prog 34 #[.slice (some ⟨b, 0, none⟩) L.length L.length] w1 fun e w' => e = .returned (.bool (okAll L)) ∧ Below w1.heap.size w1 w') :=
    Lib.hid fun w1 hb => geowithin_any b L w1 (h.step hb) hL
  rw [askF]
  clear h hL
  generalize L.length = n at HY ⊢
  generalize okAll L = r at HY ⊢
  cases hr : right g with
  | false =>
    rw [hr] at HX
    clear hr HY
    obtain ⟨d, p, s⟩ := g
    dsimp only [geoV] at HX ⊢
    go_enter Try.func35, Try.ntmps35
    go_wp2_with (first
      | ((with_reducible refine wpBoxK [Value.int .i64 d, .int .i64 p, .int .i64 s] 23 ?_ ?_); rfl; intro w1 r1 b1 s1; have R1 := Lib.hid r1; have B1 := Lib.hid b1; clear r1 b1 s1)
      | ((with_reducible refine R1.out.wpLoadK 23 fits_geo rfl ?_ ?_); rfl)
      | (go_at_call 21; (with_reducible refine (HX.out w1).mono ?_); rintro e u1 ⟨rfl, b2⟩; have B2 := Lib.hid (B1.out.next b2); clear b2))
    go_ret
    exact ⟨ret_int rfl, B2.out⟩
  | true =>
    rw [hr] at HX
    clear hr
    obtain ⟨d, p, s⟩ := g
    cases r with
    | false =>
      dsimp only [geoV] at HX ⊢
      go_enter Try.func35, Try.ntmps35
      go_wp2_with (first
        | ((with_reducible refine wpBoxK [Value.int .i64 d, .int .i64 p, .int .i64 s] 23 ?_ ?_); rfl; intro w1 r1 b1 s1; have R1 := Lib.hid r1; have B1 := Lib.hid b1; clear r1 b1 s1)
        | ((with_reducible refine R1.out.wpLoadK 23 fits_geo rfl ?_ ?_); rfl)
        | (go_at_call 21; (with_reducible refine (HX.out w1).mono ?_); rintro e u1 ⟨rfl, b2⟩; have B2 := Lib.hid (B1.out.next b2); clear b2)
        | (go_at_call 34; (with_reducible refine (HY.out u1 B2.out).mono ?_); rintro e u2 ⟨rfl, b3⟩; have B3 := Lib.hid (B2.out.next b3); clear b3))
      go_ret
      exact ⟨ret_int rfl, B3.out⟩
    | true =>
      dsimp only [geoV] at HX ⊢
      go_enter Try.func35, Try.ntmps35
      go_wp2_with (first
        | ((with_reducible refine wpBoxK [Value.int .i64 d, .int .i64 p, .int .i64 s] 23 ?_ ?_); rfl; intro w1 r1 b1 s1; have R1 := Lib.hid r1; have B1 := Lib.hid b1; clear r1 b1 s1)
        | ((with_reducible refine R1.out.wpLoadK 23 fits_geo rfl ?_ ?_); rfl)
        | (go_at_call 21; (with_reducible refine (HX.out w1).mono ?_); rintro e u1 ⟨rfl, b2⟩; have B2 := Lib.hid (B1.out.next b2); clear b2)
        | (go_at_call 34; (with_reducible refine (HY.out u1 B2.out).mono ?_); rintro e u2 ⟨rfl, b3⟩; have B3 := Lib.hid (B2.out.next b3); clear b3))
      go_ret
      exact ⟨ret_int rfl, B3.out⟩
end Go.Proofs.Ytcehdgdgjjecmaa

/- Contracts of geo's Sector, Half, Tally, Of (gen_geo_d.py). -/
namespace Go.Proofs.Ytcehdgdgjjecmaa
open Go.RowKit GeoMath
set_option linter.unusedVariables false
set_option maxRecDepth 100000

theorem sps_new (L : List Sp) (cs : Array Value) (n : Nat) (w : World) (hc : cs = (L.flatMap spc).toArray) (hn : L.length = n) :
    Sps L (.slice (some ⟨w.heap.size, 0, none⟩) n n) (w.alloc (.cells cs 67)) := by
  subst hc
  subst hn
  exact ⟨_, rfl, SpAt.of_row (Row.new w 67 (L.flatMap spc))⟩
theorem ask_val (g : Gm) (L : List Sp) (w1 : World) (hL : L.length < 1000) : ∀ (wx : World) v, Sps L v wx →
    Calls Try.prog 35 #[geoV g, v] wx fun e w' => e = .returned (.int .i64 (askF g L)) ∧ Below wx.heap.size wx w' := by
  rintro wx v ⟨b, rfl, hb⟩
  exact ask_any g b L L.length wx hb rfl hL
theorem results_tmp4 {fn : Func} {t u v x : Tmp} (h : fn.results = #[.tmp t, .tmp u, .tmp v, .tmp x]) (tmps : Array Value) (P : Program) (w : World) :
    (results fn tmps).run P w = .ok (.tuple #[tmps.getD t undef, tmps.getD u undef, tmps.getD v undef, tmps.getD x undef]) w := by
  simp [results, h]
theorem wrap_sl {g : Gm} {a : Int} (h0 : 0 ≤ a) (h2 : a ≤ 2) : IntKind.i64.wrap (a * slot g) = a * slot g ∧ 0 ≤ a * slot g ∧ a * slot g ≤ 224 := by
  have hs := slot_le g
  have e : a = 0 ∨ a = 1 ∨ a = 2 := by omega
  rcases e with rfl | rfl | rfl
  · rw [Int.zero_mul]; exact ⟨rfl, by decide, by decide⟩
  · rw [Int.one_mul, IntKind.wrap_i64]; omega
  · rw [IntKind.wrap_i64]; omega
end Go.Proofs.Ytcehdgdgjjecmaa

/- Contracts of geo's Half, Tally (gen_geo_e.py). -/
namespace Go.Proofs.Ytcehdgdgjjecmaa
open Go.RowKit GeoMath
set_option linter.unusedVariables false
set_option maxRecDepth 100000

set_option maxHeartbeats 2000000 in
theorem tally_any (g : Gm) (a : Int) (w : World) :
    Calls Try.prog 22 #[geoV g, .int .i64 a] w fun e w' => e = .returned (.tuple #[.int .i64 (talA g a), .int .i64 (talQ g a)]) ∧ Below w.heap.size w w' := by
  have HSL := Lib.hid fun w1 => tal_any g w1
  have H1 : Hid (∀ w1, Calls Try.prog 36 #[.int .i64 a, .int .i64 2] w1 fun e w' => e = .returned (.agg #[.int .i64 a, .int .i64 0, .int .i64 1]) ∧ Below w1.heap.size w1 w') := Lib.hid fun w1 => below_any a 2 1 w1 (by unfold wrap64; omega)
  have HA := Lib.hid (ask_val g [⟨a, 0, 1⟩] w (by show 1 < 1000; decide))
  rw [← talQ] at HA
  have HNO : Hid (¬ talQ g a = 0 → talA g a = 0) := Lib.hid fun h => if_neg h
  have HYES : Hid (talQ g a = 0 → talA g a = tal g + a ∧ (0 ≤ a ∧ a ≤ 1 ∧ 16 ≤ tal g ∧ tal g ≤ 352)) := Lib.hid fun h => by
    obtain ⟨_, h2⟩ := ask_zero h
    obtain ⟨x1, x2⟩ := (okAll1 _).1 h2
    exact ⟨if_pos h, x1, x2, tal_le g⟩
  generalize talA g a = rr at HNO HYES ⊢
  generalize talQ g a = q at HA HNO HYES ⊢
  generalize tal g = sl at HSL HYES
  obtain ⟨d, p, s⟩ := g
  dsimp only [geoV] at HSL HA ⊢
  go_enter Try.func22, Try.ntmps22
  go_wp2_with ((with_reducible refine wpBoxK [Value.int .i64 d, .int .i64 p, .int .i64 s] 23 ?_ ?_); rfl; intro w1 r1 b1 s1; have R1 := Lib.hid r1; have B1 := Lib.hid b1; clear r1 b1 s1)
  have HLT : Hid (w.heap.size < w1.heap.size) := Lib.hid R1.out.lt
  have C0 : Hid (w1.cell? ⟨w.heap.size, 0, none⟩ = some (.int .i64 d)) := Lib.hid (R1.out.cell 0)
  have C1 : Hid (w1.cell? ⟨w.heap.size, 1, none⟩ = some (.int .i64 p)) := Lib.hid (R1.out.cell 1)
  have C2 : Hid (w1.cell? ⟨w.heap.size, 2, none⟩ = some (.int .i64 s)) := Lib.hid (R1.out.cell 2)
  refine region_invX [(0, 7), (1, 8), (2, 9), (3, 10), (4, 11), (5, 6)]
    (fun ii => [Is (.agg #[(.int .i64 d), (.int .i64 p), (.int .i64 s)]), Is (.int .i64 a), Is (.agg #[.int .i64 a, .int .i64 0, .int .i64 1]), Sps [⟨a, 0, 1⟩], Is (.int .i64 q), Is (.int .i64 q)].getD ii (Is undef))
    (fun w' => Below w1.heap.size w1 w') (by kernel_rfl) (by kernel_rfl) (by decide) (by decide) (by kernel_rfl) rfl ?monoq ((Below.refl _ _).drew) ?stepq ?finq
  case monoq =>
    intro i
    match i with
    | 0 | 1 | 2 | 4 | 5 => exact Is.monot _
    | 3 => exact Sps.monot _
    | _ + 6 => exact Is.monot _
  case stepq =>
    refine List.forall_mem_cons.2 ⟨?qs0, List.forall_mem_cons.2 ⟨?qs1, List.forall_mem_cons.2 ⟨?qs2, List.forall_mem_cons.2 ⟨?qs3, List.forall_mem_cons.2 ⟨?qs4, List.forall_mem_cons.2 ⟨?qs5, List.forall_mem_nil _⟩⟩⟩⟩⟩⟩
    case qs0 =>
      intro u wx hg hC
      clear hC
      have hcl0 : wx.cell? ⟨w.heap.size, 0, none⟩ = some (.int .i64 d) := (hg.cell (p := ⟨w.heap.size, 0, none⟩) HLT.out).trans C0.out
      have hcl1 : wx.cell? ⟨w.heap.size, 1, none⟩ = some (.int .i64 p) := (hg.cell (p := ⟨w.heap.size, 1, none⟩) HLT.out).trans C1.out
      have hcl2 : wx.cell? ⟨w.heap.size, 2, none⟩ = some (.int .i64 s) := (hg.cell (p := ⟨w.heap.size, 2, none⟩) HLT.out).trans C2.out
      refine wpOp_step rfl (fun K hK => ?_)
      simp only [puts, List.foldl]
      go_simp
      exact hK _ _ ⟨rfl, rfl, hg, Below.refl _ _⟩
    case qs1 =>
      intro u wx hg hC
      clear hC
      refine wpOp_step rfl (fun K hK => ?_)
      simp only [puts, List.foldl]
      go_simp
      exact hK _ _ ⟨rfl, rfl, hg, Below.refl _ _⟩
    case qs2 =>
      intro u wx hg hC
      have hJ1 : u 1 = (.int .i64 a) := hC.at 1 (by kernel_rfl)
      clear hC
      refine wpOp_step rfl (fun K hK => ?_)
      simp only [puts, List.foldl]
      go_simp
      refine (H1.out wx).mono ?_
      rintro e w' ⟨rfl, hb'⟩
      exact hK _ _ ⟨rfl, rfl, hg.next hb', hb'⟩
    case qs3 =>
      intro u wx hg hC
      have hJ2 : u 2 = (.agg #[.int .i64 a, .int .i64 0, .int .i64 1]) := hC.at 2 (by kernel_rfl)
      clear hC
      refine wpOp_step rfl (fun K hK => ?_)
      simp only [puts, List.foldl]
      go_simp
      exact hK _ _ ⟨rfl, sps_new [⟨a, 0, 1⟩] _ 1 wx rfl rfl, hg.alloc hg.size _, alloc_below _ _⟩
    case qs4 =>
      intro u wx hg hC
      have hJ0 : u 0 = (.agg #[(.int .i64 d), (.int .i64 p), (.int .i64 s)]) := hC.at 0 (by kernel_rfl)
      have hJ3 : (Sps [⟨a, 0, 1⟩]) (u 3) wx := hC.at 3 (by kernel_rfl)
      clear hC
      refine wpOp_step rfl (fun K hK => ?_)
      simp only [puts, List.foldl]
      go_simp
      refine (HA.out wx _ hJ3).mono ?_
      rintro e w' ⟨rfl, hb'⟩
      exact hK _ _ ⟨rfl, rfl, hg.next hb', hb'⟩
    case qs5 =>
      intro u wx hg hC
      have hJ4 : u 4 = (.int .i64 q) := hC.at 4 (by kernel_rfl)
      clear hC
      refine wpOp_step rfl (fun K hK => ?_)
      simp only [puts, List.foldl]
      go_simp
      exact hK _ _ ⟨rfl, rfl, hg, Below.refl _ _⟩
  case finq =>
    intro u wq hbq hφ
    have e8 : u 5 = .int .i64 q := hφ (5, 6) (by decide)
    clear hφ
    simp only [puts, List.foldl]
    go_simp
    have BQ := Lib.hid (B1.out.next hbq)
    have RQ := Lib.hid (R1.out.step hbq)
    clear hbq e8
    cases hz : decide (q = 0) with
    | false =>
      have hq0 : ¬ q = 0 := of_decide_eq_false hz
      have hq1 : (q == 0) = false := beq_false_of_ne hq0
      have hq2 : (q != 0) = true := by rw [bne, hq1]; rfl
      have HN := Lib.hid (HNO.out hq0)
      clear hz
      go_wp2
      go_ret2
      exact ⟨by rw [HN.out]; rfl, BQ.out⟩
    | true =>
      have hq0 : q = 0 := of_decide_eq_true hz
      have HIN := HYES.out hq0
      have HE := Lib.hid HIN.1
      obtain ⟨x1, x2, x3, x4⟩ := HIN.2
      subst hq0
      clear hz HIN
      go_wp2_with (first
        | ((with_reducible refine RQ.out.wpLoadK 23 fits_geo rfl ?_ ?_); rfl)
        | (go_at_call 27; (with_reducible refine (HSL.out wq).mono ?_); rintro e wr ⟨rfl, br⟩; have HBR := Lib.hid (BQ.out.next br); clear br))
      go_ret2
      exact ⟨by rw [HE.out]; rfl, HBR.out⟩
end Go.Proofs.Ytcehdgdgjjecmaa

/- A slice just laid, in a region that draws its order; a struct built of parts. -/
namespace Go.Proofs.Ytcehdgdgjjecmaa
open Go.RowKit
/-- A slice literal's value. -/
def Lst (xs : List Value) : Value → World → Prop := fun v w => ∃ g n, v = .slice (some ⟨g, 0, none⟩) n n ∧ xs.length = n ∧ Lies w w.heap.size (some ⟨g, 0, none⟩) xs
theorem Lst.monot (xs : List Value) : Monot (Lst xs) := fun _ _ _ ⟨g, n, h1, h2, h3⟩ hb => ⟨g, n, h1, h2, h3.step hb⟩
theorem lst_new (xs : List Value) (w : World) (t : TypeId) (n : Nat) (h : xs.length = n) : Lst xs (.slice (some ⟨w.heap.size, 0, none⟩) n n) (w.alloc (.cells xs.toArray t)) := ⟨_, n, rfl, h, Lies.new xs w t⟩
section
variable {P : Program} {o : Oper} {A : Act} {wx : World} {K : Act → World → Prop} {Q : Exit → Act → World → Prop} {φ : Value → World → Prop} {G : World → Prop}
theorem opBuildK (l : List Value) (ty : TypeId) (ps : List (Nat × Value)) (hb : P.built ty ps = some l.toArray) (d : Nat) (hd : o.dst = some d) (hs : d < A.tmps.size)
    (hK : ∀ a' w', (a'.defers = A.defers ∧ φ (a'.tmps.getD d undef) w' ∧ G w' ∧ Below wx.heap.size wx w') → K a' w')
    (parts : Array (Nat × Operand)) (hop : o.op = .build ty parts) (he : (parts.map fun (i, x) => (i, A.eval x)).toList = ps) (hφ : φ (.agg l.toArray) wx) (hG : G wx) : o.wp P A wx K Q := by
  refine wp_build ty parts hop (by rw [he, hb]; rfl) (hK _ _ ⟨put_defers _ _ _, ?_, hG, Below.refl _ _⟩)
  rw [hd, put_get A d _ hs, he, hb]
  exact hφ
end
end Go.Proofs.Ytcehdgdgjjecmaa

/- Open (gen_tal_g.py). -/
namespace Go.Proofs.Ytcehdgdgjjecmaa
open Go.RowKit FlaMath GeoMath
set_option linter.unusedVariables false
set_option maxRecDepth 100000

theorem built_tally (dp : Option Addr) : Try.prog.built 48 [(0, .pointer dp)] = some ([Value.pointer dp, .int .i64 0, .int .i64 0, .int .i64 0, .int .i64 0, .bool false] : List Value).toArray := by kernel_rfl
theorem built_sector (x y : Int) : Try.prog.built 45 [(0, .int .i64 x), (1, .int .i64 y)] = some ([Value.int .i64 x, .int .i64 y] : List Value).toArray := by kernel_rfl
set_option maxHeartbeats 1000000 in
theorem tal_open_bad (dp : Option Addr) (g : Gm) (n : Int) (w : World) (hs : ∀ u, Below w.heap.size w u → Calls Try.prog 11 #[.pointer dp] u fun e u' => e = .returned (.int .i64 n) ∧ u = u') (hb : right g = false ∨ n < all g) :
    Calls Try.prog 6 #[.pointer dp, geoV g] w fun e w' => e = .returned (.tuple #[.pointer none, .int .i64 1]) ∧ Below w.heap.size w w' := by
  have HRT : Hid (∀ u, Calls Try.prog 21 #[geoV g] u fun e w' => e = .returned (.bool (right g)) ∧ Below u.heap.size u w') := Lib.hid fun u => right_any g u
  have HAL : Hid (∀ u, Calls Try.prog 10 #[geoV g] u fun e w' => e = .returned (.int .i64 (all g)) ∧ Below u.heap.size u w') := Lib.hid fun u => all_any g u
  have HSC := Lib.hid hs
  clear hs
  cases hr : right g with
  | false =>
    rw [hr] at HRT
    clear hr hb HAL
    generalize all g = m at *
    obtain ⟨d, p, s⟩ := g
    dsimp only [geoV] at HRT ⊢
    go_enter Try.func6, Try.ntmps6
    go_wp2_with ((with_reducible refine wpBoxK (w := w) [Value.int .i64 d, .int .i64 p, .int .i64 s] 23 ?_ ?_); rfl; intro u1 r1 b1 s1; have R1 := Lib.hid r1; have B1 := Lib.hid b1; clear r1 b1 s1)
    refine region_invX [(0, 12), (1, 13), (2, 14), (3, 15), (4, 16), (5, 17), (6, 18), (7, 19), (8, 20), (9, 21)]
      (fun ii => [Is (.agg ([Value.int .i64 d, .int .i64 p, .int .i64 s]).toArray), Is (.bool false), Is (.bool true), Is (.bool true), Is undef, Is undef, Is undef, Is undef, Is undef, Is (.bool true)].getD ii (Is undef))
      (fun w' => Below u1.heap.size u1 w') (by kernel_rfl) (by kernel_rfl) (by decide) (by decide) (by kernel_rfl) rfl ?monoP ((Below.refl _ _).drew) ?stepP ?finP
    case monoP =>
      intro i
      match i with
      | 0 | 1 | 2 | 3 | 4 | 5 | 6 | 7 | 8 | 9 => exact Is.monot _
      | _ + 10 => exact Is.monot _
    case stepP =>
      refine List.forall_mem_cons.2 ⟨?Ps0, List.forall_mem_cons.2 ⟨?Ps1, List.forall_mem_cons.2 ⟨?Ps2, List.forall_mem_cons.2 ⟨?Ps3, List.forall_mem_cons.2 ⟨?Ps4, List.forall_mem_cons.2 ⟨?Ps5, List.forall_mem_cons.2 ⟨?Ps6, List.forall_mem_cons.2 ⟨?Ps7, List.forall_mem_cons.2 ⟨?Ps8, List.forall_mem_cons.2 ⟨?Ps9, List.forall_mem_nil _⟩⟩⟩⟩⟩⟩⟩⟩⟩⟩
      case Ps0 =>
        intro u wx hg hC
        clear hC
        generalize hA : puts [(0, 12), (1, 13), (2, 14), (3, 15), (4, 16), (5, 17), (6, 18), (7, 19), (8, 20), (9, 21)] _ u = A
        have hp : A.tmps.getD 3 undef = (.pointer (some ⟨w.heap.size, 0, none⟩)) := by rw [← hA]; exact (puts_get_out u _ _ 3 (by decide)).trans (by rfl)
        have hsz : 12 < A.tmps.size := by rw [← hA]; exact puts_room u (by kernel_rfl)
        refine wpOp_step rfl (fun K hK => ?_)
        clear hA
        exact opLoadK (φ := Is (.agg ([Value.int .i64 d, .int .i64 p, .int .i64 s]).toArray)) ((R1.out.step hg)) _ (fits_geo) (rfl) 12 rfl hsz hK (.tmp 3) rfl hp rfl hg
      case Ps1 =>
        intro u wx hg hC
        have hJ0 : u 0 = (.agg ([Value.int .i64 d, .int .i64 p, .int .i64 s]).toArray) := hC.at 0 (by kernel_rfl)
        clear hC
        refine wpOp_step rfl (fun K hK => ?_)
        simp only [puts, List.foldl]
        go_simp
        refine (HRT.out wx).mono ?_
        rintro e w' ⟨rfl, hb'⟩
        exact hK _ _ ⟨rfl, rfl, hg.next hb', hb'⟩
      case Ps2 =>
        intro u wx hg hC
        have hJ1 : u 1 = (.bool false) := hC.at 1 (by kernel_rfl)
        clear hC
        refine wpOp_step rfl (fun K hK => ?_)
        simp only [puts, List.foldl]
        go_simp
        exact hK _ _ ⟨rfl, rfl, hg, Below.refl _ _⟩
      case Ps3 =>
        intro u wx hg hC
        have hJ2 : u 2 = (.bool true) := hC.at 2 (by kernel_rfl)
        clear hC
        refine wpOp_step rfl (fun K hK => ?_)
        simp only [puts, List.foldl]
        go_simp
        exact hK _ _ ⟨rfl, rfl, hg, Below.refl _ _⟩
      case Ps4 =>
        intro u wx hg hC
        have hJ3 : u 3 = (.bool true) := hC.at 3 (by kernel_rfl)
        clear hC
        generalize hA : puts [(0, 12), (1, 13), (2, 14), (3, 15), (4, 16), (5, 17), (6, 18), (7, 19), (8, 20), (9, 21)] _ u = A
        have hgv : A.tmps.getD 15 undef = .bool true := by rw [← hA]; exact (puts_get u 3 15 _ _ (by decide) (by decide) (by kernel_rfl)).trans hJ3
        have hgs : 15 < A.tmps.size := by rw [← hA]; exact puts_room u (by kernel_rfl)
        refine wpOp_skip rfl 3 15 false rfl rfl hgs hgv ?_
        subst hA
        simp only [puts, List.foldl]
        go_simp
        first | exact ⟨rfl, hg, Below.refl _ _⟩ | exact ⟨rfl, hg⟩ | exact ⟨rfl, Below.refl _ _⟩ | exact ⟨rfl, rfl, hg, Below.refl _ _⟩ | exact ⟨hg, Below.refl _ _⟩
      case Ps5 =>
        intro u wx hg hC
        have hJ3 : u 3 = (.bool true) := hC.at 3 (by kernel_rfl)
        clear hC
        generalize hA : puts [(0, 12), (1, 13), (2, 14), (3, 15), (4, 16), (5, 17), (6, 18), (7, 19), (8, 20), (9, 21)] _ u = A
        have hgv : A.tmps.getD 15 undef = .bool true := by rw [← hA]; exact (puts_get u 3 15 _ _ (by decide) (by decide) (by kernel_rfl)).trans hJ3
        have hgs : 15 < A.tmps.size := by rw [← hA]; exact puts_room u (by kernel_rfl)
        refine wpOp_skip rfl 3 15 false rfl rfl hgs hgv ?_
        subst hA
        simp only [puts, List.foldl]
        go_simp
        first | exact ⟨rfl, hg, Below.refl _ _⟩ | exact ⟨rfl, hg⟩ | exact ⟨rfl, Below.refl _ _⟩ | exact ⟨rfl, rfl, hg, Below.refl _ _⟩ | exact ⟨hg, Below.refl _ _⟩
      case Ps6 =>
        intro u wx hg hC
        have hJ3 : u 3 = (.bool true) := hC.at 3 (by kernel_rfl)
        clear hC
        generalize hA : puts [(0, 12), (1, 13), (2, 14), (3, 15), (4, 16), (5, 17), (6, 18), (7, 19), (8, 20), (9, 21)] _ u = A
        have hgv : A.tmps.getD 15 undef = .bool true := by rw [← hA]; exact (puts_get u 3 15 _ _ (by decide) (by decide) (by kernel_rfl)).trans hJ3
        have hgs : 15 < A.tmps.size := by rw [← hA]; exact puts_room u (by kernel_rfl)
        refine wpOp_skip rfl 3 15 false rfl rfl hgs hgv ?_
        subst hA
        simp only [puts, List.foldl]
        go_simp
        first | exact ⟨rfl, hg, Below.refl _ _⟩ | exact ⟨rfl, hg⟩ | exact ⟨rfl, Below.refl _ _⟩ | exact ⟨rfl, rfl, hg, Below.refl _ _⟩ | exact ⟨hg, Below.refl _ _⟩
      case Ps7 =>
        intro u wx hg hC
        have hJ3 : u 3 = (.bool true) := hC.at 3 (by kernel_rfl)
        clear hC
        generalize hA : puts [(0, 12), (1, 13), (2, 14), (3, 15), (4, 16), (5, 17), (6, 18), (7, 19), (8, 20), (9, 21)] _ u = A
        have hgv : A.tmps.getD 15 undef = .bool true := by rw [← hA]; exact (puts_get u 3 15 _ _ (by decide) (by decide) (by kernel_rfl)).trans hJ3
        have hgs : 15 < A.tmps.size := by rw [← hA]; exact puts_room u (by kernel_rfl)
        refine wpOp_skip rfl 3 15 false rfl rfl hgs hgv ?_
        subst hA
        simp only [puts, List.foldl]
        go_simp
        first | exact ⟨rfl, hg, Below.refl _ _⟩ | exact ⟨rfl, hg⟩ | exact ⟨rfl, Below.refl _ _⟩ | exact ⟨rfl, rfl, hg, Below.refl _ _⟩ | exact ⟨hg, Below.refl _ _⟩
      case Ps8 =>
        intro u wx hg hC
        have hJ3 : u 3 = (.bool true) := hC.at 3 (by kernel_rfl)
        clear hC
        generalize hA : puts [(0, 12), (1, 13), (2, 14), (3, 15), (4, 16), (5, 17), (6, 18), (7, 19), (8, 20), (9, 21)] _ u = A
        have hgv : A.tmps.getD 15 undef = .bool true := by rw [← hA]; exact (puts_get u 3 15 _ _ (by decide) (by decide) (by kernel_rfl)).trans hJ3
        have hgs : 15 < A.tmps.size := by rw [← hA]; exact puts_room u (by kernel_rfl)
        refine wpOp_skip rfl 3 15 false rfl rfl hgs hgv ?_
        subst hA
        simp only [puts, List.foldl]
        go_simp
        first | exact ⟨rfl, hg, Below.refl _ _⟩ | exact ⟨rfl, hg⟩ | exact ⟨rfl, Below.refl _ _⟩ | exact ⟨rfl, rfl, hg, Below.refl _ _⟩ | exact ⟨hg, Below.refl _ _⟩
      case Ps9 =>
        intro u wx hg hC
        have hJ3 : u 3 = (.bool true) := hC.at 3 (by kernel_rfl)
        have hJ8 : u 8 = undef := hC.at 8 (by kernel_rfl)
        clear hC
        refine wpOp_step rfl (fun K hK => ?_)
        simp only [puts, List.foldl]
        go_simp
        exact hK _ _ ⟨rfl, rfl, hg, Below.refl _ _⟩
    case finP =>
      intro u ux hux hφ
      have e9 : u 9 = .bool true := hφ (9, 21) (by decide)
      clear hφ
      simp only [puts, List.foldl]
      rw [e9]
      go_simp
      go_wp2
      go_ret2
      exact ⟨rfl, B1.out.next hux⟩
  | true =>
    have hlt : n < all g := by
      rcases hb with h | h
      · rw [hr] at h; cases h
      · exact h
    rw [hr] at HRT
    clear hr hb
    generalize all g = m at *
    obtain ⟨LT, hLT⟩ : ∃ b, b = true := ⟨_, rfl⟩
    have hLT2 : decide (n < m) = LT := by rw [hLT]; exact decide_eq_true hlt
    have hlt2 : (n < m) = True := eq_true hlt
    obtain ⟨d, p, s⟩ := g
    dsimp only [geoV] at HRT HAL ⊢
    subst hLT
    clear hlt
    go_enter Try.func6, Try.ntmps6
    go_wp2_with ((with_reducible refine wpBoxK (w := w) [Value.int .i64 d, .int .i64 p, .int .i64 s] 23 ?_ ?_); rfl; intro u1 r1 b1 s1; have R1 := Lib.hid r1; have B1 := Lib.hid b1; clear r1 b1 s1)
    refine region_invX [(0, 12), (1, 13), (2, 14), (3, 15), (4, 16), (5, 17), (6, 18), (7, 19), (8, 20), (9, 21)]
      (fun ii => [Is (.agg ([Value.int .i64 d, .int .i64 p, .int .i64 s]).toArray), Is (.bool true), Is (.bool false), Is (.bool false), Is (.pointer dp), Is (.int .i64 n), Is (.agg ([Value.int .i64 d, .int .i64 p, .int .i64 s]).toArray), Is (.int .i64 m), Is (.bool true), Is (.bool true)].getD ii (Is undef))
      (fun w' => Below u1.heap.size u1 w') (by kernel_rfl) (by kernel_rfl) (by decide) (by decide) (by kernel_rfl) rfl ?monoP ((Below.refl _ _).drew) ?stepP ?finP
    case monoP =>
      intro i
      match i with
      | 0 | 1 | 2 | 3 | 4 | 5 | 6 | 7 | 8 | 9 => exact Is.monot _
      | _ + 10 => exact Is.monot _
    case stepP =>
      refine List.forall_mem_cons.2 ⟨?Ps0, List.forall_mem_cons.2 ⟨?Ps1, List.forall_mem_cons.2 ⟨?Ps2, List.forall_mem_cons.2 ⟨?Ps3, List.forall_mem_cons.2 ⟨?Ps4, List.forall_mem_cons.2 ⟨?Ps5, List.forall_mem_cons.2 ⟨?Ps6, List.forall_mem_cons.2 ⟨?Ps7, List.forall_mem_cons.2 ⟨?Ps8, List.forall_mem_cons.2 ⟨?Ps9, List.forall_mem_nil _⟩⟩⟩⟩⟩⟩⟩⟩⟩⟩
      case Ps0 =>
        intro u wx hg hC
        clear hC
        generalize hA : puts [(0, 12), (1, 13), (2, 14), (3, 15), (4, 16), (5, 17), (6, 18), (7, 19), (8, 20), (9, 21)] _ u = A
        have hp : A.tmps.getD 3 undef = (.pointer (some ⟨w.heap.size, 0, none⟩)) := by rw [← hA]; exact (puts_get_out u _ _ 3 (by decide)).trans (by rfl)
        have hsz : 12 < A.tmps.size := by rw [← hA]; exact puts_room u (by kernel_rfl)
        refine wpOp_step rfl (fun K hK => ?_)
        clear hA
        exact opLoadK (φ := Is (.agg ([Value.int .i64 d, .int .i64 p, .int .i64 s]).toArray)) ((R1.out.step hg)) _ (fits_geo) (rfl) 12 rfl hsz hK (.tmp 3) rfl hp rfl hg
      case Ps1 =>
        intro u wx hg hC
        have hJ0 : u 0 = (.agg ([Value.int .i64 d, .int .i64 p, .int .i64 s]).toArray) := hC.at 0 (by kernel_rfl)
        clear hC
        refine wpOp_step rfl (fun K hK => ?_)
        simp only [puts, List.foldl]
        go_simp
        refine (HRT.out wx).mono ?_
        rintro e w' ⟨rfl, hb'⟩
        exact hK _ _ ⟨rfl, rfl, hg.next hb', hb'⟩
      case Ps2 =>
        intro u wx hg hC
        have hJ1 : u 1 = (.bool true) := hC.at 1 (by kernel_rfl)
        clear hC
        refine wpOp_step rfl (fun K hK => ?_)
        simp only [puts, List.foldl]
        go_simp
        exact hK _ _ ⟨rfl, rfl, hg, Below.refl _ _⟩
      case Ps3 =>
        intro u wx hg hC
        have hJ2 : u 2 = (.bool false) := hC.at 2 (by kernel_rfl)
        clear hC
        refine wpOp_step rfl (fun K hK => ?_)
        simp only [puts, List.foldl]
        go_simp
        exact hK _ _ ⟨rfl, rfl, hg, Below.refl _ _⟩
      case Ps4 =>
        intro u wx hg hC
        have hJ3 : u 3 = (.bool false) := hC.at 3 (by kernel_rfl)
        clear hC
        generalize hA : puts [(0, 12), (1, 13), (2, 14), (3, 15), (4, 16), (5, 17), (6, 18), (7, 19), (8, 20), (9, 21)] _ u = A
        have hgv : A.tmps.getD 15 undef = .bool false := by rw [← hA]; exact (puts_get u 3 15 _ _ (by decide) (by decide) (by kernel_rfl)).trans hJ3
        have hgs : 15 < A.tmps.size := by rw [← hA]; exact puts_room u (by kernel_rfl)
        refine wpOp_guard rfl 3 15 false rfl rfl hgs hgv (fun K hK => ?_)
        subst hA
        simp only [puts, List.foldl]
        go_simp
        exact hK _ _ ⟨rfl, rfl, hg, Below.refl _ _⟩
      case Ps5 =>
        intro u wx hg hC
        have hJ3 : u 3 = (.bool false) := hC.at 3 (by kernel_rfl)
        have hJ4 : u 4 = (.pointer dp) := hC.at 4 (by kernel_rfl)
        clear hC
        generalize hA : puts [(0, 12), (1, 13), (2, 14), (3, 15), (4, 16), (5, 17), (6, 18), (7, 19), (8, 20), (9, 21)] _ u = A
        have hgv : A.tmps.getD 15 undef = .bool false := by rw [← hA]; exact (puts_get u 3 15 _ _ (by decide) (by decide) (by kernel_rfl)).trans hJ3
        have hgs : 15 < A.tmps.size := by rw [← hA]; exact puts_room u (by kernel_rfl)
        refine wpOp_guard rfl 3 15 false rfl rfl hgs hgv (fun K hK => ?_)
        subst hA
        simp only [puts, List.foldl]
        go_simp
        refine (HSC.out wx (B1.out.next hg)).mono ?_
        rintro e w' ⟨rfl, rfl⟩; have hb' := Below.refl wx.heap.size wx
        exact hK _ _ ⟨rfl, rfl, hg.next hb', hb'⟩
      case Ps6 =>
        intro u wx hg hC
        have hJ3 : u 3 = (.bool false) := hC.at 3 (by kernel_rfl)
        clear hC
        generalize hA : puts [(0, 12), (1, 13), (2, 14), (3, 15), (4, 16), (5, 17), (6, 18), (7, 19), (8, 20), (9, 21)] _ u = A
        have hgv : A.tmps.getD 15 undef = .bool false := by rw [← hA]; exact (puts_get u 3 15 _ _ (by decide) (by decide) (by kernel_rfl)).trans hJ3
        have hgs : 15 < A.tmps.size := by rw [← hA]; exact puts_room u (by kernel_rfl)
        have hp : A.tmps.getD 3 undef = (.pointer (some ⟨w.heap.size, 0, none⟩)) := by rw [← hA]; exact (puts_get_out u _ _ 3 (by decide)).trans (by rfl)
        have hsz : 18 < A.tmps.size := by rw [← hA]; exact puts_room u (by kernel_rfl)
        refine wpOp_guard rfl 3 15 false rfl rfl hgs hgv (fun K hK => ?_)
        clear hA
        exact opLoadK (φ := Is (.agg ([Value.int .i64 d, .int .i64 p, .int .i64 s]).toArray)) ((R1.out.step hg)) _ (fits_geo) (rfl) 18 rfl hsz hK (.tmp 3) rfl hp rfl hg
      case Ps7 =>
        intro u wx hg hC
        have hJ3 : u 3 = (.bool false) := hC.at 3 (by kernel_rfl)
        have hJ6 : u 6 = (.agg ([Value.int .i64 d, .int .i64 p, .int .i64 s]).toArray) := hC.at 6 (by kernel_rfl)
        clear hC
        generalize hA : puts [(0, 12), (1, 13), (2, 14), (3, 15), (4, 16), (5, 17), (6, 18), (7, 19), (8, 20), (9, 21)] _ u = A
        have hgv : A.tmps.getD 15 undef = .bool false := by rw [← hA]; exact (puts_get u 3 15 _ _ (by decide) (by decide) (by kernel_rfl)).trans hJ3
        have hgs : 15 < A.tmps.size := by rw [← hA]; exact puts_room u (by kernel_rfl)
        refine wpOp_guard rfl 3 15 false rfl rfl hgs hgv (fun K hK => ?_)
        subst hA
        simp only [puts, List.foldl]
        go_simp
        refine (HAL.out wx).mono ?_
        rintro e w' ⟨rfl, hb'⟩
        exact hK _ _ ⟨rfl, rfl, hg.next hb', hb'⟩
      case Ps8 =>
        intro u wx hg hC
        have hJ3 : u 3 = (.bool false) := hC.at 3 (by kernel_rfl)
        have hJ5 : u 5 = (.int .i64 n) := hC.at 5 (by kernel_rfl)
        have hJ7 : u 7 = (.int .i64 m) := hC.at 7 (by kernel_rfl)
        clear hC
        generalize hA : puts [(0, 12), (1, 13), (2, 14), (3, 15), (4, 16), (5, 17), (6, 18), (7, 19), (8, 20), (9, 21)] _ u = A
        have hgv : A.tmps.getD 15 undef = .bool false := by rw [← hA]; exact (puts_get u 3 15 _ _ (by decide) (by decide) (by kernel_rfl)).trans hJ3
        have hgs : 15 < A.tmps.size := by rw [← hA]; exact puts_room u (by kernel_rfl)
        refine wpOp_guard rfl 3 15 false rfl rfl hgs hgv (fun K hK => ?_)
        subst hA
        simp only [puts, List.foldl]
        go_simp
        exact hK _ _ ⟨rfl, rfl, hg, Below.refl _ _⟩
      case Ps9 =>
        intro u wx hg hC
        have hJ3 : u 3 = (.bool false) := hC.at 3 (by kernel_rfl)
        have hJ8 : u 8 = (.bool true) := hC.at 8 (by kernel_rfl)
        clear hC
        refine wpOp_step rfl (fun K hK => ?_)
        simp only [puts, List.foldl]
        go_simp
        exact hK _ _ ⟨rfl, rfl, hg, Below.refl _ _⟩
    case finP =>
      intro u ux hux hφ
      have e9 : u 9 = .bool true := hφ (9, 21) (by decide)
      clear hφ
      simp only [puts, List.foldl]
      rw [e9]
      go_simp
      go_wp2
      go_ret2
      exact ⟨rfl, B1.out.next hux⟩
set_option maxHeartbeats 2000000 in
theorem tal_open_good (sh : Sh) (D : Dv) (g : Gm) (T0 a b : Nat) (w : World) (h : Dvx w sh D)
    (hsc : ∀ u, Dvx u sh D → Calls Try.prog 11 #[.pointer (some ⟨sh.b, 0, none⟩)] u fun e u' => e = .returned (.int .i64 (D.L.length : Int)) ∧ u = u')
    (hr : right g = true) (hT : tal g = (T0 : Int)) (hn : all g ≤ D.L.length) (hd : D.dn = false) (hst : TSt D T0 a b) (ha : a ≤ 512) (hb : b ≤ 512) :
    Calls Try.prog 6 #[.pointer (some ⟨sh.b, 0, none⟩), geoV g] w fun e w' => ∃ t, e = .returned (.tuple #[.pointer (some ⟨t, 0, none⟩), .int .i64 0]) ∧ TalAt w' ⟨t, sh, T0⟩ D ⟨a, b, decide (a = b)⟩ ∧ Onl sh.S w w' ∧ w.heap.size ≤ t := by
  have HRT : Hid (∀ u, Calls Try.prog 21 #[geoV g] u fun e w' => e = .returned (.bool (right g)) ∧ Below u.heap.size u w') := Lib.hid fun u => right_any g u
  have HAL : Hid (∀ u, Calls Try.prog 10 #[geoV g] u fun e w' => e = .returned (.int .i64 (all g)) ∧ Below u.heap.size u w') := Lib.hid fun u => all_any g u
  obtain ⟨T1, hT1⟩ : ∃ k, T0 + 1 = k := ⟨_, rfl⟩
  have hT0 : T0 + 2 ≤ 512 := by have := hst.fit; have := h.ok.top; omega
  have HTA : Hid (∀ u, Calls Try.prog 22 #[geoV g, .int .i64 0] u fun e w' => e = .returned (.tuple #[.int .i64 (T0 : Int), .int .i64 0]) ∧ Below u.heap.size u w') := Lib.hid fun u => by
    have hq : talQ g 0 = 0 := by unfold talQ askF; rw [if_pos hr]; rfl
    have hv : talA g 0 = (T0 : Int) := by unfold talA; rw [if_pos hq, hT]; omega
    have := tally_any g 0 u
    rwa [hq, hv] at this
  have HTB : Hid (∀ u, Calls Try.prog 22 #[geoV g, .int .i64 1] u fun e w' => e = .returned (.tuple #[.int .i64 (T1 : Int), .int .i64 0]) ∧ Below u.heap.size u w') := Lib.hid fun u => by
    have hq : talQ g 1 = 0 := by unfold talQ askF; rw [if_pos hr]; rfl
    have hv : talA g 1 = (T1 : Int) := by unfold talA; rw [if_pos hq, hT]; omega
    have := tally_any g 1 u
    rwa [hq, hv] at this
  have hrd : ∀ (u : World) (S k : Nat), Dvx u sh D → SecIs D.C S k → S < T0 + 2 → Calls Try.prog 23 #[.pointer (some ⟨sh.b, 0, none⟩), .int .i64 ((S * 64 : Nat) : Int), .int .i64 64] u fun e w' => e = .returned (.tuple #[.string (str (clr k)), .int .i64 0]) ∧ Dvx w' sh D ∧ Onl sh.S u w' := fun u S k hu hs hlt => by
    have hl := hst.len
    have hf := hst.fit
    have e0 : readE D ((S * 64 : Nat) : Int) 64 = 0 := by
      unfold readE
      rw [hd, if_neg (by decide)]
      have : bey D.C.length ((S * 64 : Nat) : Int) 64 = false := by unfold bey; rw [decide_eq_false_iff_not]; omega
      rw [this]; rfl
    have e1 : readS D ((S * 64 : Nat) : Int) 64 = clr k := by
      unfold readS
      rw [if_pos e0, ← hs.sec, Int.toNat_natCast]
      rfl
    have := dvx_read sh D ((S * 64 : Nat) : Int) 64 u hu (by omega)
    rwa [e0, e1] at this
  obtain ⟨qa, hqa⟩ : ∃ q, T0 * 64 = q := ⟨_, rfl⟩
  obtain ⟨qb, hqb⟩ : ∃ q, T1 * 64 = q := ⟨_, rfl⟩
  have HRA : Hid (∀ u, Dvx u sh D → Calls Try.prog 23 #[.pointer (some ⟨sh.b, 0, none⟩), .int .i64 (qa : Int), .int .i64 64] u fun e w' => e = .returned (.tuple #[.string (str (clr a)), .int .i64 0]) ∧ Dvx w' sh D ∧ Onl sh.S u w') := Lib.hid fun u hu => by rw [← hqa]; exact hrd u T0 a hu hst.a (by omega)
  have HRB : Hid (∀ u, Dvx u sh D → Calls Try.prog 23 #[.pointer (some ⟨sh.b, 0, none⟩), .int .i64 (qb : Int), .int .i64 64] u fun e w' => e = .returned (.tuple #[.string (str (clr b)), .int .i64 0]) ∧ Dvx w' sh D ∧ Onl sh.S u w') := Lib.hid fun u hu => by rw [← hqb]; exact hrd u T1 b hu (by rw [← hT1]; exact hst.b) (by omega)
  have HKa : Hid (∀ u, Calls Try.prog 24 #[.string (str (clr a))] u fun e w' => e = .returned (.int .i64 (a : Int)) ∧ u = w') := Lib.hid fun u => tal_countOf_any a ha u
  have HKb : Hid (∀ u, Calls Try.prog 24 #[.string (str (clr b))] u fun e w' => e = .returned (.int .i64 (b : Int)) ∧ u = w') := Lib.hid fun u => tal_countOf_any b hb u
  have H0 := Lib.hid h
  have HDB : Hid (∀ u, Below w.heap.size w u → Dvx u sh D) := Lib.hid fun u hu => h.step hu
  have HSC : Hid (∀ u, Below w.heap.size w u → Calls Try.prog 11 #[.pointer (some ⟨sh.b, 0, none⟩)] u fun e u' => e = .returned (.int .i64 (D.L.length : Int)) ∧ u = u') := Lib.hid fun u hu => hsc u (h.step hu)
  have HTL : Hid (∀ (u : World) (t0 : Nat), Dvx u sh D → Row u t0 48 [.pointer (some ⟨sh.b, 0, none⟩), .int .i64 (T0 : Int), .int .i64 (a : Int), .int .i64 (T1 : Int), .int .i64 (b : Int), .bool (decide (a = b))] → TalAt u ⟨t0, sh, T0⟩ D ⟨a, b, decide (a = b)⟩) := Lib.hid fun u t0 h1 h2 => ⟨h1, by rw [← hT1] at h2; exact h2, hst.fit, ha, hb⟩
  have HOF : Hid (∀ (u : World) (t0 : Nat) (l : List Value), Dvx u sh D → Row u t0 48 l → t0 ∉ sh.S) := Lib.hid fun u t0 l h1 h2 => h2.offD h1 (by decide) (by decide) (by decide) (by decide)
  have HOG : Hid (∀ (u : World) (t0 : Nat) (l : List Value), Dvx u sh D → Row u t0 23 l → t0 ∉ sh.S) := Lib.hid fun u t0 l h1 h2 => h2.offD h1 (by decide) (by decide) (by decide) (by decide)
  have HOD : Hid (∀ (u u' : World) (t0 : Nat), t0 ∉ sh.S → Dvx u sh D → Only t0 u u' → Dvx u' sh D) := Lib.hid fun u u' t0 h0 h1 ho => h1.onl (S := [t0]) ⟨ho.1, ho.2.1, ho.2.2.1, ho.2.2.2.1, fun k hk hn => ho.2.2.2.2 k hk fun e => hn (by simp [e])⟩ (fun k hk he => h0 (by rw [List.mem_singleton] at he; rwa [← he]))
  have HAK : Hid (∀ (u : World) (t0 : Nat) (l : List Value) (e : Value), Row u t0 48 [.pointer (some ⟨sh.b, 0, none⟩), .int .i64 (T0 : Int), .int .i64 (a : Int), .int .i64 (T1 : Int), .int .i64 (b : Int), e] → Calls Try.prog 25 #[.pointer (some ⟨t0, 0, none⟩)] u fun e w' => e = .returned (.bool (decide (a = b))) ∧ Below u.heap.size u w') := Lib.hid fun u t0 l e hr => tal_alike_any (hr.cell 2) (hr.cell 4)
  have i1 : (T0 : Int) * 64 = (qa : Int) := by omega
  have i2 : (T1 : Int) * 64 = (qb : Int) := by omega
  have i3 : (T0 : Int) ≤ 510 := by omega
  have i4 : (T1 : Int) ≤ 511 := by omega
  have i5 : (qa : Int) ≤ 40000 := by omega
  have i6 : (qb : Int) ≤ 40000 := by omega
  have w1 : IntKind.i64.wrap (qa : Int) = (qa : Int) := by rw [IntKind.wrap_i64]; omega
  have w2 : IntKind.i64.wrap (qb : Int) = (qb : Int) := by rw [IntKind.wrap_i64]; omega
  obtain ⟨n, hnn⟩ : ∃ n : Int, (D.L.length : Int) = n := ⟨_, rfl⟩
  rw [hnn] at hn HSC
  have hlt : decide (n < all g) = false := decide_eq_false (by omega)
  have hlt2 : (n < all g) = False := eq_false (by omega)
  rw [hr] at HRT
  clear hsc hr hn hT hst hd ha hb hrd hqa hqb hT1 hT0 h hnn
  generalize all g = m at *
  generalize str (clr a) = Sa at *
  generalize str (clr b) = Sb at *
  obtain ⟨d, p, s⟩ := g
  dsimp only [geoV] at HRT HAL HTA HTB ⊢
  obtain ⟨db, hdb⟩ : ∃ q, sh.b = q := ⟨_, rfl⟩
  rw [hdb] at HRA HRB HTL HAK HSC ⊢
  have HBT : Hid (Try.prog.built 48 [(0, .pointer (some ⟨db, 0, none⟩))] = some ([Value.pointer (some ⟨db, 0, none⟩), .int .i64 0, .int .i64 0, .int .i64 0, .int .i64 0, .bool false] : List Value).toArray) := Lib.hid (built_tally _)
  clear hdb
  go_enter Try.func6, Try.ntmps6
  go_wp2_with ((with_reducible refine wpBoxK (w := w) [Value.int .i64 d, .int .i64 p, .int .i64 s] 23 ?_ ?_); rfl; intro u1 r1 b1 s1; have R1 := Lib.hid r1; have B1 := Lib.hid b1; clear r1 b1 s1)
  refine region_invX [(0, 12), (1, 13), (2, 14), (3, 15), (4, 16), (5, 17), (6, 18), (7, 19), (8, 20), (9, 21)]
    (fun ii => [Is (.agg ([Value.int .i64 d, .int .i64 p, .int .i64 s]).toArray), Is (.bool true), Is (.bool false), Is (.bool false), Is (.pointer (some ⟨db, 0, none⟩)), Is (.int .i64 n), Is (.agg ([Value.int .i64 d, .int .i64 p, .int .i64 s]).toArray), Is (.int .i64 m), Is (.bool false), Is (.bool false)].getD ii (Is undef))
    (fun w' => Below u1.heap.size u1 w') (by kernel_rfl) (by kernel_rfl) (by decide) (by decide) (by kernel_rfl) rfl ?monoP ((Below.refl _ _).drew) ?stepP ?finP
  case monoP =>
    intro i
    match i with
    | 0 | 1 | 2 | 3 | 4 | 5 | 6 | 7 | 8 | 9 => exact Is.monot _
    | _ + 10 => exact Is.monot _
  case stepP =>
    refine List.forall_mem_cons.2 ⟨?Ps0, List.forall_mem_cons.2 ⟨?Ps1, List.forall_mem_cons.2 ⟨?Ps2, List.forall_mem_cons.2 ⟨?Ps3, List.forall_mem_cons.2 ⟨?Ps4, List.forall_mem_cons.2 ⟨?Ps5, List.forall_mem_cons.2 ⟨?Ps6, List.forall_mem_cons.2 ⟨?Ps7, List.forall_mem_cons.2 ⟨?Ps8, List.forall_mem_cons.2 ⟨?Ps9, List.forall_mem_nil _⟩⟩⟩⟩⟩⟩⟩⟩⟩⟩
    case Ps0 =>
      intro u wx hg hC
      clear hC
      generalize hA : puts [(0, 12), (1, 13), (2, 14), (3, 15), (4, 16), (5, 17), (6, 18), (7, 19), (8, 20), (9, 21)] _ u = A
      have hp : A.tmps.getD 3 undef = (.pointer (some ⟨w.heap.size, 0, none⟩)) := by rw [← hA]; exact (puts_get_out u _ _ 3 (by decide)).trans (by rfl)
      have hsz : 12 < A.tmps.size := by rw [← hA]; exact puts_room u (by kernel_rfl)
      refine wpOp_step rfl (fun K hK => ?_)
      clear hA
      exact opLoadK (φ := Is (.agg ([Value.int .i64 d, .int .i64 p, .int .i64 s]).toArray)) ((R1.out.step hg)) _ (fits_geo) (rfl) 12 rfl hsz hK (.tmp 3) rfl hp rfl hg
    case Ps1 =>
      intro u wx hg hC
      have hJ0 : u 0 = (.agg ([Value.int .i64 d, .int .i64 p, .int .i64 s]).toArray) := hC.at 0 (by kernel_rfl)
      clear hC
      refine wpOp_step rfl (fun K hK => ?_)
      simp only [puts, List.foldl]
      go_simp
      refine (HRT.out wx).mono ?_
      rintro e w' ⟨rfl, hb'⟩
      exact hK _ _ ⟨rfl, rfl, hg.next hb', hb'⟩
    case Ps2 =>
      intro u wx hg hC
      have hJ1 : u 1 = (.bool true) := hC.at 1 (by kernel_rfl)
      clear hC
      refine wpOp_step rfl (fun K hK => ?_)
      simp only [puts, List.foldl]
      go_simp
      exact hK _ _ ⟨rfl, rfl, hg, Below.refl _ _⟩
    case Ps3 =>
      intro u wx hg hC
      have hJ2 : u 2 = (.bool false) := hC.at 2 (by kernel_rfl)
      clear hC
      refine wpOp_step rfl (fun K hK => ?_)
      simp only [puts, List.foldl]
      go_simp
      exact hK _ _ ⟨rfl, rfl, hg, Below.refl _ _⟩
    case Ps4 =>
      intro u wx hg hC
      have hJ3 : u 3 = (.bool false) := hC.at 3 (by kernel_rfl)
      clear hC
      generalize hA : puts [(0, 12), (1, 13), (2, 14), (3, 15), (4, 16), (5, 17), (6, 18), (7, 19), (8, 20), (9, 21)] _ u = A
      have hgv : A.tmps.getD 15 undef = .bool false := by rw [← hA]; exact (puts_get u 3 15 _ _ (by decide) (by decide) (by kernel_rfl)).trans hJ3
      have hgs : 15 < A.tmps.size := by rw [← hA]; exact puts_room u (by kernel_rfl)
      refine wpOp_guard rfl 3 15 false rfl rfl hgs hgv (fun K hK => ?_)
      subst hA
      simp only [puts, List.foldl]
      go_simp
      exact hK _ _ ⟨rfl, rfl, hg, Below.refl _ _⟩
    case Ps5 =>
      intro u wx hg hC
      have hJ3 : u 3 = (.bool false) := hC.at 3 (by kernel_rfl)
      have hJ4 : u 4 = (.pointer (some ⟨db, 0, none⟩)) := hC.at 4 (by kernel_rfl)
      clear hC
      generalize hA : puts [(0, 12), (1, 13), (2, 14), (3, 15), (4, 16), (5, 17), (6, 18), (7, 19), (8, 20), (9, 21)] _ u = A
      have hgv : A.tmps.getD 15 undef = .bool false := by rw [← hA]; exact (puts_get u 3 15 _ _ (by decide) (by decide) (by kernel_rfl)).trans hJ3
      have hgs : 15 < A.tmps.size := by rw [← hA]; exact puts_room u (by kernel_rfl)
      refine wpOp_guard rfl 3 15 false rfl rfl hgs hgv (fun K hK => ?_)
      subst hA
      simp only [puts, List.foldl]
      go_simp
      refine (HSC.out wx (B1.out.next hg)).mono ?_
      rintro e w' ⟨rfl, rfl⟩; have hb' := Below.refl wx.heap.size wx
      exact hK _ _ ⟨rfl, rfl, hg.next hb', hb'⟩
    case Ps6 =>
      intro u wx hg hC
      have hJ3 : u 3 = (.bool false) := hC.at 3 (by kernel_rfl)
      clear hC
      generalize hA : puts [(0, 12), (1, 13), (2, 14), (3, 15), (4, 16), (5, 17), (6, 18), (7, 19), (8, 20), (9, 21)] _ u = A
      have hgv : A.tmps.getD 15 undef = .bool false := by rw [← hA]; exact (puts_get u 3 15 _ _ (by decide) (by decide) (by kernel_rfl)).trans hJ3
      have hgs : 15 < A.tmps.size := by rw [← hA]; exact puts_room u (by kernel_rfl)
      have hp : A.tmps.getD 3 undef = (.pointer (some ⟨w.heap.size, 0, none⟩)) := by rw [← hA]; exact (puts_get_out u _ _ 3 (by decide)).trans (by rfl)
      have hsz : 18 < A.tmps.size := by rw [← hA]; exact puts_room u (by kernel_rfl)
      refine wpOp_guard rfl 3 15 false rfl rfl hgs hgv (fun K hK => ?_)
      clear hA
      exact opLoadK (φ := Is (.agg ([Value.int .i64 d, .int .i64 p, .int .i64 s]).toArray)) ((R1.out.step hg)) _ (fits_geo) (rfl) 18 rfl hsz hK (.tmp 3) rfl hp rfl hg
    case Ps7 =>
      intro u wx hg hC
      have hJ3 : u 3 = (.bool false) := hC.at 3 (by kernel_rfl)
      have hJ6 : u 6 = (.agg ([Value.int .i64 d, .int .i64 p, .int .i64 s]).toArray) := hC.at 6 (by kernel_rfl)
      clear hC
      generalize hA : puts [(0, 12), (1, 13), (2, 14), (3, 15), (4, 16), (5, 17), (6, 18), (7, 19), (8, 20), (9, 21)] _ u = A
      have hgv : A.tmps.getD 15 undef = .bool false := by rw [← hA]; exact (puts_get u 3 15 _ _ (by decide) (by decide) (by kernel_rfl)).trans hJ3
      have hgs : 15 < A.tmps.size := by rw [← hA]; exact puts_room u (by kernel_rfl)
      refine wpOp_guard rfl 3 15 false rfl rfl hgs hgv (fun K hK => ?_)
      subst hA
      simp only [puts, List.foldl]
      go_simp
      refine (HAL.out wx).mono ?_
      rintro e w' ⟨rfl, hb'⟩
      exact hK _ _ ⟨rfl, rfl, hg.next hb', hb'⟩
    case Ps8 =>
      intro u wx hg hC
      have hJ3 : u 3 = (.bool false) := hC.at 3 (by kernel_rfl)
      have hJ5 : u 5 = (.int .i64 n) := hC.at 5 (by kernel_rfl)
      have hJ7 : u 7 = (.int .i64 m) := hC.at 7 (by kernel_rfl)
      clear hC
      generalize hA : puts [(0, 12), (1, 13), (2, 14), (3, 15), (4, 16), (5, 17), (6, 18), (7, 19), (8, 20), (9, 21)] _ u = A
      have hgv : A.tmps.getD 15 undef = .bool false := by rw [← hA]; exact (puts_get u 3 15 _ _ (by decide) (by decide) (by kernel_rfl)).trans hJ3
      have hgs : 15 < A.tmps.size := by rw [← hA]; exact puts_room u (by kernel_rfl)
      refine wpOp_guard rfl 3 15 false rfl rfl hgs hgv (fun K hK => ?_)
      subst hA
      simp only [puts, List.foldl]
      go_simp
      exact hK _ _ ⟨rfl, rfl, hg, Below.refl _ _⟩
    case Ps9 =>
      intro u wx hg hC
      have hJ3 : u 3 = (.bool false) := hC.at 3 (by kernel_rfl)
      have hJ8 : u 8 = (.bool false) := hC.at 8 (by kernel_rfl)
      clear hC
      refine wpOp_step rfl (fun K hK => ?_)
      simp only [puts, List.foldl]
      go_simp
      exact hK _ _ ⟨rfl, rfl, hg, Below.refl _ _⟩
  case finP =>
    intro u ux hux hφ
    have e9 : u 9 = .bool false := hφ (9, 21) (by decide)
    clear hφ
    simp only [puts, List.foldl]
    rw [e9]
    go_simp
    have RX := Lib.hid (R1.out.step hux)
    have BX : Hid (Below w.heap.size w ux) := Lib.hid (B1.out.next hux)
    clear hux e9 R1 B1
    go_wp2_with (first
      | ((with_reducible refine wpBuildK ([Value.pointer (some ⟨db, 0, none⟩), .int .i64 0, .int .i64 0, .int .i64 0, .int .i64 0, .bool false] : List Value) 48 [(0, .pointer (some ⟨db, 0, none⟩))] HBT.out ?_ ?_); rfl)
      | ((with_reducible refine wpBoxK (w := ux) ([Value.pointer (some ⟨db, 0, none⟩), .int .i64 0, .int .i64 0, .int .i64 0, .int .i64 0, .bool false] : List Value) 48 ?_ ?_); rfl; intro u4 r_ b_ s_; have R4 := Lib.hid r_; have G4 := Lib.hid (RX.out.step b_); have B4 : Hid (Below w.heap.size w u4) := Lib.hid (BX.out.next b_); clear r_ b_ s_))
    obtain ⟨t0, ht0⟩ : ∃ k, ux.heap.size = k := ⟨_, rfl⟩
    have HT0 : Hid (w.heap.size ≤ t0 ∧ w.heap.size ≠ t0) := Lib.hid (by have := BX.out.size; have := RX.out.lt; omega)
    rw [ht0] at R4 ⊢
    have D4 := Lib.hid (HDB.out u4 B4.out)
    have NT : Hid (t0 ∉ sh.S) := Lib.hid (HOF.out _ _ _ D4.out R4.out)
    have NG : Hid (w.heap.size ∉ sh.S) := Lib.hid (HOG.out _ _ _ D4.out G4.out)
    clear ht0 RX BX HDB
    go_loopw [25] (fun i w2 => (i = .int .i64 0 ∧ Dvx w2 sh D ∧ Row w2 t0 48 [.pointer (some ⟨db, 0, none⟩), .int .i64 0, .int .i64 0, .int .i64 0, .int .i64 0, .bool false] ∧ Row w2 w.heap.size 23 [Value.int .i64 d, .int .i64 p, .int .i64 s] ∧ Onl sh.S w w2) ∨ (i = .int .i64 1 ∧ Dvx w2 sh D ∧ Row w2 t0 48 [.pointer (some ⟨db, 0, none⟩), .int .i64 (T0 : Int), .int .i64 (a : Int), .int .i64 0, .int .i64 0, .bool false] ∧ Row w2 w.heap.size 23 [Value.int .i64 d, .int .i64 p, .int .i64 s] ∧ Onl sh.S w w2) ∨ (i = .int .i64 2 ∧ Dvx w2 sh D ∧ Row w2 t0 48 [.pointer (some ⟨db, 0, none⟩), .int .i64 (T0 : Int), .int .i64 (a : Int), .int .i64 (T1 : Int), .int .i64 (b : Int), .bool false] ∧ Row w2 w.heap.size 23 [Value.int .i64 d, .int .i64 p, .int .i64 s] ∧ Onl sh.S w w2)) (fun i _ => 2 - (intOf i).toNat)
    case atStart => exact Or.inl ⟨rfl, D4.out, R4.out, G4.out, Onl.of_below B4.out⟩
    case round =>
      clear D4 R4 G4 B4
      rcases hrel with ⟨rfl, hd_, hr_, hg_, ho_⟩ | ⟨rfl, hd_, hr_, hg_, ho_⟩ | ⟨rfl, hd_, hr_, hg_, ho_⟩
      · have DD := Lib.hid hd_
        have RR := Lib.hid hr_
        have GG := Lib.hid hg_
        have ON := Lib.hid ho_
        have c0 := hr_.cell 0
        clear hd_ hr_ hg_ ho_
        go_wp2_with (first
          | ((with_reducible refine GG.out.wpLoadK 23 fits_geo rfl ?_ ?_); rfl)
          | (go_at_call 22; (with_reducible refine (HTA.out _).mono ?_); rintro e u2 ⟨rfl, b_⟩; have D2 := Lib.hid (DD.out.step b_); have R2 := Lib.hid (RR.out.step b_); have c2 := R2.out.cell 0; have G2 := Lib.hid (GG.out.step b_); have O2 := Lib.hid (ON.out.step b_); clear b_)
          | (go_at_call 23; (with_reducible refine (HRA.out _ D2.out).mono ?_); rintro e u3 ⟨rfl, d_, o_⟩; have D3 := Lib.hid d_; have R3 := Lib.hid (R2.out.onl o_ NT.out); have G3 := Lib.hid (G2.out.onl o_ NG.out); have O3 := Lib.hid (O2.out.trans o_); clear d_ o_))
        refine region_tail 9 [(0, 47), (1, 48), (2, 49), (3, 50), (4, 51), (5, 52), (6, 53), (7, 54), (8, 55)]
          (fun ii => [Is (.pointer (some ⟨t0, 0, none⟩)), Is (.int .i64 0), Is (.int .i64 (T0 : Int)), Is (.string Sa), Is (.int .i64 (a : Int)), Is (.agg [Value.int .i64 (T0 : Int), .int .i64 (a : Int)].toArray), Is (.pointer (some ⟨t0, 0, none⟩)), Is (.pointer (some ⟨t0, 1, none⟩)), Is (.pointer (some ⟨t0, 1, none⟩))].getD ii (Is undef))
          (fun w' => Below u3.heap.size u3 w') (by kernel_rfl) (by decide) (by kernel_rfl) (by kernel_rfl) (by kernel_rfl) (by decide) (by decide) (by kernel_rfl) rfl ?monoq0 ((Below.refl _ _).drew) ?stepq0 ?finq0
        case monoq0 =>
          intro i
          match i with
          | 0 | 1 | 2 | 3 | 4 | 5 | 6 | 7 | 8 => exact Is.monot _
          | _ + 9 => exact Is.monot _
        case stepq0 =>
          refine List.forall_mem_cons.2 ⟨?q0s0, List.forall_mem_cons.2 ⟨?q0s1, List.forall_mem_cons.2 ⟨?q0s2, List.forall_mem_cons.2 ⟨?q0s3, List.forall_mem_cons.2 ⟨?q0s4, List.forall_mem_cons.2 ⟨?q0s5, List.forall_mem_cons.2 ⟨?q0s6, List.forall_mem_cons.2 ⟨?q0s7, List.forall_mem_cons.2 ⟨?q0s8, List.forall_mem_nil _⟩⟩⟩⟩⟩⟩⟩⟩⟩
          case q0s0 =>
            intro u wx hg hC
            clear hC
            refine wpOp_step rfl (fun K hK => ?_)
            simp only [puts, List.foldl]
            go_simp
            exact hK _ _ ⟨rfl, rfl, hg, Below.refl _ _⟩
          case q0s1 =>
            intro u wx hg hC
            clear hC
            refine wpOp_step rfl (fun K hK => ?_)
            simp only [puts, List.foldl]
            go_simp
            exact hK _ _ ⟨rfl, rfl, hg, Below.refl _ _⟩
          case q0s2 =>
            intro u wx hg hC
            clear hC
            refine wpOp_step rfl (fun K hK => ?_)
            simp only [puts, List.foldl]
            go_simp
            exact hK _ _ ⟨rfl, rfl, hg, Below.refl _ _⟩
          case q0s3 =>
            intro u wx hg hC
            clear hC
            refine wpOp_step rfl (fun K hK => ?_)
            simp only [puts, List.foldl]
            go_simp
            exact hK _ _ ⟨rfl, rfl, hg, Below.refl _ _⟩
          case q0s4 =>
            intro u wx hg hC
            have hJ3 : u 3 = (.string Sa) := hC.at 3 (by kernel_rfl)
            clear hC
            refine wpOp_step rfl (fun K hK => ?_)
            simp only [puts, List.foldl]
            go_simp
            refine (HKa.out wx).mono ?_
            rintro e w' ⟨rfl, rfl⟩; have hb' := Below.refl wx.heap.size wx
            exact hK _ _ ⟨rfl, rfl, hg.next hb', hb'⟩
          case q0s5 =>
            intro u wx hg hC
            have hJ2 : u 2 = (.int .i64 (T0 : Int)) := hC.at 2 (by kernel_rfl)
            have hJ4 : u 4 = (.int .i64 (a : Int)) := hC.at 4 (by kernel_rfl)
            clear hC
            generalize hA : puts [(0, 47), (1, 48), (2, 49), (3, 50), (4, 51), (5, 52), (6, 53), (7, 54), (8, 55)] _ u = A
            have q0 : A.tmps.getD 49 undef = (.int .i64 (T0 : Int)) := by rw [← hA]; exact (puts_get u 2 49 _ _ (by decide) (by decide) (by kernel_rfl)).trans hJ2
            have q1 : A.tmps.getD 51 undef = (.int .i64 (a : Int)) := by rw [← hA]; exact (puts_get u 4 51 _ _ (by decide) (by decide) (by kernel_rfl)).trans hJ4
            have hsz : 52 < A.tmps.size := by rw [← hA]; exact puts_room u (by kernel_rfl)
            refine wpOp_step rfl (fun K hK => ?_)
            clear hA
            exact opBuildK (φ := Is (.agg [Value.int .i64 (T0 : Int), .int .i64 (a : Int)].toArray)) _ _ _ (built_sector _ _) 52 rfl hsz hK _ rfl (by rw [Array.toList_map]; show [(0, A.tmps.getD 49 undef), (1, A.tmps.getD 51 undef)] = _; rw [q0, q1]) rfl hg
          case q0s6 =>
            intro u wx hg hC
            have hJ0 : u 0 = (.pointer (some ⟨t0, 0, none⟩)) := hC.at 0 (by kernel_rfl)
            clear hC
            refine wpOp_step rfl (fun K hK => ?_)
            simp only [puts, List.foldl]
            go_simp
            exact hK _ _ ⟨rfl, rfl, hg, Below.refl _ _⟩
          case q0s7 =>
            intro u wx hg hC
            have hJ6 : u 6 = (.pointer (some ⟨t0, 0, none⟩)) := hC.at 6 (by kernel_rfl)
            clear hC
            refine wpOp_step rfl (fun K hK => ?_)
            simp only [puts, List.foldl]
            go_simp
            exact hK _ _ ⟨rfl, rfl, hg, Below.refl _ _⟩
          case q0s8 =>
            intro u wx hg hC
            have hJ1 : u 1 = (.int .i64 0) := hC.at 1 (by kernel_rfl)
            have hJ7 : u 7 = (.pointer (some ⟨t0, 1, none⟩)) := hC.at 7 (by kernel_rfl)
            clear hC
            refine wpOp_step rfl (fun K hK => ?_)
            simp only [puts, List.foldl]
            go_simp
            exact hK _ _ ⟨rfl, rfl, hg, Below.refl _ _⟩
        case finq0 =>
          intro u x4 hb4 hφ
          have e2 : u 5 = .agg [Value.int .i64 (T0 : Int), .int .i64 (a : Int)].toArray := hφ (5, 52) (by decide)
          have e3 : u 8 = .pointer (some ⟨t0, 1, none⟩) := hφ (8, 55) (by decide)
          clear hφ
          simp only [puts, List.foldl]
          rw [e2, e3]
          go_simp
          have D4 := Lib.hid (D3.out.step hb4)
          have R4 : Hid (Row x4 t0 48 ([.pointer (some ⟨db, 0, none⟩)] ++ [.int .i64 0, .int .i64 0] ++ [.int .i64 0, .int .i64 0, .bool false])) := Lib.hid (R3.out.step hb4)
          have G4 := Lib.hid (G3.out.step hb4)
          have O4 := Lib.hid (O3.out.step hb4)
          clear hb4 e2 e3 D3 R3 G3 O3
          go_wp2_with ((with_reducible refine R4.out.wpStoreMidK 1 rfl 45 [Value.int .i64 (T0 : Int), .int .i64 (a : Int)] fits_sector rfl rfl rfl ?_ ?_); rfl; intro u5 r_ o_ s_; have D5 := Lib.hid (HOD.out _ _ _ NT.out D4.out o_); have R5 := Lib.hid r_; have G5 := Lib.hid (G4.out.only o_ HT0.out.2); have O5 : Hid (Onl sh.S w u5) := Lib.hid (o_.below_onl HT0.out.1 O4.out); clear r_ o_ s_)
          go_roundw
          case rel => exact Or.inr (Or.inl ⟨rfl, D5.out, R5.out, G5.out, O5.out⟩)
          case measure => simp [intOf]
      · have DD := Lib.hid hd_
        have RR := Lib.hid hr_
        have GG := Lib.hid hg_
        have ON := Lib.hid ho_
        have c0 := hr_.cell 0
        clear hd_ hr_ hg_ ho_
        go_wp2_with (first
          | ((with_reducible refine GG.out.wpLoadK 23 fits_geo rfl ?_ ?_); rfl)
          | (go_at_call 22; (with_reducible refine (HTB.out _).mono ?_); rintro e u2 ⟨rfl, b_⟩; have D2 := Lib.hid (DD.out.step b_); have R2 := Lib.hid (RR.out.step b_); have c2 := R2.out.cell 0; have G2 := Lib.hid (GG.out.step b_); have O2 := Lib.hid (ON.out.step b_); clear b_)
          | (go_at_call 23; (with_reducible refine (HRB.out _ D2.out).mono ?_); rintro e u3 ⟨rfl, d_, o_⟩; have D3 := Lib.hid d_; have R3 := Lib.hid (R2.out.onl o_ NT.out); have G3 := Lib.hid (G2.out.onl o_ NG.out); have O3 := Lib.hid (O2.out.trans o_); clear d_ o_))
        refine region_tail 9 [(0, 47), (1, 48), (2, 49), (3, 50), (4, 51), (5, 52), (6, 53), (7, 54), (8, 55)]
          (fun ii => [Is (.pointer (some ⟨t0, 0, none⟩)), Is (.int .i64 1), Is (.int .i64 (T1 : Int)), Is (.string Sb), Is (.int .i64 (b : Int)), Is (.agg [Value.int .i64 (T1 : Int), .int .i64 (b : Int)].toArray), Is (.pointer (some ⟨t0, 0, none⟩)), Is (.pointer (some ⟨t0, 1, none⟩)), Is (.pointer (some ⟨t0, 3, none⟩))].getD ii (Is undef))
          (fun w' => Below u3.heap.size u3 w') (by kernel_rfl) (by decide) (by kernel_rfl) (by kernel_rfl) (by kernel_rfl) (by decide) (by decide) (by kernel_rfl) rfl ?monoq1 ((Below.refl _ _).drew) ?stepq1 ?finq1
        case monoq1 =>
          intro i
          match i with
          | 0 | 1 | 2 | 3 | 4 | 5 | 6 | 7 | 8 => exact Is.monot _
          | _ + 9 => exact Is.monot _
        case stepq1 =>
          refine List.forall_mem_cons.2 ⟨?q1s0, List.forall_mem_cons.2 ⟨?q1s1, List.forall_mem_cons.2 ⟨?q1s2, List.forall_mem_cons.2 ⟨?q1s3, List.forall_mem_cons.2 ⟨?q1s4, List.forall_mem_cons.2 ⟨?q1s5, List.forall_mem_cons.2 ⟨?q1s6, List.forall_mem_cons.2 ⟨?q1s7, List.forall_mem_cons.2 ⟨?q1s8, List.forall_mem_nil _⟩⟩⟩⟩⟩⟩⟩⟩⟩
          case q1s0 =>
            intro u wx hg hC
            clear hC
            refine wpOp_step rfl (fun K hK => ?_)
            simp only [puts, List.foldl]
            go_simp
            exact hK _ _ ⟨rfl, rfl, hg, Below.refl _ _⟩
          case q1s1 =>
            intro u wx hg hC
            clear hC
            refine wpOp_step rfl (fun K hK => ?_)
            simp only [puts, List.foldl]
            go_simp
            exact hK _ _ ⟨rfl, rfl, hg, Below.refl _ _⟩
          case q1s2 =>
            intro u wx hg hC
            clear hC
            refine wpOp_step rfl (fun K hK => ?_)
            simp only [puts, List.foldl]
            go_simp
            exact hK _ _ ⟨rfl, rfl, hg, Below.refl _ _⟩
          case q1s3 =>
            intro u wx hg hC
            clear hC
            refine wpOp_step rfl (fun K hK => ?_)
            simp only [puts, List.foldl]
            go_simp
            exact hK _ _ ⟨rfl, rfl, hg, Below.refl _ _⟩
          case q1s4 =>
            intro u wx hg hC
            have hJ3 : u 3 = (.string Sb) := hC.at 3 (by kernel_rfl)
            clear hC
            refine wpOp_step rfl (fun K hK => ?_)
            simp only [puts, List.foldl]
            go_simp
            refine (HKb.out wx).mono ?_
            rintro e w' ⟨rfl, rfl⟩; have hb' := Below.refl wx.heap.size wx
            exact hK _ _ ⟨rfl, rfl, hg.next hb', hb'⟩
          case q1s5 =>
            intro u wx hg hC
            have hJ2 : u 2 = (.int .i64 (T1 : Int)) := hC.at 2 (by kernel_rfl)
            have hJ4 : u 4 = (.int .i64 (b : Int)) := hC.at 4 (by kernel_rfl)
            clear hC
            generalize hA : puts [(0, 47), (1, 48), (2, 49), (3, 50), (4, 51), (5, 52), (6, 53), (7, 54), (8, 55)] _ u = A
            have q0 : A.tmps.getD 49 undef = (.int .i64 (T1 : Int)) := by rw [← hA]; exact (puts_get u 2 49 _ _ (by decide) (by decide) (by kernel_rfl)).trans hJ2
            have q1 : A.tmps.getD 51 undef = (.int .i64 (b : Int)) := by rw [← hA]; exact (puts_get u 4 51 _ _ (by decide) (by decide) (by kernel_rfl)).trans hJ4
            have hsz : 52 < A.tmps.size := by rw [← hA]; exact puts_room u (by kernel_rfl)
            refine wpOp_step rfl (fun K hK => ?_)
            clear hA
            exact opBuildK (φ := Is (.agg [Value.int .i64 (T1 : Int), .int .i64 (b : Int)].toArray)) _ _ _ (built_sector _ _) 52 rfl hsz hK _ rfl (by rw [Array.toList_map]; show [(0, A.tmps.getD 49 undef), (1, A.tmps.getD 51 undef)] = _; rw [q0, q1]) rfl hg
          case q1s6 =>
            intro u wx hg hC
            have hJ0 : u 0 = (.pointer (some ⟨t0, 0, none⟩)) := hC.at 0 (by kernel_rfl)
            clear hC
            refine wpOp_step rfl (fun K hK => ?_)
            simp only [puts, List.foldl]
            go_simp
            exact hK _ _ ⟨rfl, rfl, hg, Below.refl _ _⟩
          case q1s7 =>
            intro u wx hg hC
            have hJ6 : u 6 = (.pointer (some ⟨t0, 0, none⟩)) := hC.at 6 (by kernel_rfl)
            clear hC
            refine wpOp_step rfl (fun K hK => ?_)
            simp only [puts, List.foldl]
            go_simp
            exact hK _ _ ⟨rfl, rfl, hg, Below.refl _ _⟩
          case q1s8 =>
            intro u wx hg hC
            have hJ1 : u 1 = (.int .i64 1) := hC.at 1 (by kernel_rfl)
            have hJ7 : u 7 = (.pointer (some ⟨t0, 1, none⟩)) := hC.at 7 (by kernel_rfl)
            clear hC
            refine wpOp_step rfl (fun K hK => ?_)
            simp only [puts, List.foldl]
            go_simp
            exact hK _ _ ⟨rfl, rfl, hg, Below.refl _ _⟩
        case finq1 =>
          intro u x4 hb4 hφ
          have e2 : u 5 = .agg [Value.int .i64 (T1 : Int), .int .i64 (b : Int)].toArray := hφ (5, 52) (by decide)
          have e3 : u 8 = .pointer (some ⟨t0, 3, none⟩) := hφ (8, 55) (by decide)
          clear hφ
          simp only [puts, List.foldl]
          rw [e2, e3]
          go_simp
          have D4 := Lib.hid (D3.out.step hb4)
          have R4 : Hid (Row x4 t0 48 ([.pointer (some ⟨db, 0, none⟩), .int .i64 (T0 : Int), .int .i64 (a : Int)] ++ [.int .i64 0, .int .i64 0] ++ [.bool false])) := Lib.hid (R3.out.step hb4)
          have G4 := Lib.hid (G3.out.step hb4)
          have O4 := Lib.hid (O3.out.step hb4)
          clear hb4 e2 e3 D3 R3 G3 O3
          go_wp2_with ((with_reducible refine R4.out.wpStoreMidK 3 rfl 45 [Value.int .i64 (T1 : Int), .int .i64 (b : Int)] fits_sector rfl rfl rfl ?_ ?_); rfl; intro u5 r_ o_ s_; have D5 := Lib.hid (HOD.out _ _ _ NT.out D4.out o_); have R5 := Lib.hid r_; have G5 := Lib.hid (G4.out.only o_ HT0.out.2); have O5 : Hid (Onl sh.S w u5) := Lib.hid (o_.below_onl HT0.out.1 O4.out); clear r_ o_ s_)
          go_roundw
          case rel => exact Or.inr (Or.inr ⟨rfl, D5.out, R5.out, G5.out, O5.out⟩)
          case measure => simp [intOf]
      · have DD := Lib.hid hd_
        have RR := Lib.hid hr_
        have ON := Lib.hid ho_
        have HL5 : Hid (5 < ([.pointer (some ⟨db, 0, none⟩), .int .i64 (T0 : Int), .int .i64 (a : Int), .int .i64 (T1 : Int), .int .i64 (b : Int), .bool false] : List Value).length) := Lib.hid (by show 5 < 6; omega)
        clear hd_ hr_ hg_ ho_
        go_wp2_with (first
          | (go_at_call 25; (with_reducible refine (HAK.out _ t0 [] _ RR.out).mono ?_); rintro e u5 ⟨rfl, b_⟩; have D5 := Lib.hid (DD.out.step b_); have R5 := Lib.hid (RR.out.step b_); have O5 := Lib.hid (ON.out.step b_); clear b_)
          | ((with_reducible refine R5.out.wpStore1K 5 4 (.bool (decide (a = b))) finfo_bool HL5.out (bool_cells _) (bool_one _) ?_ ?_); rfl; intro u6 r_ o_ s_; have D6 := Lib.hid (HOD.out _ _ _ NT.out D5.out o_); have R6 := Lib.hid r_; have O6 : Hid (Onl sh.S w u6) := Lib.hid (o_.below_onl HT0.out.1 O5.out); clear r_ o_ s_))
        go_ret2
        exact ⟨t0, rfl, HTL.out _ _ D6.out R6.out, O6.out, HT0.out.1⟩
end Go.Proofs.Ytcehdgdgjjecmaa

/- The document's count of a sector of which the first k bits are cleared. -/
namespace Go.Proofs.Ytcehdgdgjjecmaa
open Go.RowKit FlaMath
set_option linter.unusedVariables false
set_option maxRecDepth 100000

/-- Bit r of a byte of which the first j bits are cleared. -/
theorem tal_bit8 : ((List.range 9).all fun j => (List.range 8).all fun r => decide ((sh j).toNat >>> (7 - r) % 2 = if r < j then 0 else 1)) = true := by kernel_rfl
theorem tal_bit (k c : Nat) : (clb (c / 8) k).toNat >>> (7 - c % 8) % 2 = if c < k then 0 else 1 := by
  unfold clb
  obtain ⟨j, hj⟩ : ∃ j, k - 8 * (c / 8) = j := ⟨_, rfl⟩
  rw [hj]
  by_cases h : 8 ≤ j
  · rw [sh_big h, if_pos (by omega)]
    simp
  · have := List.all_eq_true.1 (List.all_eq_true.1 tal_bit8 j (List.mem_range.2 (by omega))) (c % 8) (List.mem_range.2 (by omega))
    rw [decide_eq_true_eq] at this
    rw [this]
    by_cases h2 : c < k
    · rw [if_pos h2, if_pos (by omega)]
    · rw [if_neg h2, if_neg (by omega)]
set_option maxHeartbeats 1000000 in
theorem tal_ref_any (k : Nat) (hk : k ≤ 512) (w : World) :
    Calls Try.prog 19 #[.string (str (clr k))] w fun e w' => e = .returned (.int .i64 (k : Int)) ∧ w = w' := by
  have hsz : (str (clr k)).size = 64 := by rw [str_size, clr_length]
  have HAT : Hid (∀ c (h : c < (str (clr k)).size), (str (clr k))[c] = clb c k) := Lib.hid (clr_at k)
  generalize str (clr k) = S at *
  have HS := Lib.hid hsz
  have hS2 : (8 : Int) * (S.size : Int) = 512 := by omega
  have hS3 : (S.size : Int) ≤ 64 := by omega
  clear hsz
  go_enter Try.func19, Try.ntmps19
  go_wp2
  go_loopw [3] (fun i wr => ∃ c : Nat, c ≤ k ∧ i = .int .i64 c ∧ wr = w) (fun i _ => 512 - (intOf i).toNat)
  case atStart => exact ⟨0, by omega, rfl, rfl⟩
  case round =>
    obtain ⟨c, hc, rfl, rfl⟩ := hrel
    have hcI : (c : Int) ≤ 512 := by omega
    by_cases h64 : c < 512
    · have e1 : (c : Int) < 512 := by omega
      obtain ⟨q, hq⟩ : ∃ q, c / 8 = q := ⟨_, rfl⟩
      obtain ⟨r, hr⟩ : ∃ r, c % 8 = r := ⟨_, rfl⟩
      have hq1 : (c : Int) / 8 = (q : Int) := by omega
      have hq2 : (c : Int).tdiv 8 = (q : Int) := by rw [Int.tdiv_eq_ediv_of_nonneg (by omega)]; exact hq1
      have hr1 : (c : Int) % 8 = (r : Int) := by omega
      have hr2 : (c : Int).tmod 8 = (r : Int) := by rw [Int.tmod_eq_emod_of_nonneg (by omega)]; exact hr1
      have hqs : q < S.size := by rw [HS.out]; omega
      have hqI : (q : Int) < (S.size : Int) := by omega
      have hq64 : (q : Int) < 64 := by omega
      have hrI : (r : Int) < 8 := by omega
      have hb := tal_bit k c
      rw [hq, hr] at hb
      have hat := HAT.out q hqs
      have hx8 := (clb q k).toNat_lt
      rw [← hat] at hb hx8
      obtain ⟨x, hx⟩ : ∃ x, S[q].toNat = x := ⟨_, rfl⟩
      rw [hx] at hb hx8
      have HB := Lib.hid hb
      have hxI : (x : Int) < 256 := by omega
      have HC := Lib.hid hc
      have HCI := Lib.hid hcI
      obtain ⟨m, hm⟩ : ∃ m, 7 - r = m := ⟨_, rfl⟩
      have hmI : (7 : Int) - (r : Int) = (m : Int) := by omega
      rw [hm] at HB
      have hm7 : (m : Int) ≤ 7 := by omega
      have HM := Lib.hid hm
      clear hat hb hq hr hx8 hm hc
      go_wp2
      go_loopw [4, 5] (fun v i w2 => ∃ d : Nat, d ≤ m ∧ i = .int .i64 d ∧ v = .int .i64 ((x >>> d : Nat) : Int) ∧ w2 = wr) (fun _ i _ => m - (intOf i).toNat)
      case atStart => exact ⟨0, by omega, rfl, rfl, rfl⟩
      case round =>
        obtain ⟨d, hd, rfl, rfl, rfl⟩ := hrel
        have hdI : (d : Int) ≤ 7 := by omega
        obtain ⟨y, hy⟩ : ∃ y, x >>> d = y := ⟨_, rfl⟩
        have hyx : y ≤ x := by rw [← hy]; exact Nat.shiftRight_le _ _
        have hyI : (y : Int) < 256 := by omega
        by_cases hlt : d < m
        · have e2 : (d : Int) < (m : Int) := by omega
          have HN : Hid (x >>> (d + 1) = y / 2) := Lib.hid (by rw [← hy]; rfl)
          obtain ⟨z, hz⟩ : ∃ z, y / 2 = z := ⟨_, rfl⟩
          rw [hz] at HN
          have hz1 : (y : Int) / 2 = (z : Int) := by omega
          have hz2 : (y : Int).tdiv 2 = (z : Int) := by rw [Int.tdiv_eq_ediv_of_nonneg (by omega)]; exact hz1
          rw [hy]
          clear hy hz
          go_wp2
          go_roundw
          case rel => exact ⟨d + 1, by omega, by go_num, by rw [HN.out], trivial⟩
          case measure => simp [intOf]; omega
        · have hde : d = m := by omega
          have e2 : ¬ (d : Int) < (m : Int) := by omega
          rw [hy]
          rw [hde] at hy
          rw [hy] at HB
          by_cases hck : c < k
          · have hp := HB.out
            rw [if_pos hck] at hp
            have hp1 : (y : Int) % 2 = 0 := by omega
            have hp2 : (y : Int).tmod 2 = 0 := by rw [Int.tmod_eq_emod_of_nonneg (by omega)]; exact hp1
            clear hp hy hde
            go_wp2
            go_roundw
            case rel => exact ⟨c + 1, by omega, by go_num, trivial⟩
            case measure => simp [intOf]; omega
          · have hp := HB.out
            rw [if_neg hck] at hp
            have hp1 : (y : Int) % 2 = 1 := by omega
            have hp2 : (y : Int).tmod 2 = 1 := by rw [Int.tmod_eq_emod_of_nonneg (by omega)]; exact hp1
            have HCE : Hid ((c : Int) = (k : Int)) := Lib.hid (by have := HC.out; omega)
            clear hp hy hde hck
            go_wp2
            go_ret
            exact ⟨ret_int HCE.out, rfl⟩
    · have hce : c = 512 := by omega
      have hn : ¬ (c : Int) < 512 := by omega
      have HCE : Hid ((c : Int) = (k : Int)) := Lib.hid (by omega)
      clear hce
      go_wp2
      go_ret
      exact ⟨ret_int HCE.out, rfl⟩
end Go.Proofs.Ytcehdgdgjjecmaa

/- Contracts of geo's Of (gen_geo_e.py). -/
namespace Go.Proofs.Ytcehdgdgjjecmaa
open Go.RowKit GeoMath
set_option linter.unusedVariables false
set_option maxRecDepth 100000

end Go.Proofs.Ytcehdgdgjjecmaa

/- The list of all sectors, as a function of the place; where something lies in it. No program in it. -/
namespace Go.Proofs.Ytcehdgdgjjecmaa.GeoMath
set_option linter.unusedVariables false

structure Pl where
  w : Int
  a : Int
  b : Int
  c : Int
/-- What lies on sector k (W sectors a stripe, S stripes). -/
def pl (W S k : Nat) : Pl :=
  if k < 3 * (W * S) then ⟨0, ((k / (W * S) : Nat) : Int), ((k % (W * S) % S : Nat) : Int), ((k % (W * S) / S : Nat) : Int)⟩
  else if k < 3 * (W * S) + 16 then ⟨1, (((k - 3 * (W * S)) / 8 : Nat) : Int), (((k - 3 * (W * S)) / 4 % 2 : Nat) : Int), (((k - 3 * (W * S)) % 4 : Nat) : Int)⟩
  else ⟨2, ((k - (3 * (W * S) + 16) : Nat) : Int), 0, 0⟩
theorem pl_slot {W S k1 k2 k3 : Nat} (h1 : k1 < 3) (h2 : k2 < W) (h3 : k3 < S) : pl W S (k1 * (W * S) + k2 * S + k3) = ⟨0, (k1 : Int), (k3 : Int), (k2 : Int)⟩ := by
  have h4 : k2 * S + k3 < W * S := by
    have : (k2 + 1) * S ≤ W * S := Nat.mul_le_mul_right _ h2
    rw [Nat.add_mul, Nat.one_mul] at this
    omega
  have h5 : k1 * (W * S) + k2 * S + k3 < 3 * (W * S) := by
    have : (k1 + 1) * (W * S) ≤ 3 * (W * S) := Nat.mul_le_mul_right _ h1
    rw [Nat.add_mul, Nat.one_mul] at this
    omega
  have e1 : (k1 * (W * S) + k2 * S + k3) / (W * S) = k1 := by
    rw [Nat.add_assoc, Nat.mul_comm k1, Nat.mul_add_div (by omega), Nat.div_eq_of_lt h4, Nat.add_zero]
  have e2 : (k1 * (W * S) + k2 * S + k3) % (W * S) = k2 * S + k3 := by
    rw [Nat.add_assoc, Nat.mul_comm k1, Nat.mul_add_mod, Nat.mod_eq_of_lt h4]
  have e3 : (k2 * S + k3) % S = k3 := by rw [Nat.mul_comm, Nat.mul_add_mod, Nat.mod_eq_of_lt h3]
  have e4 : (k2 * S + k3) / S = k2 := by rw [Nat.mul_comm, Nat.mul_add_div (by omega), Nat.div_eq_of_lt h3, Nat.add_zero]
  rw [pl, if_pos h5, e1, e2, e3, e4]
theorem pl_log {W S a b c : Nat} (h1 : a < 2) (h2 : b < 2) (h3 : c < 4) : pl W S (3 * (W * S) + a * 8 + b * 4 + c) = ⟨1, (a : Int), (b : Int), (c : Int)⟩ := by
  rw [pl, if_neg (by omega), if_pos (by omega)]
  rw [show 3 * (W * S) + a * 8 + b * 4 + c - 3 * (W * S) = a * 8 + b * 4 + c from by omega]
  rw [show (a * 8 + b * 4 + c) / 8 = a from by omega, show (a * 8 + b * 4 + c) / 4 % 2 = b from by omega, show (a * 8 + b * 4 + c) % 4 = c from by omega]
theorem pl_tal {W S a : Nat} : pl W S (3 * (W * S) + 16 + a) = ⟨2, (a : Int), 0, 0⟩ := by
  rw [pl, if_neg (by omega), if_neg (by omega), Nat.add_sub_cancel_left]
/-- A list of n places, place by place. -/
def pls (W S : Nat) : Nat → List Pl
  | 0 => []
  | n + 1 => pls W S n ++ [pl W S n]
theorem pls_length (W S n : Nat) : (pls W S n).length = n := by induction n with
  | zero => rfl
  | succ n ih => rw [pls, List.length_append, ih]; rfl
theorem pls_get (W S n k : Nat) (h : k < n) : (pls W S n)[k]? = some (pl W S k) := by induction n with
  | zero => omega
  | succ n ih =>
    rw [pls]
    by_cases e : k < n
    · rw [List.getElem?_append_left (by rw [pls_length]; exact e), ih e]
    · have e : k = n := by omega
      subst e
      rw [List.getElem?_append_right (by rw [pls_length]; exact Nat.le_refl _), pls_length, Nat.sub_self]; rfl
/-- How many sectors there are. -/
def cnt (W S : Nat) : Nat := 3 * (W * S) + 18
/-- What a sector may be. -/
theorem pl_cases {W S k : Nat} (hW : 0 < W) (hS : 0 < S) (h : k < cnt W S) :
    (∃ a b c, a < 3 ∧ c < W ∧ b < S ∧ k = a * (W * S) + c * S + b ∧ pl W S k = ⟨0, (a : Nat), (b : Nat), (c : Nat)⟩) ∨
    (∃ a b c, a < 2 ∧ b < 2 ∧ c < 4 ∧ k = 3 * (W * S) + a * 8 + b * 4 + c ∧ pl W S k = ⟨1, (a : Nat), (b : Nat), (c : Nat)⟩) ∨
    (∃ a, a < 2 ∧ k = 3 * (W * S) + 16 + a ∧ pl W S k = ⟨2, (a : Nat), 0, 0⟩) := by
  rw [cnt] at h
  by_cases h1 : k < 3 * (W * S)
  · have hp : 0 < W * S := Nat.mul_pos hW hS
    have e1 := Nat.div_add_mod k (W * S)
    have e2 := Nat.div_add_mod (k % (W * S)) S
    have l1 : k / (W * S) < 3 := Nat.div_lt_of_lt_mul (by rw [Nat.mul_comm]; exact h1)
    have l2 : k % (W * S) / S < W := Nat.div_lt_of_lt_mul (by rw [Nat.mul_comm S W]; exact Nat.mod_lt _ hp)
    have l3 : k % (W * S) % S < S := Nat.mod_lt _ hS
    have e3 : k = k / (W * S) * (W * S) + k % (W * S) / S * S + k % (W * S) % S := by
      rw [Nat.mul_comm (k / (W * S)), Nat.mul_comm (k % (W * S) / S), Nat.add_assoc, e2, e1]
    exact Or.inl ⟨_, _, _, l1, l2, l3, e3, by rw [pl, if_pos h1]⟩
  · by_cases h2 : k < 3 * (W * S) + 16
    · exact Or.inr (Or.inl ⟨(k - 3 * (W * S)) / 8, (k - 3 * (W * S)) / 4 % 2, (k - 3 * (W * S)) % 4, by omega, by omega, by omega, by omega, by rw [pl, if_neg h1, if_pos h2]⟩)
    · exact Or.inr (Or.inr ⟨k - (3 * (W * S) + 16), by omega, by omega, by rw [pl, if_neg h1, if_neg h2]⟩)
/-- Where p lies among the first n, or -1. -/
def IsAt (W S n : Nat) (p : Pl) (r : Int) : Prop := (r = -1 ∧ ∀ j, j < n → pl W S j ≠ p) ∨ ∃ j, j < n ∧ r = (j : Int) ∧ pl W S j = p ∧ ∀ i, i < j → pl W S i ≠ p
end Go.Proofs.Ytcehdgdgjjecmaa.GeoMath

/- append onto a slice of one's own, of elements of more than one cell. -/
namespace Go.Proofs.Ytcehdgdgjjecmaa
open Go.RowKit

/-- A type of s cells, of some bytes. -/
structure Many (P : Program) (e : TypeId) (s : Nat) : Prop where
  row : ∃ i z, P.info? e = some i ∧ i.zero = some z ∧ i.size = s ∧ z.cells.size = s ∧ i.bytes ≤ 64
theorem Many.of {P : Program} {e : TypeId} {s : Nat} (h : ((P.info? e).map fun i => (i.zero.map fun z => z.cells.size) == some s && i.size == s && decide (i.bytes ≤ 64)) = some true) : Many P e s := by
  generalize hq : P.info? e = q at h
  match q with
  | none => cases h
  | some i =>
    simp only [Option.map_some, Option.some.injEq, Bool.and_eq_true, beq_iff_eq, decide_eq_true_eq] at h
    obtain ⟨⟨h1, h2⟩, h3⟩ := h
    generalize hz : i.zero = zz at h1
    match zz with
    | none => cases h1
    | some z =>
      simp only [Option.map_some, Option.some.injEq] at h1
      exact ⟨i, z, hq, hz, h2, h1, h3⟩
section
variable {P : Program}
/-- append(v, l...): v a slice of one's own, l what lies at an address: m elements of s cells. -/
theorem wpAppendM {ops : Array Oper} {rest : List Oper} {o : Oper} {a : Act} {w : World} {Q : Exit → Act → World → Prop} {base n m s : Nat} {T e : TypeId} {v : Value} {xs news : List Value} {p : Option Addr} (c : Nat)
    (hown : w.ownsRow base e s v n xs) (hT : P.underlying T = some (.slice e)) (he : Many P e s) (hs : Lies w w.heap.size p news) (hl : news.length = m * s) (hm : 0 < m) (hs0 : 0 < s) (h1 : news.all (·.oneCell') = true) (hn : Big (n + m ≤ 1099511627776)) (hbase : base ≤ w.heap.size)
    (ho : appendOf o a = some (T, T, v, .slice p m c))
    (k : ∀ v' w', w'.ownsRow base e s v' (n + m) (xs ++ news) → w.grownBy w' v.ownBlock → (v'.ownBlock = v.ownBlock ∨ v'.ownBlock = some w.heap.size) → wpList P ops Q rest (a.put o.dst v') w') : wpList P ops Q (o :: rest) a w := by
  obtain ⟨hg, x, y, hop, hx, hy⟩ := appendOf_spec ho
  obtain ⟨i, z, hi, hz, h2, h3, h4⟩ := he.row
  obtain ⟨b, off, rfl, hb, hc⟩ := hs (by rw [hl]; exact Nat.mul_pos hm hs0)
  refine wpList_append_own_at w hg x y T hop base e i z s i.bytes hT hi hz h2 rfl h3 hs0 v n xs hx hown ⟨b, off, none⟩ m c news hy hl ?_ (fun u hu => (List.all_eq_true.1 h1) u hu) ?_ ?_ hbase fun v' w' g1 g2 _ g4 => k v' w' g1 g2 g4
  · intro j u hj
    rw [Addr.add_mid]
    exact hc j u hj
  · have := hn.out; unfold maxLen; omega
  · exact Nat.le_trans (Nat.mul_le_mul hn.out h4) (by omega)
end
/-- A block of one's own as a slice that may be appended to. -/
theorem Row.ownsM {w : World} {g base n cap s : Nat} {e : TypeId} {xs ys : List Value} (h : Row w g e (xs ++ ys)) (hb : base ≤ g) (hx : xs.length = n * s) (hy : ys.length = (cap - n) * s) (hn : n ≤ cap) (hcap : cap ≤ maxLen) : w.ownsRow base e s (.slice (some ⟨g, 0, none⟩) n cap) n xs :=
  ⟨hx, .inr ⟨g, cap, _, rfl, hb, h, hn, hcap, by simp [hx, hy, ← Nat.add_mul]; rw [show n + (cap - n) = cap from by omega], by simp [← hx]⟩⟩
/-- What a slice of one's own holds. -/
theorem own_formM {w : World} {base s : Nat} {v : Value} {n : Nat} {xs : List Value} {e : TypeId} (h : w.ownsRow base e s v n xs) :
    ∃ a cap, v = .slice a n cap ∧ Lies w w.heap.size a xs := by
  rcases h.2 with ⟨rfl, rfl⟩ | ⟨g, cap, cur, rfl, hb, hh, hr⟩
  · exact ⟨none, 0, rfl, fun h0 => by have := h.1; omega⟩
  · refine ⟨some ⟨g, 0, none⟩, cap, rfl, fun _ => ⟨g, 0, rfl, (Array.getElem?_eq_some_iff.1 hh).1, fun j u hu => ?_⟩⟩
    have := h.cells (g := g) rfl j u hu
    rwa [Addr.add_lit] at this
end Go.Proofs.Ytcehdgdgjjecmaa

/- The document's List of all sectors. -/
namespace Go.Proofs.Ytcehdgdgjjecmaa
open Go.RowKit GeoMath
set_option linter.unusedVariables false
set_option maxRecDepth 100000

def plv (p : Pl) : List Value := [.int .i64 p.w, .int .i64 p.a, .int .i64 p.b, .int .i64 p.c]
/-- The cells of a list of places. -/
def plc (W S n : Nat) : List Value := (pls W S n).flatMap plv
theorem plc_step (W S n : Nat) : plc W S (n + 1) = plc W S n ++ plv (pl W S n) := by rw [plc, pls, List.flatMap_append, plc]; simp
theorem fits_rgeo : Fits Try.prog 34 3 := ⟨⟨_, Try.underlying34, rfl⟩, by kernel_rfl⟩
theorem own_nilM {w : World} {T : TypeId} {s : Nat} : (w.alloc (.cells #[] T)).ownsRow w.heap.size T s (.slice (some ⟨w.heap.size, 0, none⟩) 0 0) 0 [] :=
  Row.ownsM (xs := []) (ys := []) (Row.new w T []) (Nat.le_refl _) (by simp) (by simp) (Nat.le_refl _) (by unfold maxLen; omega)

theorem own_mono {w : World} {B B' s : Nat} {e : TypeId} {v : Value} {n : Nat} {xs : List Value} (h : w.ownsRow B' e s v n xs) (hb : B ≤ B') : w.ownsRow B e s v n xs := by
  refine ⟨h.1, ?_⟩
  rcases h.2 with h | ⟨g, cap, cur, h1, h2, h3⟩
  · exact .inl h
  · exact .inr ⟨g, cap, cur, h1, Nat.le_trans hb h2, h3⟩

end Go.Proofs.Ytcehdgdgjjecmaa

/- The document's Find. -/
namespace Go.Proofs.Ytcehdgdgjjecmaa
open Go.RowKit GeoMath
set_option linter.unusedVariables false
set_option maxRecDepth 100000

theorem plc_get (W S n k : Nat) (h : k < n) (j : Nat) (v : Value) (hj : (plv (pl W S k))[j]? = some v) : (plc W S n)[k * 4 + j]? = some v := by
  have hj4 : j < 4 := (List.getElem?_eq_some_iff.1 hj).1
  induction n with
  | zero => omega
  | succ n ih =>
    have hl : ∀ n, (plc W S n).length = n * 4 := fun n => by
      induction n with
      | zero => rfl
      | succ n ih => rw [plc_step, List.length_append, ih, Nat.add_mul]; rfl
    rw [plc_step]
    by_cases e : k < n
    · rw [List.getElem?_append_left (by rw [hl]; omega), ih e]
    · have e : k = n := by omega
      subst e
      rw [List.getElem?_append_right (by rw [hl]; omega), hl, Nat.add_sub_cancel_left, hj]
theorem plc_at {w : World} {W S n k bl off : Nat} (hc : ∀ j v, (plc W S n)[j]? = some v → w.cell? ⟨bl, off + j, none⟩ = some v) (h : k < n) : w.rangeAt bl (off + k * 4) (plv (pl W S k)) := by
  intro j v hj
  rw [Nat.add_assoc]
  exact hc _ _ (plc_get W S n k h j v hj)
end Go.Proofs.Ytcehdgdgjjecmaa

/- What geo answers is where the list has it: mathematics, no program in it. -/
namespace Go.Proofs.Ytcehdgdgjjecmaa.GeoMath
set_option linter.unusedVariables false

/-- What the statement's sector asks. -/
def secB (n e want : Int) : Bool := if want < 0 then decide (n = 0 ∧ e = 2) else decide (n = want ∧ e = 0)
theorem secB_no {n e want : Int} (h : want = -1) (hn : n = 0) (he : e = 2) : secB n e want = true := by
  subst h; subst hn; subst he; decide
theorem secB_yes {n e want : Int} (h : 0 ≤ want) (hn : n = want) (he : e = 0) : secB n e want = true := by
  rw [secB, if_neg (by omega)]
  exact decide_eq_true ⟨hn, he⟩
structure Dim (g : Gm) (W S : Nat) : Prop where
  r : Rt g
  w : g.d + g.p = (W : Int)
  s : g.s = (S : Int)
theorem Dim.W3 {g : Gm} {W S : Nat} (h : Dim g W S) : 3 ≤ W := by have := h.r.d1; have := h.r.p2; have := h.w; omega
theorem Dim.S1 {g : Gm} {W S : Nat} (h : Dim g W S) : 1 ≤ S := by have := h.r.s1; have := h.s; omega
theorem Dim.slot {g : Gm} {W S : Nat} (h : Dim g W S) : slot g = ((W * S : Nat) : Int) := by rw [slot_yes h.r, h.w, h.s, Int.natCast_mul]
theorem ask_two {g : Gm} {L : List Sp} (hr : Rt g) (h : ¬ askF g L = 0) : askF g L = 2 := by
  rcases ask_cases g L with ⟨h1, _⟩ | ⟨_, _, h2⟩ | ⟨_, _, h2⟩
  · rw [(right_iff g).2 hr] at h1; cases h1
  · exact h2
  · exact absurd h2 h
theorem ask_ok {g : Gm} {L : List Sp} (hr : Rt g) (h : okAll L = true) : askF g L = 0 := by
  rw [askF, if_pos ((right_iff g).2 hr), if_pos h]
theorem sec_ok {g : Gm} {W S : Nat} (D : Dim g W S) {a b c r : Int} (h : IsAt W S (cnt W S) ⟨0, a, b, c⟩ r) : secB (sect g a b c) (sectQ g a b c) r = true := by
  have hW := D.W3
  have hS := D.S1
  rcases h with ⟨h1, h2⟩ | ⟨j, h1, h2, h3, h4⟩
  · have hq : ¬ sectQ g a b c = 0 := fun hq => by
      have hi := (sectQ_zero g a b c).1 hq
      have x1 := hi.a0; have x2 := hi.a2; have x3 := hi.b0; have x4 := hi.bs; have x5 := hi.c0; have x6 := hi.cw
      rw [D.s] at x4
      rw [D.w] at x6
      have l1 : a.toNat < 3 := by omega
      have l2 : c.toNat < W := by omega
      have l3 : b.toNat < S := by omega
      have hp := pl_slot l1 l2 l3
      have hl : a.toNat * (W * S) + c.toNat * S + b.toNat < cnt W S := by
        have m1 : (a.toNat + 1) * (W * S) ≤ 3 * (W * S) := Nat.mul_le_mul_right _ l1
        have m2 : (c.toNat + 1) * S ≤ W * S := Nat.mul_le_mul_right _ l2
        rw [Nat.add_mul] at m1 m2
        rw [cnt]
        omega
      refine h2 _ hl ?_
      rw [hp, Int.toNat_of_nonneg x1, Int.toNat_of_nonneg x3, Int.toNat_of_nonneg x5]
    exact secB_no h1 (if_neg hq) (ask_two D.r hq)
  · rcases pl_cases (by omega) (by omega) h1 with ⟨a', b', c', l1, l2, l3, e, hp⟩ | ⟨a', b', c', l1, l2, l3, e, hp⟩ | ⟨a', l1, e, hp⟩
    · rw [hp] at h3
      cases h3
      have hi : SIn g (a' : Nat) (b' : Nat) (c' : Nat) := ⟨D.r, by omega, by omega, by omega, by rw [D.s]; omega, by omega, by rw [D.w]; omega⟩
      have hq := (sectQ_zero g _ _ _).2 hi
      refine secB_yes (by omega) ?_ hq
      rw [sect, if_pos hq, D.slot, D.s, h2, e]
      simp only [Int.natCast_add, Int.natCast_mul]
    · rw [hp] at h3; cases h3
    · rw [hp] at h3; cases h3
theorem half_ok {g : Gm} {W S : Nat} (D : Dim g W S) {a b r : Int} (h : IsAt W S (cnt W S) ⟨1, a, b, 0⟩ r) : secB (half g a b) (halfQ g a b) r = true := by
  have hW := D.W3
  have hS := D.S1
  rcases h with ⟨h1, h2⟩ | ⟨j, h1, h2, h3, h4⟩
  · have hq : ¬ halfQ g a b = 0 := fun hq => by
      obtain ⟨⟨x1, x2⟩, x3, x4⟩ := (okAll2 _ _).1 (ask_zero hq).2
      dsimp only at x1 x2 x3 x4
      have hp := pl_log (W := W) (S := S) (a := a.toNat) (b := b.toNat) (c := 0) (by omega) (by omega) (by omega)
      refine h2 _ (by rw [cnt]; omega) (hp.trans ?_)
      rw [Int.toNat_of_nonneg x1, Int.toNat_of_nonneg x3]
      rfl
    exact secB_no h1 (if_neg hq) (ask_two D.r hq)
  · rcases pl_cases (by omega) (by omega) h1 with ⟨a', b', c', l1, l2, l3, e, hp⟩ | ⟨a', b', c', l1, l2, l3, e, hp⟩ | ⟨a', l1, e, hp⟩
    · rw [hp] at h3; cases h3
    · rw [hp] at h3
      simp only [Pl.mk.injEq] at h3
      obtain ⟨_, ha, hb, hc⟩ := h3
      have hq : halfQ g a b = 0 := ask_ok D.r ((okAll2 _ _).2 ⟨⟨by show 0 ≤ a; omega, by show a ≤ 1; omega⟩, by show 0 ≤ b; omega, by show b ≤ 1; omega⟩)
      refine secB_yes (by omega) ?_ hq
      rw [half, if_pos hq, log, D.slot, h2, e]
      omega
    · rw [hp] at h3; cases h3
theorem tal_ok {g : Gm} {W S : Nat} (D : Dim g W S) {a r : Int} (h : IsAt W S (cnt W S) ⟨2, a, 0, 0⟩ r) : secB (talA g a) (talQ g a) r = true := by
  have hW := D.W3
  have hS := D.S1
  rcases h with ⟨h1, h2⟩ | ⟨j, h1, h2, h3, h4⟩
  · have hq : ¬ talQ g a = 0 := fun hq => by
      obtain ⟨x1, x2⟩ := (okAll1 _).1 (ask_zero hq).2
      dsimp only at x1 x2
      have hp := pl_tal (W := W) (S := S) (a := a.toNat)
      refine h2 _ (by rw [cnt]; omega) (hp.trans ?_)
      rw [Int.toNat_of_nonneg x1]
    exact secB_no h1 (if_neg hq) (ask_two D.r hq)
  · rcases pl_cases (by omega) (by omega) h1 with ⟨a', b', c', l1, l2, l3, e, hp⟩ | ⟨a', b', c', l1, l2, l3, e, hp⟩ | ⟨a', l1, e, hp⟩
    · rw [hp] at h3; cases h3
    · rw [hp] at h3; cases h3
    · rw [hp] at h3
      simp only [Pl.mk.injEq] at h3
      obtain ⟨_, ha, _, _⟩ := h3
      have hq : talQ g a = 0 := ask_ok D.r ((okAll1 _).2 ⟨by show 0 ≤ a; omega, by show a ≤ 1; omega⟩)
      refine secB_yes (by omega) ?_ hq
      rw [talA, if_pos hq, tal, log, D.slot, h2, e]
      omega
/-- What Of answers: of a slot's sector what lies there, of others zeros. -/
theorem of_cases {g : Gm} {W S : Nat} (D : Dim g W S) (n : Int) :
    ((n < 0 ∨ ((cnt W S : Nat) : Int) ≤ n) ∧ ofA g n = 0 ∧ ofB g n = 0 ∧ ofC g n = 0 ∧ ofK g n = false) ∨
    ∃ k : Nat, n = (k : Int) ∧ k < cnt W S ∧ ((¬ (pl W S k).w = 0 ∧ ofA g n = 0 ∧ ofB g n = 0 ∧ ofC g n = 0 ∧ ofK g n = false) ∨ (pl W S k = ⟨0, ofA g n, ofB g n, ofC g n⟩ ∧ ofK g n = true)) := by
  have hW := D.W3
  have hS := D.S1
  have hno : ¬ (0 ≤ n ∧ n < 3 * ((W * S : Nat) : Int)) → ofA g n = 0 ∧ ofB g n = 0 ∧ ofC g n = 0 ∧ ofK g n = false := fun h => by
    have hq : ¬ ofQ g n = 0 := fun hq => by
      obtain ⟨x1, x2⟩ := (okAll1 _).1 (ask_zero hq).2
      dsimp only at x1 x2
      rw [log, D.slot] at x2
      exact h ⟨x1, by omega⟩
    exact ⟨if_neg hq, if_neg hq, if_neg hq, decide_eq_false hq⟩
  by_cases h0 : n < 0 ∨ ((cnt W S : Nat) : Int) ≤ n
  · exact Or.inl ⟨h0, hno (by rw [cnt] at h0; omega)⟩
  · refine Or.inr ⟨n.toNat, by omega, by omega, ?_⟩
    by_cases h1 : n.toNat < 3 * (W * S)
    · refine Or.inr ?_
      have hq : ofQ g n = 0 := ask_ok D.r ((okAll1 _).2 ⟨by show 0 ≤ n; omega, by show n ≤ log g - 1; rw [log, D.slot]; omega⟩)
      obtain ⟨k, rfl⟩ : ∃ k : Nat, n = (k : Int) := ⟨n.toNat, by omega⟩
      rw [ofA, ofB, ofC, ofK, if_pos hq, if_pos hq, if_pos hq, D.slot, D.s, Int.toNat_natCast, pl, if_pos (by simpa using h1)]
      exact ⟨by simp only [Int.natCast_ediv, Int.natCast_emod], decide_eq_true hq⟩
    · refine Or.inl ⟨?_, hno (by omega)⟩
      rw [pl, if_neg h1]
      split <;> simp
end Go.Proofs.Ytcehdgdgjjecmaa.GeoMath

/- geo's awake; the document's Right, Room; the statements' sector, of (gen_geo_i.py). -/
namespace Go.Proofs.Ytcehdgdgjjecmaa
open Go.RowKit GeoMath
set_option linter.unusedVariables false
set_option maxRecDepth 100000

theorem zero_geo : ∀ u, (zeroValue 23).run Try.prog u = .ok (.agg [Value.int .i64 0, .int .i64 0, .int .i64 0].toArray) u := fun u => by kernel_rfl
theorem georr_any (g : Gm) (w : World) :
    Calls Try.prog 9 #[geoV g] w fun e w' => e = .returned (.bool (right g)) ∧ Below w.heap.size w w' := by
  cases hr : right g with
  | true =>
    have hg := (right_iff g).1 hr
    obtain ⟨d, p, s⟩ := g
    have h1 : (1 : Int) ≤ d := hg.d1
    have h2 : d ≤ 8 := hg.d8
    have h3 : (2 : Int) ≤ p := hg.p2
    have h4 : p ≤ 6 := hg.p6
    have h5 : (1 : Int) ≤ s := hg.s1
    have h6 : s ≤ 8 := hg.s8
    clear hg hr
    dsimp only [geoV]
    go_enter Try.func9, Try.ntmps9
    go_wp2_with ((with_reducible refine wpBoxK [Value.int .i64 d, .int .i64 p, .int .i64 s] 34 ?_ ?_); rfl; intro w1 r1 b1 s1; have c0 := r1.cell 0; have c1 := r1.cell 1; have c2 := r1.cell 2; have B1 := Lib.hid b1; clear r1 b1 s1)
    go_ret
    exact ⟨rfl, B1.out⟩
  | false =>
    have hn : ¬ Rt g := fun h => by rw [(right_iff g).2 h] at hr; cases hr
    obtain ⟨d, p, s⟩ := g
    have hor : ¬ 1 ≤ d ∨ (1 ≤ d ∧ ¬ d ≤ 8) ∨ (1 ≤ d ∧ d ≤ 8 ∧ ¬ 2 ≤ p) ∨ (1 ≤ d ∧ d ≤ 8 ∧ 2 ≤ p ∧ ¬ p ≤ 6) ∨ (1 ≤ d ∧ d ≤ 8 ∧ 2 ≤ p ∧ p ≤ 6 ∧ ¬ 1 ≤ s) ∨ (1 ≤ d ∧ d ≤ 8 ∧ 2 ≤ p ∧ p ≤ 6 ∧ 1 ≤ s ∧ ¬ s ≤ 8) := by
      by_cases x1 : 1 ≤ d <;> by_cases x2 : d ≤ 8 <;> by_cases x3 : 2 ≤ p <;> by_cases x4 : p ≤ 6 <;> by_cases x5 : 1 ≤ s <;> by_cases x6 : s ≤ 8 <;> simp only [x1, x2, x3, x4, x5, x6] <;> simp
      exact hn ⟨x1, x2, x3, x4, x5, x6⟩
    clear hn hr
    dsimp only [geoV]
    rcases hor with h1 | ⟨h1, h2⟩ | ⟨h1, h2, h3⟩ | ⟨h1, h2, h3, h4⟩ | ⟨h1, h2, h3, h4, h5⟩ | ⟨h1, h2, h3, h4, h5, h6⟩
    all_goals
      go_enter Try.func9, Try.ntmps9
      go_wp2_with ((with_reducible refine wpBoxK [Value.int .i64 d, .int .i64 p, .int .i64 s] 34 ?_ ?_); rfl; intro w1 r1 b1 s1; have c0 := r1.cell 0; have c1 := r1.cell 1; have c2 := r1.cell 2; have B1 := Lib.hid b1; clear r1 b1 s1)
      go_ret
      exact ⟨rfl, B1.out⟩
end Go.Proofs.Ytcehdgdgjjecmaa

/- The small geometry of the laws of log, tally and others. -/
namespace Go.Proofs.Ytcehdgdgjjecmaa
open Go.RowKit GeoMath
set_option linter.unusedVariables false
set_option maxRecDepth 100000

def G1 : Gm := ⟨1, 2, 1⟩
theorem G1_right : right G1 = true := by decide
theorem G1_all : all G1 = 27 := by decide
theorem G1_log : GeoMath.log G1 = 9 := by decide
def geo1 : List Value := [Value.int .i64 1, .int .i64 2, .int .i64 1]
theorem built_geo1 : Try.prog.built 23 [(0, .int .i64 1), (1, .int .i64 2), (2, .int .i64 1)] = some geo1.toArray := by kernel_rfl
theorem llaw_geo (w : World) : Calls Try.prog 7 #[] w fun e w' => e = .returned (.agg geo1.toArray) ∧ Below w.heap.size w w' := by
  show Calls _ _ _ _ fun e w' => e = .returned (.agg [Value.int .i64 1, .int .i64 2, .int .i64 1].toArray) ∧ Below w.heap.size w w'
  go_enter Try.func7, Try.ntmps7
  go_wp2_with (first
    | ((with_reducible refine wpAllocK (w := w) [Value.int .i64 0, .int .i64 0, .int .i64 0] 23 zero_geo ?_ ?_); rfl; intro u1 r1 b1 s1; have R1 := Lib.hid r1; have B1 := Lib.hid b1; clear r1 b1 s1)
    | ((with_reducible refine R1.out.wpStoreK 23 [Value.int .i64 1, .int .i64 2, .int .i64 1] fits_geo rfl rfl rfl ?_ ?_); rfl; intro u2 r2 o2 s2; have R2 := Lib.hid r2; have B2 : Hid (Below w.heap.size w u2) := Lib.hid (B1.out.trans (o2.below (Nat.le_refl _) B1.out.size)); clear r2 o2 s2))
  exact bodyPost_ret (R2.out.result rfl _ _ rfl Try.underlying23 rfl fits_geo.size) rfl ⟨rfl, B2.out⟩
end Go.Proofs.Ytcehdgdgjjecmaa

/- The laws' blank device; what a tally on it does. -/
namespace Go.Proofs.Ytcehdgdgjjecmaa
open Go.RowKit FlaMath GeoMath
set_option linter.unusedVariables false
set_option maxRecDepth 100000

theorem G1_tal : GeoMath.tal G1 = ((25 : Nat) : Int) := by decide
theorem D0_st : TSt (D0 27) 25 0 0 := by
  have hC : ∀ i, i < 27 * 64 → (D0 27).C[i]? = some 255 := fun i hi => by
    show (List.replicate (27 * 64) (255 : UInt8))[i]? = _
    rw [List.getElem?_replicate, if_pos hi]
  have hL : ∀ i, (D0 27).L.getD i false = false := fun i => by
    show (List.replicate 27 false).getD i false = false
    rw [List.getD_eq_getElem?_getD, List.getElem?_replicate]
    split <;> rfl
  refine ⟨hL, ?_, ?_, SecIs.zero fun i hi => hC _ (by omega), SecIs.zero fun i hi => hC _ (by omega)⟩
  · show (List.replicate (27 * 64) (255 : UInt8)).length = 64 * (List.replicate 27 false).length
    rw [List.length_replicate, List.length_replicate]
  · show 27 ≤ (List.replicate 27 false).length
    rw [List.length_replicate]
    exact Nat.le_refl 27
theorem D0_len : (D0 27).L.length = 27 := by show (List.replicate 27 false).length = 27; rw [List.length_replicate]
theorem tlaw_blank (w : World) : Calls Try.prog 8 #[] w fun e w' => ∃ s : Sh, e = .returned (.tuple #[.pointer (some ⟨s.b, 0, none⟩), .int .i64 25, .int .i64 26]) ∧ Dvx w' s (D0 27) ∧ (∀ k ∈ s.S, w.heap.size ≤ k) ∧ Below w.heap.size w w' := by
  have HG : Hid (∀ u, Calls Try.prog 7 #[] u fun e w' => e = .returned (geoV G1) ∧ Below u.heap.size u w') := Lib.hid llaw_geo
  have HA : Hid (∀ u, Calls Try.prog 10 #[geoV G1] u fun e w' => e = .returned (.int .i64 27) ∧ Below u.heap.size u w') := Lib.hid fun u => by
    have := all_any G1 u
    rwa [G1_all] at this
  have HT0 : Hid (∀ u, Calls Try.prog 22 #[geoV G1, .int .i64 0] u fun e w' => e = .returned (.tuple #[.int .i64 25, .int .i64 0]) ∧ Below u.heap.size u w') := Lib.hid fun u => by
    have := tally_any G1 0 u
    rwa [show talA G1 0 = 25 by decide, show talQ G1 0 = 0 by decide] at this
  have HT1 : Hid (∀ u, Calls Try.prog 22 #[geoV G1, .int .i64 1] u fun e w' => e = .returned (.tuple #[.int .i64 26, .int .i64 0]) ∧ Below u.heap.size u w') := Lib.hid fun u => by
    have := tally_any G1 1 u
    rwa [show talA G1 1 = 26 by decide, show talQ G1 1 = 0 by decide] at this
  have HN : Hid (∀ u : World, Calls Try.prog 26 #[.int .i64 27] u fun e w' => ∃ s : Sh, e = .returned (.tuple #[.pointer (some ⟨s.b, 0, none⟩), .int .i64 0]) ∧ Dev w' s (D0 27) ∧ (∀ k ∈ s.S, u.heap.size ≤ k) ∧ Below u.heap.size u w') := Lib.hid fun u => flnew_any 27 u (by omega) (by omega)
  generalize geoV G1 = GV at *
  generalize D0 27 = D at *
  go_enter Try.func8, Try.ntmps8
  go_wp2_with (first
    | (go_at_call 7; (with_reducible refine (HG.out w).mono ?_); rintro e u1 ⟨rfl, b1⟩; have B1 := Lib.hid b1; clear b1)
    | (go_at_call 10; (with_reducible refine (HA.out u1).mono ?_); rintro e u2 ⟨rfl, b2⟩; have B2 := Lib.hid (B1.out.next b2); clear b2)
    | (go_at_call 26; (with_reducible refine (HN.out u2).mono ?_); rintro e u3 ⟨s, rfl, hd, hs, b3⟩; have HD := Lib.hid hd; have HS : Hid (∀ k ∈ s.S, w.heap.size ≤ k) := Lib.hid fun k hk => Nat.le_trans B2.out.size (hs k hk); have B3 := Lib.hid (B2.out.next b3); clear hd hs b3)
    | (go_at_call 7; (with_reducible refine (HG.out u3).mono ?_); rintro e u4 ⟨rfl, b4⟩; have D4 := Lib.hid (HD.out.step b4); have B4 := Lib.hid (B3.out.next b4); clear b4)
    | (go_at_call 22; (with_reducible refine (HT0.out u4).mono ?_); rintro e u5 ⟨rfl, b5⟩; have D5 := Lib.hid (D4.out.step b5); have B5 := Lib.hid (B4.out.next b5); clear b5)
    | (go_at_call 7; (with_reducible refine (HG.out u5).mono ?_); rintro e u6 ⟨rfl, b6⟩; have D6 := Lib.hid (D5.out.step b6); have B6 := Lib.hid (B5.out.next b6); clear b6)
    | (go_at_call 22; (with_reducible refine (HT1.out u6).mono ?_); rintro e u7 ⟨rfl, b7⟩; have D7 := Lib.hid (D6.out.step b7); have B7 := Lib.hid (B6.out.next b7); clear b7))
  refine bodyPost_ret (results_tmp3 rfl _ _ _) rfl ?_
  exact ⟨s, rfl, D7.out.dvx, HS.out, B7.out⟩

/-- A device as the laws have it: counts of a, b; all its blocks lie at N or above. -/
structure TDv (N : Nat) (w : World) (s : Sh) (D : Dv) (a b : Nat) : Prop where
  dev : Dvx w s D
  st : TSt D 25 a b
  len : D.L.length = 27
  low : ∀ k ∈ s.S, N ≤ k
  up : N ≤ w.heap.size
/-- A tally on it. -/
structure TOn (N : Nat) (w : World) (t : Nat) (s : Sh) (D : Dv) (V : TV) (a b : Nat) : Prop where
  at' : TalAt w ⟨t, s, 25⟩ D V
  st : TSt D 25 a b
  len : D.L.length = 27
  low : ∀ k ∈ t :: s.S, N ≤ k
  up : N ≤ w.heap.size
section
variable {N t a b : Nat} {w w' : World} {s : Sh} {D : Dv} {V : TV}
theorem TDv.step (h : TDv N w s D a b) (hb : Below w.heap.size w w') : TDv N w' s D a b := ⟨h.dev.step hb, h.st, h.len, h.low, Nat.le_trans h.up hb.size⟩
theorem TOn.step (h : TOn N w t s D V a b) (hb : Below w.heap.size w w') : TOn N w' t s D V a b := ⟨h.at'.step hb, h.st, h.len, h.low, Nat.le_trans h.up hb.size⟩
theorem TOn.tdv (h : TOn N w t s D V a b) : TDv N w s D a b := ⟨h.at'.dev, h.st, h.len, fun k hk => h.low k (by simp [hk]), h.up⟩
theorem tlaw_open (h : TDv N w s D a b) (hd : D.dn = false) (ha : a ≤ 512) (hb : b ≤ 512) :
    Calls Try.prog 6 #[.pointer (some ⟨s.b, 0, none⟩), .agg geo1.toArray] w fun e w' => ∃ t, e = .returned (.tuple #[.pointer (some ⟨t, 0, none⟩), .int .i64 0]) ∧ TOn N w' t s D ⟨a, b, decide (a = b)⟩ a b ∧ Below N w w' := by
  refine (tal_open_good s D G1 25 a b w h.dev (fun u hu => (let ⟨o, ho⟩ := hu; sectors_any s { D with ops := o } u ho)) G1_right G1_tal (by rw [G1_all, h.len]; decide) hd h.st ha hb).mono ?_
  rintro e w' ⟨t, rfl, h1, h2, h3⟩
  refine ⟨t, rfl, ⟨h1, h.st, h.len, fun k hk => ?_, Nat.le_trans h.up h2.size⟩, h2.below h.low h.up⟩
  rcases List.mem_cons.1 hk with rfl | hk
  · exact Nat.le_trans h.up h3
  · exact h.low k hk
theorem lift_up {m x : Nat} (h : x ≤ m) (h2 : m ≤ x + 1) (h0 : 1 ≤ m) : lift m x = m := by
  unfold lift
  split
  · rfl
  · omega
theorem tlaw_bump (h : TOn N w t s D ⟨a, a, true⟩ a a) (hd : D.dn = false) (hl : D.lit = false) (ha : a < 512) :
    Calls Try.prog 13 #[.pointer (some ⟨t, 0, none⟩)] w fun e w' => e = .returned (.int .i64 0) ∧ (∃ D', TOn N w' t s D' ⟨a + 1, a + 1, true⟩ (a + 1) (a + 1) ∧ D'.dn = false ∧ D'.lit = false) ∧ Below N w w' := by
  refine (tal_bump_any h.at' a (Nat.max_self a) ha).mono ?_
  rintro e w' ⟨rfl, h1, h2⟩
  obtain ⟨a', b', _, _, k3, k4, k5, k6⟩ := mk_any h.st hd (by omega : 1 ≤ a + 1) (by omega) (by omega) (by omega) (by omega) (by omega)
  have hz : mkE D 25 (a + 1) = 0 := k5 hl
  obtain ⟨ea, eb, g1, g2⟩ := k4 hz
  rw [ea, eb] at k3
  have hV : bumpV D 25 (a + 1) ⟨a, a, true⟩ = ⟨a + 1, a + 1, true⟩ := by
    unfold bumpV
    rw [if_pos hz]
    show (⟨lift (a + 1) a, lift (a + 1) a, decide (lift (a + 1) a = lift (a + 1) a)⟩ : TV) = _
    rw [lift_up (by omega) (by omega) (by omega), decide_eq_true rfl]
  have h1' : TalAt w' ⟨t, s, 25⟩ (mkD D 25 (a + 1)) (bumpV D 25 (a + 1) ⟨a, a, true⟩) := h1
  rw [hV] at h1'
  exact ⟨by rw [show mkE D (⟨t, s, 25⟩ : TalD).T (a + 1) = 0 from hz], ⟨_, ⟨h1', k3, k6.trans h.len, h.low, Nat.le_trans h.up h2.size⟩, g1, g2 hl⟩, h2.below h.low h.up⟩
/-- A Bump, torn or not. -/
theorem tlaw_torn (h : TOn N w t s D ⟨a, a, true⟩ a a) (hd : D.dn = false) (ha : a < 512) :
    Calls Try.prog 13 #[.pointer (some ⟨t, 0, none⟩)] w fun e w' => (∃ z : Int, e = .returned (.int .i64 z)) ∧ (∃ D' a' b', TDv N w' s D' a' b' ∧ (a' = a ∨ a' = a + 1) ∧ (b' = a ∨ b' = a + 1)) ∧ Below N w w' := by
  refine (tal_bump_any h.at' a (Nat.max_self a) ha).mono ?_
  rintro e w' ⟨rfl, h1, h2⟩
  obtain ⟨a', b', k1, k2, k3, k4, k5, k6⟩ := mk_any h.st hd (by omega : 1 ≤ a + 1) (by omega) (by omega) (by omega) (by omega) (by omega)
  exact ⟨⟨_, rfl⟩, ⟨_, a', b', ⟨h1.dev, k3, k6.trans h.len, fun k hk => h.low k (by simp [hk]), Nat.le_trans h.up h2.size⟩, k1, k2⟩, h2.below h.low h.up⟩
/-- Level, torn or not. -/
theorem tlaw_lev (h : TOn N w t s D V a b) (hVa : V.a = a) (hVb : V.b = b) (hd : D.dn = false) (m : Nat) (hm : max a b = m) (h5 : m ≤ 512) (ha : m ≤ a + 1) (hb : m ≤ b + 1) :
    Calls Try.prog 18 #[.pointer (some ⟨t, 0, none⟩)] w fun e w' => (∃ z : Int, e = .returned (.int .i64 z)) ∧ (∃ D' a' b', TDv N w' s D' a' b' ∧ max a' b' = m ∧ m ≤ a' + 1 ∧ m ≤ b' + 1) ∧ Below N w w' := by
  by_cases h0 : m = 0
  · refine (tal_level_zero h.at' (by rw [hVa, hVb, hm, h0])).mono ?_
    rintro e w' ⟨rfl, h1⟩
    exact ⟨⟨_, rfl⟩, ⟨_, a, b, (h.step h1).tdv, hm, ha, hb⟩, h1.mono h.up⟩
  · refine (tal_level_any h.at' m (by rw [hVa, hVb, hm]) (by omega)).mono ?_
    rintro e w' ⟨rfl, h1, h2⟩
    obtain ⟨a', b', k1, k2, k3, k4, k5, k6⟩ := mk_any h.st hd (by omega : 1 ≤ m) h5 (by omega) ha (by omega) hb
    refine ⟨⟨_, rfl⟩, ⟨_, a', b', ⟨h1.dev, k3, k6.trans h.len, fun k hk => h.low k (by simp [hk]), Nat.le_trans h.up h2.size⟩, ?_, ?_, ?_⟩, h2.below h.low h.up⟩
    · omega
    · omega
    · omega
/-- Level, of a device that isn't to burn. -/
theorem tlaw_level (h : TOn N w t s D V a b) (hVa : V.a = a) (hVb : V.b = b) (hVe : V.ev = decide (a = b)) (hd : D.dn = false) (hl : D.lit = false) (m : Nat) (hm : max a b = m) (h5 : m ≤ 512) (ha : m ≤ a + 1) (hb : m ≤ b + 1) :
    Calls Try.prog 18 #[.pointer (some ⟨t, 0, none⟩)] w fun e w' => e = .returned (.int .i64 0) ∧ (∃ D', TOn N w' t s D' ⟨m, m, true⟩ m m) ∧ Below N w w' := by
  by_cases h0 : m = 0
  · refine (tal_level_zero h.at' (by rw [hVa, hVb, hm, h0])).mono ?_
    rintro e w' ⟨rfl, h1⟩
    have ea : a = m := by omega
    have eb : b = m := by omega
    refine ⟨rfl, ⟨D, ?_⟩, h1.mono h.up⟩
    have hV : V = ⟨m, m, true⟩ := by
      obtain ⟨va, vb, ve⟩ := V
      dsimp only at hVa hVb hVe
      rw [hVa, hVb, hVe, ea, eb, decide_eq_true rfl]
    have := h.step h1
    rw [hV, ea, eb] at this
    exact this
  · refine (tal_level_any h.at' m (by rw [hVa, hVb, hm]) (by omega)).mono ?_
    rintro e w' ⟨rfl, h1, h2⟩
    obtain ⟨a', b', k1, k2, k3, k4, k5, k6⟩ := mk_any h.st hd (by omega : 1 ≤ m) h5 (by omega) ha (by omega) hb
    have hz : mkE D 25 m = 0 := k5 hl
    obtain ⟨ea, eb, g1, g2⟩ := k4 hz
    rw [ea, eb] at k3
    have hV : levV D 25 m V = ⟨m, m, true⟩ := by
      unfold levV
      rw [if_pos hz, hVa, hVb, lift_up (by omega) ha (by omega), lift_up (by omega) hb (by omega)]
    have h1' : TalAt w' ⟨t, s, 25⟩ (mkD D 25 m) (levV D 25 m V) := h1
    rw [hV] at h1'
    exact ⟨by rw [show mkE D (⟨t, s, 25⟩ : TalD).T m = 0 from hz], ⟨_, ⟨h1', k3, k6.trans h.len, h.low, Nat.le_trans h.up h2.size⟩⟩, h2.below h.low h.up⟩
theorem tlaw_fuse (h : TOn N w t s D V a b) (n fb : Int) (fm : UInt8) :
    Calls Try.prog 16 #[.pointer (some ⟨s.b, 0, none⟩), .int .i64 n, .agg #[.int .i64 fb, .int .u8 (fm.toNat : Int)]] w fun e w' => e = .returned (.tuple #[]) ∧ (∃ D', TOn N w' t s D' V a b ∧ D'.dn = D.dn) ∧ Below N w w' := by
  obtain ⟨o, ho⟩ := h.at'.dev
  refine (fuse_any s _ n fb fm w ho).mono ?_
  rintro e w' ⟨rfl, h1, h2⟩
  have hS : ∀ k ∈ s.S, N ≤ k := fun k hk => h.low k (by simp [hk])
  exact ⟨rfl, ⟨D.fuse n fb fm, ⟨h.at'.go h2 ⟨o, h1⟩ rfl, h.st.fuse n fb fm, h.len, h.low, Nat.le_trans h.up h2.size⟩, rfl⟩, h2.below hS h.up⟩
theorem tlaw_on (h : TDv N w s D a b) :
    Calls Try.prog 17 #[.pointer (some ⟨s.b, 0, none⟩)] w fun e w' => e = .returned (.tuple #[]) ∧ TDv N w' s D.on a b ∧ Below N w w' := by
  obtain ⟨o, ho⟩ := h.dev
  refine (poweron_any s _ w ho).mono ?_
  rintro e w' ⟨rfl, h1, h2⟩
  exact ⟨rfl, ⟨⟨o, h1⟩, h.st.on, h.len, h.low, Nat.le_trans h.up h2.size⟩, h2.below h.low h.up⟩
theorem tlaw_count (h : TOn N w t s D V a b) (hVa : V.a = a) (hVb : V.b = b) (m : Nat) (hm : max a b = m) :
    Calls Try.prog 12 #[.pointer (some ⟨t, 0, none⟩)] w fun e w' => e = .returned (.int .i64 (m : Int)) ∧ TOn N w' t s D V a b ∧ Below N w w' := by
  refine (tal_count_any h.at' m (by rw [hVa, hVb, hm])).mono ?_
  rintro e w' ⟨rfl, h1⟩
  exact ⟨rfl, h.step h1, h1.mono h.up⟩
theorem tlaw_dump (h : TOn N w t s D V a b) :
    Calls Try.prog 20 #[.pointer (some ⟨s.b, 0, none⟩), .int .i64 25] w (fun e w' => e = .returned (.string (str (clr a))) ∧ w = w') ∧ Calls Try.prog 20 #[.pointer (some ⟨s.b, 0, none⟩), .int .i64 26] w (fun e w' => e = .returned (.string (str (clr b))) ∧ w = w') := by
  obtain ⟨o, ho⟩ := h.at'.dev
  have e1 : dump { D with ops := o } 25 = clr a := by
    unfold dump
    rw [if_pos (by show (0 : Int) ≤ 25 ∧ (25 : Int) < D.L.length; rw [h.len]; decide)]
    exact h.st.a.sec
  have e2 : dump { D with ops := o } 26 = clr b := by
    unfold dump
    rw [if_pos (by show (0 : Int) ≤ 26 ∧ (26 : Int) < D.L.length; rw [h.len]; decide)]
    exact h.st.b.sec
  have h1 := dump_any s _ 25 w ho
  have h2 := dump_any s _ 26 w ho
  rw [e1] at h1
  rw [e2] at h2
  exact ⟨h1, h2⟩
end
end Go.Proofs.Ytcehdgdgjjecmaa

/- The document's example, walked. -/
namespace Go.Proofs.Ytcehdgdgjjecmaa
open Go.RowKit FlaMath GeoMath
set_option linter.unusedVariables false
set_option maxRecDepth 100000

theorem Fits.geo1_len : geo1.length = 3 := rfl
set_option maxHeartbeats 1000000 in
theorem tal_awake_any (w : World) : Calls Try.prog 5 #[] w fun e w' => e = .returned (.bool true) ∧ Below w.heap.size w w' := by
  have HB := Lib.hid (tlaw_blank w)
  have HG : Hid (∀ u, Calls Try.prog 7 #[] u fun e w' => e = .returned (.agg geo1.toArray) ∧ Below u.heap.size u w') := Lib.hid llaw_geo
  obtain ⟨N, hN⟩ : ∃ N, w.heap.size = N := ⟨_, rfl⟩
  have HN := Lib.hid hN
  rw [hN] at HB
  have HO : Hid (∀ (u : World) (s : Sh) (D : Dv) (a : Nat), a ≤ 1 → TDv N u s D a a → D.dn = false → Calls Try.prog 6 #[.pointer (some ⟨s.b, 0, none⟩), .agg geo1.toArray] u fun e w' => ∃ t, e = .returned (.tuple #[.pointer (some ⟨t, 0, none⟩), .int .i64 0]) ∧ TOn N w' t s D ⟨a, a, true⟩ a a ∧ Below N u w') := Lib.hid fun u s D a ha h hd => by
    have := tlaw_open h hd (by omega) (by omega)
    rwa [decide_eq_true (rfl : a = a)] at this
  have HBU : Hid (∀ (u : World) (t : Nat) (s : Sh), TOn N u t s (D0 27) ⟨0, 0, true⟩ 0 0 → Calls Try.prog 13 #[.pointer (some ⟨t, 0, none⟩)] u fun e w' => e = .returned (.int .i64 0) ∧ (∃ D', TOn N w' t s D' ⟨1, 1, true⟩ 1 1 ∧ D'.dn = false ∧ D'.lit = false) ∧ Below N u w') := Lib.hid fun u t s h => tlaw_bump h rfl rfl (by omega)
  have HC : Hid (∀ (u : World) (t : Nat) (s : Sh) (D : Dv), TOn N u t s D ⟨1, 1, true⟩ 1 1 → Calls Try.prog 12 #[.pointer (some ⟨t, 0, none⟩)] u fun e w' => e = .returned (.int .i64 1) ∧ TOn N w' t s D ⟨1, 1, true⟩ 1 1 ∧ Below N u w') := Lib.hid fun u t s D h => tlaw_count h rfl rfl 1 rfl
  have HE : Hid (∀ (u : World) (t : Nat) (s : Sh) (D : Dv), TOn N u t s D ⟨1, 1, true⟩ 1 1 → Calls Try.prog 15 #[.pointer (some ⟨t, 0, none⟩)] u fun e w' => e = .returned (.bool true) ∧ u = w') := Lib.hid fun u t s D h => tal_even_any h.at'
  have HD0 : Hid (∀ (u : World) (s : Sh), Dvx u s (D0 27) → (∀ k ∈ s.S, N ≤ k) → N ≤ u.heap.size → TDv N u s (D0 27) 0 0) := Lib.hid fun u s h1 h2 h3 => ⟨h1, D0_st, D0_len, h2, h3⟩
  have HDN : Hid ((D0 27).dn = false) := Lib.hid rfl
  generalize Value.agg geo1.toArray = GV at *
  generalize D0 27 = DZ at *
  clear hN
  go_enter Try.func5, Try.ntmps5
  go_wp2_with (first
    | (go_at_call 8; (with_reducible refine HB.out.mono ?_); rintro e u1 ⟨s, rfl, d_, s_, b_⟩; have B1 : Hid (Below N w u1) := Lib.hid b_; have T1 := Lib.hid (HD0.out u1 s d_ s_ (by have := HN.out; have := b_.size; omega)); clear d_ s_ b_)
    | (go_at_call 7; (with_reducible refine (HG.out u1).mono ?_); rintro e u2 ⟨rfl, b_⟩; have T2 := Lib.hid (T1.out.step b_); have B2 : Hid (Below N w u2) := Lib.hid (B1.out.trans (b_.mono T1.out.up)); clear b_)
    | (go_at_call 6; (with_reducible refine (HO.out u2 s _ 0 (by omega) T2.out HDN.out).mono ?_); rintro e u3 ⟨t3, rfl, t_, b_⟩; have T3 := Lib.hid t_; have B3 : Hid (Below N w u3) := Lib.hid (B2.out.trans b_); clear t_ b_)
    | (go_at_call 13; (with_reducible refine (HBU.out u3 t3 s T3.out).mono ?_); rintro e u4 ⟨rfl, ⟨D4, t_, d_, l_⟩, b_⟩; have T4 := Lib.hid t_; have DN4 := Lib.hid d_; have B4 : Hid (Below N w u4) := Lib.hid (B3.out.trans b_); clear t_ b_ d_ l_)
    | (go_at_call 12; (with_reducible refine (HC.out u4 t3 s D4 T4.out).mono ?_); rintro e u5 ⟨rfl, t_, b_⟩; have T5 := Lib.hid t_; have B5 : Hid (Below N w u5) := Lib.hid (B4.out.trans b_); clear t_ b_)
    | (go_at_call 7; (with_reducible refine (HG.out u5).mono ?_); rintro e u6 ⟨rfl, b_⟩; have T6 := Lib.hid (T5.out.tdv.step b_); have B6 : Hid (Below N w u6) := Lib.hid (B5.out.trans (b_.mono T5.out.up)); clear b_)
    | (go_at_call 6; (with_reducible refine (HO.out u6 s _ 1 (by omega) T6.out DN4.out).mono ?_); rintro e u7 ⟨t7, rfl, t_, b_⟩; have T7 := Lib.hid t_; have B7 : Hid (Below N w u7) := Lib.hid (B6.out.trans b_); clear t_ b_)
    | (go_at_call 12; (with_reducible refine (HC.out u7 t7 s D4 T7.out).mono ?_); rintro e u8 ⟨rfl, t_, b_⟩; have T8 := Lib.hid t_; have B8 : Hid (Below N w u8) := Lib.hid (B7.out.trans b_); clear t_ b_)
    | (go_at_call 15; (with_reducible refine (HE.out u8 t7 s D4 T8.out).mono ?_); rintro e _ ⟨rfl, rfl⟩))
  go_ret
  exact ⟨rfl, by rw [HN.out]; exact B8.out⟩
end Go.Proofs.Ytcehdgdgjjecmaa

/- TallyLevels, walked. -/
namespace Go.Proofs.Ytcehdgdgjjecmaa
open Go.RowKit FlaMath GeoMath
set_option linter.unusedVariables false
set_option maxRecDepth 100000

set_option maxHeartbeats 4000000 in
theorem tallyLevels_walk (n c : Nat) (fb : Int) (fm : UInt8) (w : World) (hn : n < 256) (hc : c < 256) :
    Calls Try.prog 4 #[.int .u8 (n : Int), .int .u8 (c : Int), .agg #[.int .i64 fb, .int .u8 (fm.toNat : Int)]] w fun e w' => e = .returned (.bool true) ∧ Below w.heap.size w w' := by
  have HA : Hid (∀ u, Calls Try.prog 5 #[] u fun e w' => e = .returned (.bool true) ∧ Below u.heap.size u w') := Lib.hid tal_awake_any
  have HG : Hid (∀ u, Calls Try.prog 7 #[] u fun e w' => e = .returned (.agg geo1.toArray) ∧ Below u.heap.size u w') := Lib.hid llaw_geo
  have HB : Hid (∀ u, Calls Try.prog 8 #[] u fun e w' => ∃ s : Sh, e = .returned (.tuple #[.pointer (some ⟨s.b, 0, none⟩), .int .i64 25, .int .i64 26]) ∧ TDv u.heap.size w' s (D0 27) 0 0 ∧ Below u.heap.size u w') := Lib.hid fun u => (tlaw_blank u).mono fun e w' ⟨s, h1, h2, h3, h4⟩ => ⟨s, h1, ⟨h2, D0_st, D0_len, h3, h4.size⟩, h4⟩
  have HO : Hid (∀ (N : Nat) (u : World) (s : Sh) (D : Dv) (a b : Nat), (a ≤ 512 ∧ b ≤ 512) → TDv N u s D a b → D.dn = false → Calls Try.prog 6 #[.pointer (some ⟨s.b, 0, none⟩), .agg geo1.toArray] u fun e w' => ∃ t, e = .returned (.tuple #[.pointer (some ⟨t, 0, none⟩), .int .i64 0]) ∧ TOn N w' t s D ⟨a, b, decide (a = b)⟩ a b ∧ Below N u w') := Lib.hid fun N u s D a b ha h hd => tlaw_open h hd ha.1 ha.2
  have HBU : Hid (∀ (N : Nat) (u : World) (t : Nat) (s : Sh) (D : Dv) (a : Nat), a < 512 → TOn N u t s D ⟨a, a, true⟩ a a → D.dn = false → D.lit = false → Calls Try.prog 13 #[.pointer (some ⟨t, 0, none⟩)] u fun e w' => e = .returned (.int .i64 0) ∧ (∃ D', TOn N w' t s D' ⟨a + 1, a + 1, true⟩ (a + 1) (a + 1) ∧ D'.dn = false ∧ D'.lit = false) ∧ Below N u w') := Lib.hid fun N u t s D a ha h hd hl => tlaw_bump h hd hl ha
  have HTO : Hid (∀ (N : Nat) (u : World) (t : Nat) (s : Sh) (D : Dv) (a : Nat), a < 512 → TOn N u t s D ⟨a, a, true⟩ a a → D.dn = false → Calls Try.prog 13 #[.pointer (some ⟨t, 0, none⟩)] u fun e w' => (∃ z : Int, e = .returned (.int .i64 z)) ∧ (∃ D' a' b', TDv N w' s D' a' b' ∧ (a' = a ∨ a' = a + 1) ∧ (b' = a ∨ b' = a + 1)) ∧ Below N u w') := Lib.hid fun N u t s D a ha h hd => tlaw_torn h hd ha
  have HLV : Hid (∀ (N : Nat) (u : World) (t : Nat) (s : Sh) (D : Dv) (a b m : Nat), TOn N u t s D ⟨a, b, decide (a = b)⟩ a b → D.dn = false → max a b = m → (m ≤ 512 ∧ m ≤ a + 1 ∧ m ≤ b + 1) → Calls Try.prog 18 #[.pointer (some ⟨t, 0, none⟩)] u fun e w' => (∃ z : Int, e = .returned (.int .i64 z)) ∧ (∃ D' a' b', TDv N w' s D' a' b' ∧ max a' b' = m ∧ m ≤ a' + 1 ∧ m ≤ b' + 1) ∧ Below N u w') := Lib.hid fun N u t s D a b m h hd hm h5 => tlaw_lev h rfl rfl hd m hm h5.1 h5.2.1 h5.2.2
  have HLG : Hid (∀ (N : Nat) (u : World) (t : Nat) (s : Sh) (D : Dv) (a b m : Nat), TOn N u t s D ⟨a, b, decide (a = b)⟩ a b → D.dn = false → D.lit = false → max a b = m → (m ≤ 512 ∧ m ≤ a + 1 ∧ m ≤ b + 1) → Calls Try.prog 18 #[.pointer (some ⟨t, 0, none⟩)] u fun e w' => e = .returned (.int .i64 0) ∧ (∃ D', TOn N w' t s D' ⟨m, m, true⟩ m m) ∧ Below N u w') := Lib.hid fun N u t s D a b m h hd hl hm h5 => tlaw_level h rfl rfl rfl hd hl m hm h5.1 h5.2.1 h5.2.2
  have HCT : Hid (∀ (N : Nat) (u : World) (t : Nat) (s : Sh) (D : Dv) (a b m : Nat) (v : Bool), TOn N u t s D ⟨a, b, v⟩ a b → max a b = m → Calls Try.prog 12 #[.pointer (some ⟨t, 0, none⟩)] u fun e w' => e = .returned (.int .i64 (m : Int)) ∧ TOn N w' t s D ⟨a, b, v⟩ a b ∧ Below N u w') := Lib.hid fun N u t s D a b m v h hm => tlaw_count h rfl rfl m hm
  have HEV : Hid (∀ (N : Nat) (u : World) (t : Nat) (s : Sh) (D : Dv) (m : Nat), TOn N u t s D ⟨m, m, true⟩ m m → Calls Try.prog 15 #[.pointer (some ⟨t, 0, none⟩)] u fun e w' => e = .returned (.bool true) ∧ u = w') := Lib.hid fun N u t s D m h => tal_even_any h.at'
  have HDU : Hid (∀ (N : Nat) (u : World) (t : Nat) (s : Sh) (D : Dv) (m : Nat), TOn N u t s D ⟨m, m, true⟩ m m → Calls Try.prog 20 #[.pointer (some ⟨s.b, 0, none⟩), .int .i64 25] u (fun e w' => e = .returned (.string (str (clr m))) ∧ u = w') ∧ Calls Try.prog 20 #[.pointer (some ⟨s.b, 0, none⟩), .int .i64 26] u (fun e w' => e = .returned (.string (str (clr m))) ∧ u = w')) := Lib.hid fun N u t s D m h => tlaw_dump h
  have HRC : Hid (∀ (u : World) (m : Nat), m ≤ 512 → Calls Try.prog 19 #[.string (str (clr m))] u fun e w' => e = .returned (.int .i64 (m : Int)) ∧ u = w') := Lib.hid fun u m h => tal_ref_any m h u
  obtain ⟨fmI, hfm⟩ : ∃ q : Int, (fm.toNat : Int) = q := ⟨_, rfl⟩
  have HFU : Hid (∀ (N : Nat) (u : World) (t : Nat) (s : Sh) (D : Dv) (V : TV) (a b : Nat) (x : Int), TOn N u t s D V a b → Calls Try.prog 16 #[.pointer (some ⟨s.b, 0, none⟩), .int .i64 x, .agg #[.int .i64 fb, .int .u8 fmI]] u fun e w' => e = .returned (.tuple #[]) ∧ (∃ D', TOn N w' t s D' V a b ∧ D'.dn = D.dn) ∧ Below N u w') := Lib.hid fun N u t s D V a b x h => by rw [← hfm]; exact tlaw_fuse h x fb fm
  have HON : Hid (∀ (N : Nat) (u : World) (s : Sh) (D : Dv) (a b : Nat), TDv N u s D a b → Calls Try.prog 17 #[.pointer (some ⟨s.b, 0, none⟩)] u fun e w' => e = .returned (.tuple #[]) ∧ TDv N w' s D.on a b ∧ Below N u w') := Lib.hid fun N u s D a b h => tlaw_on h
  rw [hfm]
  have HN := Lib.hid hn
  have hnI : (n : Int) < 256 := by omega
  have hcI : (c : Int) < 256 := by omega
  obtain ⟨c1, hc1⟩ : ∃ k, c % 2 = k := ⟨_, rfl⟩
  obtain ⟨c2, hc2⟩ : ∃ k, c / 2 = k := ⟨_, rfl⟩
  obtain ⟨c3, hc3⟩ : ∃ k, c2 % 2 = k := ⟨_, rfl⟩
  have r1 : (c : Int) % 2 = (c1 : Int) := by omega
  have r1t : (c : Int).tmod 2 = (c1 : Int) := by rw [Int.tmod_eq_emod_of_nonneg (by omega)]; exact r1
  have r2 : (c : Int) / 2 = (c2 : Int) := by omega
  have r2t : (c : Int).tdiv 2 = (c2 : Int) := by rw [Int.tdiv_eq_ediv_of_nonneg (by omega)]; exact r2
  have r3 : (c2 : Int) % 2 = (c3 : Int) := by omega
  have r3t : (c2 : Int).tmod 2 = (c3 : Int) := by rw [Int.tmod_eq_emod_of_nonneg (by omega)]; exact r3
  have r4 : (c2 : Int) < 128 := by omega
  have r5 : (c1 : Int) < 2 := by omega
  have r6 : (c3 : Int) < 2 := by omega
  have HDN : Hid ((D0 27).dn = false ∧ (D0 27).lit = false) := Lib.hid ⟨rfl, rfl⟩
  clear hfm hc1 hc2 hc3 hn hc
  generalize D0 27 = DZ at *
  go_enter Try.func4, Try.ntmps4
  go_wp2_with (first
    | ((with_reducible refine wpBoxK (w := w) [Value.int .i64 fb, .int .u8 fmI] 39 ?_ ?_); rfl; intro u1 r_ b_ s_; have TR1 := Lib.hid r_; have B1 := Lib.hid b_; clear r_ b_ s_)
    | (go_at_call 5; (with_reducible refine (HA.out u1).mono ?_); rintro e u2 ⟨rfl, b_⟩; have TR2 := Lib.hid (TR1.out.step b_); have B2 := Lib.hid (B1.out.next b_); clear b_ TR1 B1)
    | (go_at_call 7; (with_reducible refine (HG.out u2).mono ?_); rintro e u3 ⟨rfl, b_⟩; have TR3 := Lib.hid (TR2.out.step b_); have B3 := Lib.hid (B2.out.next b_); clear b_ TR2 B2)
    | ((with_reducible refine wpAllocK (w := u3) [Value.int .i64 0, .int .i64 0, .int .i64 0] 23 zero_geo ?_ ?_); rfl; intro u4 r_ b_ s_; have GR4 := Lib.hid r_; have TR4 := Lib.hid (TR3.out.step b_); have HNE : Hid (w.heap.size ≠ u3.heap.size) := Lib.hid (by have := TR3.out.lt; omega); have B4 := Lib.hid (B3.out.next b_); have HU3 : Hid (w.heap.size ≤ u3.heap.size) := Lib.hid B3.out.size; clear r_ b_ s_ TR3 B3)
    | ((with_reducible refine GR4.out.wpStoreK 23 geo1 fits_geo rfl rfl rfl ?_ ?_); rfl; intro u5 r_ o_ s_; have GR5 := Lib.hid r_; have TR5 := Lib.hid (TR4.out.only o_ HNE.out); have B5 : Hid (Below w.heap.size w u5) := Lib.hid (B4.out.trans (o_.below HU3.out B4.out.size)); clear r_ o_ s_ TR4 B4 GR4)
    | (go_at_call 8; (with_reducible refine (HB.out u5).mono ?_); rintro e u6 ⟨s, rfl, t_, b_⟩; obtain ⟨N, hN⟩ : ∃ N, u5.heap.size = N := ⟨_, rfl⟩; have NN := Lib.hid hN; rw [hN] at t_ b_; have T6 := Lib.hid t_; have C6 : Hid (Below N u5 u6) := Lib.hid b_; have HGR : Hid (∀ u, Below N u5 u → Row u u3.heap.size 23 geo1) := Lib.hid (fun u h => GR5.out.below h (by rw [← hN]; exact GR5.out.lt)); have HTR : Hid (∀ u, Below N u5 u → Row u w.heap.size 39 [Value.int .i64 fb, .int .u8 fmI]) := Lib.hid (fun u h => TR5.out.below h (by rw [← hN]; exact TR5.out.lt)); have GR6 := Lib.hid (HGR.out u6 C6.out); clear t_ b_ hN)
    | ((with_reducible refine GR6.out.wpLoadK 23 fits_geo rfl ?_ ?_); rfl)
    | (go_at_call 6; (with_reducible refine (HO.out N u6 s _ 0 0 ⟨by omega, by omega⟩ T6.out HDN.out.1).mono ?_); rintro e u7 ⟨t7, rfl, t_, b_⟩; have T7 := Lib.hid t_; have C7 : Hid (Below N u5 u7) := Lib.hid (C6.out.trans b_); clear t_ b_ T6 C6))
  go_loopw [13] (fun i wr => ∃ k : Nat, k ≤ n ∧ i = .int .i64 k ∧ (∃ D, TOn N wr t7 s D ⟨k, k, true⟩ k k ∧ D.dn = false ∧ D.lit = false) ∧ Below N u5 wr) (fun i _ => n - (intOf i).toNat)
  case atStart => exact ⟨0, Nat.zero_le _, rfl, ⟨_, T7.out, HDN.out.1, HDN.out.2⟩, C7.out⟩
  case round =>
    clear T7 C7
    obtain ⟨k, hk, rfl, ⟨D, t_, d_, l_⟩, b_⟩ := hrel
    have T := Lib.hid t_
    have DN := Lib.hid d_
    have LT := Lib.hid l_
    have CW := Lib.hid b_
    clear t_ d_ l_ b_
    by_cases hlt : k < n
    · have e1 : (k : Int) < (n : Int) := by omega
      have HBK := Lib.hid (HBU.out N wr t7 s D k (by have := HN.out; omega) T.out DN.out LT.out)
      go_wp2_with (go_at_call 13; (with_reducible refine HBK.out.mono ?_); rintro e v1 ⟨rfl, ⟨D1, t_, d_, l_⟩, b_⟩; have T1 := Lib.hid t_; have D1N := Lib.hid d_; have D1L := Lib.hid l_; have C1 : Hid (Below N u5 v1) := Lib.hid (CW.out.trans b_); clear t_ d_ l_ b_)
      go_roundw
      case rel => exact ⟨k + 1, by omega, by go_num, ⟨D1, T1.out, D1N.out, D1L.out⟩, C1.out⟩
      case measure => simp [intOf]; omega
    · have e1 : ¬ (k : Int) < (n : Int) := by omega
      have HK5 : Hid (k < 512) := Lib.hid (by have := HN.out; omega)
      have TRW := Lib.hid (HTR.out wr CW.out)
      clear hk hlt HBU
      go_wp2_with (first
        | ((with_reducible refine TRW.out.wpLoadK 39 fits_torn rfl ?_ ?_); rfl)
        | (go_at_call 16; (with_reducible refine (HFU.out N wr t7 s D _ _ _ _ T.out).mono ?_); rintro e v1 ⟨rfl, ⟨D1, t_, d_⟩, b_⟩; have T1 := Lib.hid t_; have D1N : Hid (D1.dn = false) := Lib.hid (d_.trans DN.out); have C1 : Hid (Below N u5 v1) := Lib.hid (CW.out.trans b_); clear t_ d_ b_ T TRW)
        | (go_at_call 13; (with_reducible refine (HTO.out N v1 t7 s D1 k HK5.out T1.out D1N.out).mono ?_); rintro e v2 ⟨⟨z, rfl⟩, ⟨D2, a2, b2, t_, ha_, hb_⟩, b_⟩; obtain ⟨m, hm⟩ : ∃ m, max a2 b2 = m := ⟨_, rfl⟩; have HM := Lib.hid hm; have M5 : Hid (m ≤ 512 ∧ m ≤ a2 + 1 ∧ m ≤ b2 + 1) := Lib.hid (by have := HK5.out; omega); have AB : Hid (a2 ≤ 512 ∧ b2 ≤ 512) := Lib.hid (by have := HK5.out; omega); have T2 := Lib.hid t_; have C2 : Hid (Below N u5 v2) := Lib.hid (C1.out.trans b_); clear t_ b_ ha_ hb_ hm T1 C1)
        | (go_at_call 17; (with_reducible refine (HON.out N v2 s D2 a2 b2 T2.out).mono ?_); rintro e v3 ⟨rfl, t_, b_⟩; have T3 := Lib.hid t_; have C3 : Hid (Below N u5 v3) := Lib.hid (C2.out.trans b_); have GR3 := Lib.hid (HGR.out v3 C3.out); clear t_ b_ T2 C2)
        | ((with_reducible refine GR3.out.wpLoadK 23 fits_geo rfl ?_ ?_); rfl)
        | (go_at_call 6; (with_reducible refine (HO.out N v3 s _ a2 b2 AB.out T3.out rfl).mono ?_); rintro e v4 ⟨t4, rfl, t_, b_⟩; have T4 := Lib.hid t_; have C4 : Hid (Below N u5 v4) := Lib.hid (C3.out.trans b_); clear t_ b_ T3 C3 GR3)
        | (go_at_call 12; (with_reducible refine (HCT.out N v4 t4 s _ a2 b2 m _ T4.out HM.out).mono ?_); rintro e v5 ⟨rfl, t_, b_⟩; have T5 := Lib.hid t_; have C5 : Hid (Below N u5 v5) := Lib.hid (C4.out.trans b_); have TR5B := Lib.hid (HTR.out v5 C5.out); clear t_ b_ T4 C4)
        | ((with_reducible refine TR5B.out.wpLoadK 39 fits_torn rfl ?_ ?_); rfl)
        | (go_at_call 16; (with_reducible refine (HFU.out N v5 t4 s _ _ _ _ _ T5.out).mono ?_); rintro e v6 ⟨rfl, ⟨D6, t_, d_⟩, b_⟩; have T6 := Lib.hid t_; have D6N : Hid (D6.dn = false) := Lib.hid d_; have C6 : Hid (Below N u5 v6) := Lib.hid (C5.out.trans b_); clear t_ d_ b_ T5 C5 TR5B)
        | (go_at_call 18; (with_reducible refine (HLV.out N v6 t4 s D6 a2 b2 m T6.out D6N.out HM.out M5.out).mono ?_); rintro e v7 ⟨⟨z7, rfl⟩, ⟨D7, a7, b7, t_, hm_, ha_, hb_⟩, b_⟩; have HM7 := Lib.hid hm_; have M7 : Hid (m ≤ 512 ∧ m ≤ a7 + 1 ∧ m ≤ b7 + 1) := Lib.hid ⟨M5.out.1, ha_, hb_⟩; have AB7 : Hid (a7 ≤ 512 ∧ b7 ≤ 512) := Lib.hid (by have := M5.out.1; omega); have T7 := Lib.hid t_; have C7 : Hid (Below N u5 v7) := Lib.hid (C6.out.trans b_); clear t_ b_ ha_ hb_ hm_ T6 C6)
        | (go_at_call 17; (with_reducible refine (HON.out N v7 s D7 a7 b7 T7.out).mono ?_); rintro e v8 ⟨rfl, t_, b_⟩; have T8 := Lib.hid t_; have C8 : Hid (Below N u5 v8) := Lib.hid (C7.out.trans b_); have GR8 := Lib.hid (HGR.out v8 C8.out); clear t_ b_ T7 C7)
        | ((with_reducible refine GR8.out.wpLoadK 23 fits_geo rfl ?_ ?_); rfl)
        | (go_at_call 6; (with_reducible refine (HO.out N v8 s _ a7 b7 AB7.out T8.out rfl).mono ?_); rintro e v9 ⟨t9, rfl, t_, b_⟩; have T9 := Lib.hid t_; have C9 : Hid (Below N u5 v9) := Lib.hid (C8.out.trans b_); clear t_ b_ T8 C8 GR8)
        | (go_at_call 12; (with_reducible refine (HCT.out N v9 t9 s _ a7 b7 m _ T9.out HM7.out).mono ?_); rintro e v10 ⟨rfl, t_, b_⟩; have T10 := Lib.hid t_; have C10 : Hid (Below N u5 v10) := Lib.hid (C9.out.trans b_); clear t_ b_ T9 C9)
        | (go_at_call 18; (with_reducible refine (HLG.out N v10 t9 s _ a7 b7 m T10.out rfl rfl HM7.out M7.out).mono ?_); rintro e v11 ⟨rfl, ⟨D11, t_⟩, b_⟩; have T11 := Lib.hid t_; have C11 : Hid (Below N u5 v11) := Lib.hid (C10.out.trans b_); clear t_ b_ T10 C10)
        | (go_at_call 15; (with_reducible refine (HEV.out N v11 t9 s D11 m T11.out).mono ?_); rintro e _ ⟨rfl, rfl⟩)
        | (go_at_call 12; (with_reducible refine (HCT.out N v11 t9 s D11 m m m _ T11.out (Nat.max_self m)).mono ?_); rintro e v12 ⟨rfl, t_, b_⟩; have T12 := Lib.hid t_; have C12 : Hid (Below N u5 v12) := Lib.hid (C11.out.trans b_); clear t_ b_)
        | (go_at_call 20; (with_reducible refine (HDU.out N v12 t9 s D11 m T12.out).1.mono ?_); rintro e _ ⟨rfl, rfl⟩)
        | (go_at_call 20; (with_reducible refine (HDU.out N v12 t9 s D11 m T12.out).2.mono ?_); rintro e _ ⟨rfl, rfl⟩)
        | (go_at_call 19; (with_reducible refine (HRC.out v12 m M5.out.1).mono ?_); rintro e _ ⟨rfl, rfl⟩))
      go_ret
      exact ⟨rfl, B5.out.trans (C12.out.mono (by have h1 := NN.out; have h2 := B5.out.size; omega))⟩
end Go.Proofs.Ytcehdgdgjjecmaa

/- Geometries and arrays that came in. -/
namespace Go.Proofs.Ytcehdgdgjjecmaa
open Go.RowKit
def TG : Open.Ty := .pair (.int .i64) (.pair (.int .i64) (.pair (.int .i64) .unit))
theorem geo_wf {n : Int} (h : (Lit.int .i64 n).wf = true) : -9223372036854775808 ≤ n ∧ n < 9223372036854775808 := by
  have h2 := h
  simp [Lit.wf, IntKind.min, IntKind.max, IntKind.bits, IntKind.signed] at h2
  omega
theorem reads_geo {w : World} {cs : List Value} {x : TG.den} (h : Open.Reads w TG cs x) : ∃ d p s : Int, cs = [.int .i64 d, .int .i64 p, .int .i64 s] := by
  have hl : cs.length = 3 := h.length
  match cs, hl with
  | [a, b, c], _ =>
    obtain ⟨⟨h1, g1⟩, ⟨h2, g2⟩, ⟨h3, g3⟩, _⟩ := h
    have e1 : a = .int .i64 x.1 := by simpa [Open.Ty.size] using h1
    have e2 : b = .int .i64 x.2.1 := by simpa [Open.Ty.size] using h2
    have e3 : c = .int .i64 x.2.2.1 := by simpa [Open.Ty.size] using h3
    exact ⟨_, _, _, by rw [e1, e2, e3]⟩
theorem reads_three {w : World} {cs : List Value} {x : List Int} (h : Open.Reads w (.arr 3 (.int .i64)) cs x) : ∃ a b c : Int, cs = [.int .i64 a, .int .i64 b, .int .i64 c] := by
  obtain ⟨h1, h2, h3⟩ := h
  have hl : cs.length = 3 := by simpa [Open.Ty.size] using h2
  match cs, hl with
  | [a, b, c], _ =>
    have e1 := (h3 0 (by omega)).1
    have e2 := (h3 1 (by omega)).1
    have e3 := (h3 2 (by omega)).1
    simp [Open.Ty.size] at e1 e2 e3
    exact ⟨_, _, _, by rw [e1, e2, e3]⟩
theorem geo_byte {n : Int} (h : (Lit.int .u8 n).wf = true) : ∃ b : Nat, b < 256 ∧ n = (b : Int) := by
  have h2 := h
  simp [Lit.wf, IntKind.min, IntKind.max, IntKind.bits, IntKind.signed] at h2
  exact ⟨n.toNat, by omega, by omega⟩
end Go.Proofs.Ytcehdgdgjjecmaa

/- TallyNone, walked (gen_tal_k.py). -/
namespace Go.Proofs.Ytcehdgdgjjecmaa
open Go.RowKit FlaMath GeoMath
set_option linter.unusedVariables false
set_option maxRecDepth 100000

theorem D0_at (T : Nat) (h : T + 2 ≤ 27) : TSt (D0 27) T 0 0 := by
  have hC : ∀ i, i < 27 * 64 → (D0 27).C[i]? = some 255 := fun i hi => by
    show (List.replicate (27 * 64) (255 : UInt8))[i]? = _
    rw [List.getElem?_replicate, if_pos hi]
  refine ⟨D0_st.lk, D0_st.len, by rw [D0_len]; exact h, SecIs.zero fun i hi => hC _ (by omega), SecIs.zero fun i hi => hC _ (by omega)⟩
set_option maxHeartbeats 2000000 in
theorem tallyNone_walk (d p q : Int) (w : World) :
    Calls Try.prog 3 #[.agg #[.int .i64 d, .int .i64 p, .int .i64 q]] w fun e w' => e = .returned (.bool true) ∧ Below w.heap.size w w' := by
  have HA : Hid (∀ u, Calls Try.prog 5 #[] u fun e w' => e = .returned (.bool true) ∧ Below u.heap.size u w') := Lib.hid tal_awake_any
  have HG : Hid (∀ u, Calls Try.prog 7 #[] u fun e w' => e = .returned (geoV G1) ∧ Below u.heap.size u w') := Lib.hid llaw_geo
  have HB : Hid (∀ u, Calls Try.prog 8 #[] u fun e w' => ∃ s : Sh, e = .returned (.tuple #[.pointer (some ⟨s.b, 0, none⟩), .int .i64 25, .int .i64 26]) ∧ Dvx w' s (D0 27) ∧ (∀ k ∈ s.S, u.heap.size ≤ k) ∧ Below u.heap.size u w') := Lib.hid fun u => (tlaw_blank u).mono fun e w' ⟨s, h1, h2, h3, h4⟩ => ⟨s, h1, h2, h3, h4⟩
  have HON : Hid (∀ u, Calls Try.prog 6 #[.pointer none, geoV G1] u fun e w' => e = .returned (.tuple #[.pointer none, .int .i64 1]) ∧ Below u.heap.size u w') := Lib.hid fun u => tal_open_bad none G1 0 u (fun v _ => sectors_nil v) (.inr (by rw [G1_all]; decide))
  have HSC : Hid (∀ (u : World) (s : Sh), Dvx u s (D0 27) → Calls Try.prog 11 #[.pointer (some ⟨s.b, 0, none⟩)] u fun e u' => e = .returned (.int .i64 27) ∧ u = u') := Lib.hid fun u s h => by
    obtain ⟨o, ho⟩ := h
    have := sectors_any s { D0 27 with ops := o } u ho
    rwa [show ({ D0 27 with ops := o } : Dv).L.length = 27 from D0_len] at this
  have HRR : Hid (∀ u, Calls Try.prog 9 #[geoV ⟨d, p, q⟩] u fun e w' => e = .returned (.bool (right ⟨d, p, q⟩)) ∧ Below u.heap.size u w') := Lib.hid fun u => georr_any ⟨d, p, q⟩ u
  have HAL : Hid (∀ u, Calls Try.prog 10 #[geoV ⟨d, p, q⟩] u fun e w' => e = .returned (.int .i64 (all ⟨d, p, q⟩)) ∧ Below u.heap.size u w') := Lib.hid fun u => all_any ⟨d, p, q⟩ u
  have HOB : Hid (right ⟨d, p, q⟩ = false ∨ 27 < all ⟨d, p, q⟩ → ∀ (u : World) (s : Sh), Dvx u s (D0 27) → Calls Try.prog 6 #[.pointer (some ⟨s.b, 0, none⟩), geoV ⟨d, p, q⟩] u fun e w' => e = .returned (.tuple #[.pointer none, .int .i64 1]) ∧ Below u.heap.size u w') := Lib.hid fun hb u s h => tal_open_bad _ ⟨d, p, q⟩ 27 u (fun v hv => by
      obtain ⟨o, ho⟩ := h.step hv
      have := sectors_any s { D0 27 with ops := o } v ho
      rwa [show ({ D0 27 with ops := o } : Dv).L.length = 27 from D0_len] at this) hb
  have HOG : Hid (right ⟨d, p, q⟩ = true → all ⟨d, p, q⟩ ≤ 27 → ∀ (u : World) (s : Sh), Dvx u s (D0 27) → Calls Try.prog 6 #[.pointer (some ⟨s.b, 0, none⟩), geoV ⟨d, p, q⟩] u fun e w' => ∃ t, e = .returned (.tuple #[.pointer (some ⟨t, 0, none⟩), .int .i64 0]) ∧ Dvx w' s (D0 27) ∧ Onl s.S u w') := Lib.hid fun hr ha u s h => by
    obtain ⟨T, hT⟩ : ∃ T : Nat, tal ⟨d, p, q⟩ = (T : Int) := ⟨(tal ⟨d, p, q⟩).toNat, by have := tal_le ⟨d, p, q⟩; omega⟩
    have hT2 : T + 2 ≤ 27 := by unfold all at ha; rw [if_pos hr, hT] at ha; omega
    refine (tal_open_good s (D0 27) ⟨d, p, q⟩ T 0 0 u h (fun v hv => (let ⟨o, ho⟩ := hv; sectors_any s { D0 27 with ops := o } v ho)) hr hT (by rw [D0_len]; omega) rfl (D0_at T hT2) (by omega) (by omega)).mono ?_
    rintro e w' ⟨t, rfl, h1, h2, h3⟩
    exact ⟨t, rfl, h1.dev, h2⟩
  have HGE : geoV ⟨d, p, q⟩ = .agg ([Value.int .i64 d, .int .i64 p, .int .i64 q] : List Value).toArray := rfl
  show Calls Try.prog 3 #[.agg ([Value.int .i64 d, .int .i64 p, .int .i64 q] : List Value).toArray] w _
  rw [HGE] at HRR HAL HOB HOG
  obtain ⟨rt, hrt⟩ : ∃ x, right ⟨d, p, q⟩ = x := ⟨_, rfl⟩
  obtain ⟨m, hm⟩ : ∃ x, all ⟨d, p, q⟩ = x := ⟨_, rfl⟩
  rw [hrt] at HRR HOB HOG
  rw [hm] at HAL HOB HOG
  generalize geoV G1 = GV at *
  obtain ⟨L, hL⟩ : ∃ L, ([Value.int .i64 d, .int .i64 p, .int .i64 q] : List Value) = L := ⟨_, rfl⟩
  have HLL : Hid (L.length = 3) := Lib.hid (by rw [← hL]; rfl)
  rw [hL] at HRR HAL HOB HOG ⊢
  generalize D0 27 = DZ at *
  clear hrt hm hL HGE
  cases rt with
  | false =>
    have HO := Lib.hid (HOB.out (.inl rfl))
    clear HOB HOG
    go_enter Try.func3, Try.ntmps3
    go_wp2_with (first
      | ((with_reducible refine wpBoxK (w := w) L 23 ?_ ?_); rfl; intro u1 r_ b_ s_; have GR1 := Lib.hid r_; have B1 := Lib.hid b_; clear r_ b_ s_)
      | (go_at_call 5; (with_reducible refine (HA.out u1).mono ?_); rintro e u2 ⟨rfl, b_⟩; have GR2 := Lib.hid (GR1.out.step b_); have B2 := Lib.hid (B1.out.next b_); clear b_ GR1 B1)
      | (go_at_call 7; (with_reducible refine (HG.out u2).mono ?_); rintro e u3 ⟨rfl, b_⟩; have GR3 := Lib.hid (GR2.out.step b_); have B3 := Lib.hid (B2.out.next b_); clear b_ GR2 B2)
      | (go_at_call 6; (with_reducible refine (HON.out u3).mono ?_); rintro e u4 ⟨rfl, b_⟩; have GR4 := Lib.hid (GR3.out.step b_); have B4 := Lib.hid (B3.out.next b_); clear b_ GR3 B3)
      | (go_at_call 8; (with_reducible refine (HB.out u4).mono ?_); rintro e u5 ⟨s, rfl, d_, n_, b_⟩; have D5 := Lib.hid d_; have GR5 := Lib.hid (GR4.out.step b_); have B5 := Lib.hid (B4.out.next b_); have NG : Hid (w.heap.size ∉ s.S) := Lib.hid (GR5.out.offD D5.out (by decide) (by decide) (by decide) (by decide)); have NB : Hid (∀ k ∈ s.S, w.heap.size ≤ k) := Lib.hid (fun k hk => Nat.le_trans B4.out.size (n_ k hk)); clear b_ d_ n_ GR4 B4)
      | ((with_reducible refine GR5.out.wpLoadK 23 fits_geo HLL.out ?_ ?_); rfl)
      | (go_at_call 6; (with_reducible refine (HO.out u5 s D5.out).mono ?_); rintro e u6 ⟨rfl, b_⟩; have D6 := Lib.hid (D5.out.step b_); have GR6 := Lib.hid (GR5.out.step b_); have B6 := Lib.hid (B5.out.next b_); clear b_ B5)
      | (go_at_call 9; (with_reducible refine (HRR.out u6).mono ?_); rintro e u7 ⟨rfl, b_⟩; have D7 := Lib.hid (D6.out.step b_); have GR7 := Lib.hid (GR6.out.step b_); have B7 := Lib.hid (B6.out.next b_); clear b_ B6)
      | ((with_reducible refine GR6.out.wpLoadG 23 fits_geo HLL.out ?_ ?_); rfl)
      | ((with_reducible refine GR7.out.wpLoadG 23 fits_geo HLL.out ?_ ?_); rfl)
      | (go_at_call 12; (with_reducible refine (tal_count_nil _).mono ?_); rintro e _ ⟨rfl, rfl⟩)
      | (go_at_call 13; (with_reducible refine (tal_bump_nil _).mono ?_); rintro e _ ⟨rfl, rfl⟩)
      | (go_at_call 14; (with_reducible refine (tal_reset_nil _).mono ?_); rintro e _ ⟨rfl, rfl⟩)
      | (go_at_call 15; (with_reducible refine (tal_even_nil _).mono ?_); rintro e _ ⟨rfl, rfl⟩))
    go_ret
    exact ⟨rfl, B7.out⟩
  | true =>
    by_cases hm27 : m ≤ 27
    · have HO := Lib.hid (HOG.out rfl hm27)
      have e1 : decide (m ≤ 27) = true := decide_eq_true hm27
      clear HOB HOG
      go_enter Try.func3, Try.ntmps3
      go_wp2_with (first
        | ((with_reducible refine wpBoxK (w := w) L 23 ?_ ?_); rfl; intro u1 r_ b_ s_; have GR1 := Lib.hid r_; have B1 := Lib.hid b_; clear r_ b_ s_)
        | (go_at_call 5; (with_reducible refine (HA.out u1).mono ?_); rintro e u2 ⟨rfl, b_⟩; have GR2 := Lib.hid (GR1.out.step b_); have B2 := Lib.hid (B1.out.next b_); clear b_ GR1 B1)
        | (go_at_call 7; (with_reducible refine (HG.out u2).mono ?_); rintro e u3 ⟨rfl, b_⟩; have GR3 := Lib.hid (GR2.out.step b_); have B3 := Lib.hid (B2.out.next b_); clear b_ GR2 B2)
        | (go_at_call 6; (with_reducible refine (HON.out u3).mono ?_); rintro e u4 ⟨rfl, b_⟩; have GR4 := Lib.hid (GR3.out.step b_); have B4 := Lib.hid (B3.out.next b_); clear b_ GR3 B3)
        | (go_at_call 8; (with_reducible refine (HB.out u4).mono ?_); rintro e u5 ⟨s, rfl, d_, n_, b_⟩; have D5 := Lib.hid d_; have GR5 := Lib.hid (GR4.out.step b_); have B5 := Lib.hid (B4.out.next b_); have NG : Hid (w.heap.size ∉ s.S) := Lib.hid (GR5.out.offD D5.out (by decide) (by decide) (by decide) (by decide)); have NB : Hid (∀ k ∈ s.S, w.heap.size ≤ k) := Lib.hid (fun k hk => Nat.le_trans B4.out.size (n_ k hk)); clear b_ d_ n_ GR4 B4)
        | ((with_reducible refine GR5.out.wpLoadK 23 fits_geo HLL.out ?_ ?_); rfl)
        | (go_at_call 6; (with_reducible refine (HO.out u5 s D5.out).mono ?_); rintro e u6 ⟨t6, rfl, d_, o_⟩; have D6 := Lib.hid d_; have GR6 := Lib.hid (GR5.out.onl o_ NG.out); have B6 : Hid (Below w.heap.size w u6) := Lib.hid (B5.out.trans (o_.below NB.out B5.out.size)); clear d_ o_ B5)
        | (go_at_call 9; (with_reducible refine (HRR.out u6).mono ?_); rintro e u7 ⟨rfl, b_⟩; have D7 := Lib.hid (D6.out.step b_); have GR7 := Lib.hid (GR6.out.step b_); have B7 := Lib.hid (B6.out.next b_); clear b_ B6)
        | ((with_reducible refine GR6.out.wpLoadG 23 fits_geo HLL.out ?_ ?_); rfl)
        | ((with_reducible refine GR7.out.wpLoadG 23 fits_geo HLL.out ?_ ?_); rfl)
        | (go_at_call 10; (with_reducible refine (HAL.out u7).mono ?_); rintro e u8 ⟨rfl, b_⟩; have D8 := Lib.hid (D7.out.step b_); have B8 := Lib.hid (B7.out.next b_); clear b_ B7)
        | (go_at_call 11; (with_reducible refine (HSC.out u8 s D8.out).mono ?_); rintro e _ ⟨rfl, rfl⟩)
        | (go_at_call 12; (with_reducible refine (tal_count_nil _).mono ?_); rintro e _ ⟨rfl, rfl⟩)
        | (go_at_call 13; (with_reducible refine (tal_bump_nil _).mono ?_); rintro e _ ⟨rfl, rfl⟩)
        | (go_at_call 14; (with_reducible refine (tal_reset_nil _).mono ?_); rintro e _ ⟨rfl, rfl⟩)
        | (go_at_call 15; (with_reducible refine (tal_even_nil _).mono ?_); rintro e _ ⟨rfl, rfl⟩))
      go_ret
      exact ⟨rfl, B8.out⟩
    · have HO := Lib.hid (HOB.out (.inr (by omega)))
      have e1 : decide (m ≤ 27) = false := decide_eq_false hm27
      clear HOB HOG
      go_enter Try.func3, Try.ntmps3
      go_wp2_with (first
        | ((with_reducible refine wpBoxK (w := w) L 23 ?_ ?_); rfl; intro u1 r_ b_ s_; have GR1 := Lib.hid r_; have B1 := Lib.hid b_; clear r_ b_ s_)
        | (go_at_call 5; (with_reducible refine (HA.out u1).mono ?_); rintro e u2 ⟨rfl, b_⟩; have GR2 := Lib.hid (GR1.out.step b_); have B2 := Lib.hid (B1.out.next b_); clear b_ GR1 B1)
        | (go_at_call 7; (with_reducible refine (HG.out u2).mono ?_); rintro e u3 ⟨rfl, b_⟩; have GR3 := Lib.hid (GR2.out.step b_); have B3 := Lib.hid (B2.out.next b_); clear b_ GR2 B2)
        | (go_at_call 6; (with_reducible refine (HON.out u3).mono ?_); rintro e u4 ⟨rfl, b_⟩; have GR4 := Lib.hid (GR3.out.step b_); have B4 := Lib.hid (B3.out.next b_); clear b_ GR3 B3)
        | (go_at_call 8; (with_reducible refine (HB.out u4).mono ?_); rintro e u5 ⟨s, rfl, d_, n_, b_⟩; have D5 := Lib.hid d_; have GR5 := Lib.hid (GR4.out.step b_); have B5 := Lib.hid (B4.out.next b_); have NG : Hid (w.heap.size ∉ s.S) := Lib.hid (GR5.out.offD D5.out (by decide) (by decide) (by decide) (by decide)); have NB : Hid (∀ k ∈ s.S, w.heap.size ≤ k) := Lib.hid (fun k hk => Nat.le_trans B4.out.size (n_ k hk)); clear b_ d_ n_ GR4 B4)
        | ((with_reducible refine GR5.out.wpLoadK 23 fits_geo HLL.out ?_ ?_); rfl)
        | (go_at_call 6; (with_reducible refine (HO.out u5 s D5.out).mono ?_); rintro e u6 ⟨rfl, b_⟩; have D6 := Lib.hid (D5.out.step b_); have GR6 := Lib.hid (GR5.out.step b_); have B6 := Lib.hid (B5.out.next b_); clear b_ B5)
        | (go_at_call 9; (with_reducible refine (HRR.out u6).mono ?_); rintro e u7 ⟨rfl, b_⟩; have D7 := Lib.hid (D6.out.step b_); have GR7 := Lib.hid (GR6.out.step b_); have B7 := Lib.hid (B6.out.next b_); clear b_ B6)
        | ((with_reducible refine GR6.out.wpLoadG 23 fits_geo HLL.out ?_ ?_); rfl)
        | ((with_reducible refine GR7.out.wpLoadG 23 fits_geo HLL.out ?_ ?_); rfl)
        | (go_at_call 10; (with_reducible refine (HAL.out u7).mono ?_); rintro e u8 ⟨rfl, b_⟩; have D8 := Lib.hid (D7.out.step b_); have B8 := Lib.hid (B7.out.next b_); clear b_ B7)
        | (go_at_call 11; (with_reducible refine (HSC.out u8 s D8.out).mono ?_); rintro e _ ⟨rfl, rfl⟩)
        | (go_at_call 12; (with_reducible refine (tal_count_nil _).mono ?_); rintro e _ ⟨rfl, rfl⟩)
        | (go_at_call 13; (with_reducible refine (tal_bump_nil _).mono ?_); rintro e _ ⟨rfl, rfl⟩)
        | (go_at_call 14; (with_reducible refine (tal_reset_nil _).mono ?_); rintro e _ ⟨rfl, rfl⟩)
        | (go_at_call 15; (with_reducible refine (tal_even_nil _).mono ?_); rintro e _ ⟨rfl, rfl⟩))
      go_ret
      exact ⟨rfl, B8.out⟩
end Go.Proofs.Ytcehdgdgjjecmaa
