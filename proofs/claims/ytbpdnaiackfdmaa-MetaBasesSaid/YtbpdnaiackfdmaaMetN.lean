/- tell, tellMore. -/
import Derived.Test.YtbpdnaiackfdmaaMetL
import Derived.Test.YtbpdnaiackfdmaaOwns
import Derived.Test.YtbpdnaiackfdmaaBuildB
namespace Go.Proofs.Ytbpdnaiackfdmaa
open Go.RowKit MetMath
set_option linter.unusedVariables false
set_option maxRecDepth 100000

theorem met_built_rec : (Try.prog.info? 31).map (fun i => (i.size, i.zero.isSome)) = some (4, true) := by kernel_rfl
theorem met_size_recs : (Try.prog.info? 22).map (·.size) = some 1 := by kernel_rfl
/-- The function tell, with the list's variable g caught. -/
def tellV (g : Nat) : Value := .func (.func 22) #[] #[.pointer (some ⟨g, 0, none⟩)]
/-- The list that Base lays, in its variable g; tell, in its variable t. -/
structure LAt (base : Nat) (w : World) (g t : Nat) (V : Value) (L : List Rc) : Prop where
  rg : Row w g 22 [V]
  rt : Row w t 59 [tellV g]
  own : w.ownsRow base 31 4 V L.length (rcs L)
  gb : g < base
  tb : t < base
  gt : g ≠ t
  bw : base ≤ w.heap.size
/-- Nothing old turned but the variable g and what the list owned. -/
def GrO (g : Nat) (V : Value) (w w' : World) : Prop := w'.os = w.os ∧ w'.tape = w.tape ∧ w'.output = w.output ∧ w.heap.size ≤ w'.heap.size ∧ ∀ k, k < w.heap.size → k ≠ g → V.ownBlock ≠ some k → w'.heap[k]? = w.heap[k]?
def Newer (w : World) (V V' : Value) : Prop := V'.ownBlock = V.ownBlock ∨ ∃ j, V'.ownBlock = some j ∧ w.heap.size ≤ j
theorem GrO.size {g : Nat} {V : Value} {w w' : World} (h : GrO g V w w') : w.heap.size ≤ w'.heap.size := h.2.2.2.1
theorem GrO.row {g b : Nat} {V : Value} {w w' : World} {t : TypeId} {l : List Value} (h : GrO g V w w') (hr : Row w b t l) (hg : b ≠ g) (hv : V.ownBlock ≠ some b) : Row w' b t l := (h.2.2.2.2 b hr.lt hg hv).trans hr
theorem LAt.far {base : Nat} {w : World} {g t : Nat} {V : Value} {L : List Rc} (h : LAt base w g t V L) {b : Nat} (hb : b < base) : V.ownBlock ≠ some b := fun hh => Nat.lt_irrefl _ (Nat.lt_of_lt_of_le hb (owns_ge h.own b hh))
theorem LAt.step {base : Nat} {w w' : World} {g t : Nat} {V : Value} {L : List Rc} (h : LAt base w g t V L) (hb : Below w.heap.size w w') : LAt base w' g t V L :=
  ⟨h.rg.step hb, h.rt.step hb, owns_step h.own hb, h.gb, h.tb, h.gt, Nat.le_trans h.bw hb.size⟩
theorem LAt.only {base b : Nat} {w w' : World} {g t : Nat} {V : Value} {L : List Rc} (h : LAt base w g t V L) (ho : Only b w w') (hg : b ≠ g) (ht : b ≠ t) (hv : V.ownBlock ≠ some b) : LAt base w' g t V L :=
  ⟨h.rg.only ho hg.symm, h.rt.only ho ht.symm, owns_only h.own ho (fun k hk => by rintro rfl; exact hv hk), h.gb, h.tb, h.gt, Nat.le_trans h.bw ho.size⟩
theorem LAt.lt {base : Nat} {w : World} {g t : Nat} {V : Value} {L : List Rc} (h : LAt base w g t V L) {b : Nat} (hb : w.heap.size ≤ b) : V.ownBlock ≠ some b := fun hh => by
  have := h.own.lt b hh
  omega
set_option maxHeartbeats 1000000 in
theorem met_tell_any (base g t : Nat) (V : Value) (L : List Rc) (k s v : Int) (w : World) (h : LAt base w g t V L) (hL : L.length ≤ 100) :
    Calls Try.prog 22 #[.int .i64 k, .int .i64 s, .int .i64 v, .pointer (some ⟨g, 0, none⟩)] w fun e w' => e = .returned (.tuple #[]) ∧ ∃ V', LAt base w' g t V' (L ++ [⟨k, s, 0, v⟩]) ∧ Newer w V V' ∧ GrO g V w w' := by
  obtain ⟨X, hX⟩ : ∃ X, (⟨k, s, 0, v⟩ : Rc).cells = X := ⟨_, rfl⟩
  have HPB : Hid (Try.prog.built 31 [(0, .int .i64 k), (1, .int .i64 s), (3, .int .i64 v)] = some X.toArray) := Lib.hid (by rw [← hX]; kernel_rfl)
  have HXL : Hid (X.length = 1 * 4) := Lib.hid (by rw [← hX]; rfl)
  have HXO : Hid (X.all (·.oneCell') = true) := Lib.hid (by rw [← hX]; rfl)
  have HVS : Hid (∀ l ∈ [X], l.length = 4) := Lib.hid fun l hl => by rw [List.mem_singleton.1 hl]; exact HXL.out
  have HP1 : Hid (0 < [X].length) := Lib.hid (by show 0 < 1; omega)
  have HP4 : Hid (0 < 4) := Lib.hid (by omega)
  have HSM : Hid ([X].length * 4 ≤ 2 ^ 24) := Lib.hid (by show 1 * 4 ≤ _; omega)
  have HBIG : Hid (Big (L.length + 1 ≤ 1099511627776)) := Lib.hid ⟨by omega⟩
  have HL0 : Hid (0 < ([V] : List Value).length) := Lib.hid (Nat.succ_pos 0)
  have HX := Lib.hid hX
  have q0 : w.cell? ⟨g, 0, none⟩ = some V := h.rg.cell 0
  have HH := Lib.hid h
  clear h hX
  go_enter Try.func22, Try.ntmps22
  go_wp2_with (first
    | ((with_reducible refine wpBuildPK X 31 [(0, .int .i64 k), (1, .int .i64 s), (3, .int .i64 v)] HPB.out ?_ ?_); rfl)
    | ((with_reducible refine wpBuildBK (w := w) [X] 4 22 31 Try.underlying22 met_built_rec HP4.out HVS.out HP1.out HSM.out ?_ ?_); rfl; intro u1 r_ b_ s_; have HLI : Hid (Lies u1 u1.heap.size (some ⟨w.heap.size, 0, none⟩) X) := Lib.hid (fun _ => ⟨_, 0, rfl, r_.lt, fun j q hj => by rw [Nat.zero_add, r_.cell]; simpa using hj⟩); have H1 := Lib.hid (HH.out.step b_); have HB1 := Lib.hid b_; have HNB : Hid (base ≤ u1.heap.size) := Lib.hid (Nat.le_trans HH.out.bw b_.size); clear r_ b_ s_)
    | ((with_reducible refine wpAppendM 1 H1.out.own Try.underlying22 many_rec HLI.out HXL.out Nat.one_pos HP4.out HXO.out HBIG.out HNB.out ?_ ?_); rfl; intro V2 u2 hown hgr hnew; have HO2 := Lib.hid hown; have HG2 := Lib.hid hgr; have HN2 := Lib.hid hnew; have RG2 : Hid (Row u2 g 22 [V]) := Lib.hid ((hgr.block g H1.out.rg.lt (H1.out.far H1.out.gb).symm).trans H1.out.rg); clear hown hgr hnew)
    | ((with_reducible refine RG2.out.wpStore1K 0 22 V2 met_size_recs HL0.out (owns_one HO2.out).1 (owns_one HO2.out).2 ?_ ?_); rfl; intro u3 r3 o3 s3; have R3 := Lib.hid r3; have O3 := Lib.hid o3; clear r3 o3 s3))
  go_end0
  have hlen : (L ++ [(⟨k, s, 0, v⟩ : Rc)]).length = L.length + 1 := by simp
  have hgO := O3.out
  have hgr := HG2.out
  have hown : u2.ownsRow base 31 4 V2 (L ++ [(⟨k, s, 0, v⟩ : Rc)]).length (rcs (L ++ [⟨k, s, 0, v⟩])) := by
    rw [hlen, rcs_append, rcs_one, HX.out]; exact HO2.out
  have rt2 : Row u2 t 59 [tellV g] := (hgr.block t H1.out.rt.lt (H1.out.far H1.out.tb).symm).trans H1.out.rt
  have hv2 : ∀ k, V2.ownBlock = some k → k ≠ g := fun k hk => by rintro rfl; exact absurd (owns_ge hown _ hk) (Nat.not_le.2 HH.out.gb)
  refine ⟨rfl, V2, ⟨R3.out, rt2.only hgO HH.out.gt.symm, owns_only hown hgO hv2, HH.out.gb, HH.out.tb, HH.out.gt, Nat.le_trans (Nat.le_trans HNB.out hgr.size) hgO.size⟩, ?_, ?_⟩
  · rcases HN2.out with h | h
    · exact Or.inl h
    · exact Or.inr ⟨_, h, HB1.out.size⟩
  · refine ⟨hgO.1.trans (hgr.os.trans HB1.out.os), hgO.2.1.trans (hgr.tape.trans HB1.out.tape), hgO.2.2.1.trans (hgr.output.trans HB1.out.output), Nat.le_trans (Nat.le_trans HB1.out.size hgr.size) hgO.size, fun j hj hg hv => ?_⟩
    have e1 := HB1.out.block j hj
    have e2 := hgr.block j (Nat.lt_of_lt_of_le hj HB1.out.size) hv.symm
    have e3 := hgO.2.2.2.2 j (Nat.lt_of_lt_of_le (Nat.lt_of_lt_of_le hj HB1.out.size) hgr.size) hg
    exact e3.trans (e2.trans e1)

/-- What tellMore adds. -/
def more (k s v : Int) : List Rc := if v = 0 then [] else [⟨k, s, 0, v⟩]
theorem GrO.refl (g : Nat) (V : Value) (w : World) : GrO g V w w := ⟨rfl, rfl, rfl, Nat.le_refl _, fun _ _ _ _ => rfl⟩
theorem met_func_call (args : Array Value) (u : World) : (callFunc 22 args).run Try.prog u = .ok (.enter 22 args) u := by kernel_rfl
theorem met_more_any (base g t : Nat) (V : Value) (L : List Rc) (k s v : Int) (w : World) (h : LAt base w g t V L) (hL : L.length ≤ 100) :
    Calls Try.prog 23 #[.int .i64 k, .int .i64 s, .int .i64 v, .pointer (some ⟨t, 0, none⟩)] w fun e w' => e = .returned (.tuple #[]) ∧ ∃ V', LAt base w' g t V' (L ++ more k s v) ∧ Newer w V V' ∧ GrO g V w w' := by
  by_cases hv : v = 0
  · subst hv
    rw [show more k s 0 = [] from rfl, List.append_nil]
    have HH := Lib.hid h
    clear h
    go_enter Try.func23, Try.ntmps23
    go_wp2
    go_end0
    exact ⟨rfl, V, HH.out, Or.inl rfl, GrO.refl _ _ _⟩
  · have HT := Lib.hid (met_tell_any base g t V L k s v w h hL)
    rw [show more k s v = [⟨k, s, 0, v⟩] by unfold more; rw [if_neg hv]]
    have e1 : (v == (0 : Int)) = false := by simp [hv]
    have e2 : (!(v == (0 : Int))) = true := by simp [hv]
    have e3 : (v != (0 : Int)) = true := by simp [hv]
    have q0 : w.cell? ⟨t, 0, none⟩ = some (.func (.func 22) #[] #[.pointer (some ⟨g, 0, none⟩)]) := h.rt.cell 0
    clear h hv
    go_enter Try.func23, Try.ntmps23
    go_wp2_with (go_at_call 22; (with_reducible refine HT.out.mono ?_); rintro e u1 ⟨rfl, hq⟩; have HQ := Lib.hid hq; clear hq)
    go_end0
    exact ⟨rfl, HQ.out⟩
end Go.Proofs.Ytbpdnaiackfdmaa
