/- A store into a list of bytes that a conversion laid. -/
import Derived.Test.YtlcmnpbbfnfcmaaGreatB5
namespace Go.Proofs.YtlcmnpbbfnfcmaaGreat
open Go.RowKit
set_option linter.unusedVariables false
theorem bs_int_cells (k : IntKind) (x : Int) : (Value.int k x).cells = #[.int k x] := rfl
section
variable {P : Program}
theorem Bytes.wpStore1 {ops : Array Oper} {rest : List Oper} {o : Oper} {a : Act} {w : World} {Q : Exit → Act → World → Prop} {g : Nat} {l : List UInt8} (h : Bytes w g l) (i : Nat) (ty : TypeId) (b : UInt8) (hf : (P.info? ty).map (·.size) = some 1) (hi : i < l.length)
    (ho : storeOf o a = some (ty, .pointer (some ⟨g, i, none⟩), .int .u8 (b.toNat : Int)))
    (k : ∀ w', Bytes w' g (l.set i b) → Only g w w' → w'.heap.size = w.heap.size → wpList P ops Q rest (a.put o.dst undef) w') : wpList P ops Q (o :: rest) a w := by
  obtain ⟨hg, x, y, ho, hx, hy⟩ := storeOf_spec ho
  have hc : w.cell? ⟨g, i, none⟩ = some (.int .u8 (l[i].toNat : Int)) := h.cell i hi
  have hr := run_storeCells_cells (P := P) g i [.int .u8 (b.toNat : Int)] 0 w (fun j hj => by
    have : j = 0 := by simpa using hj
    subst this
    simpa using by rw [hc]; rfl) (fun j hj => by
    have : j = 0 := by simpa using hj
    subst this
    simpa using h.frozen i hi) (fun u hu => by
    have : u = .int .u8 (b.toNat : Int) := by simpa using hu
    rw [this]; rfl)
  refine wpList_plain hg fun K hK => ?_
  cases hq : P.info? ty with
  | none => simp [hq] at hf
  | some ie =>
    have hs : ie.size = 1 := by simpa [hq] using hf
    unfold Oper.wp execOp
    simp only [ho, hx, hy, Instr.storeAt, Instr.sureAddr, Sem.run_bind, Sem.run_pure, Result.andThen_ok, storeVar, bs_int_cells, sizeOf, typeInfo]
    simp only [Nat.add_zero, World.setCells] at hr
    simp [hq, hs, hr]
    exact hK _ _ (k _ (h.set i b hi) ((Only.refl g w).setCell ⟨g, i, none⟩ _ (Or.inl rfl)) (by simp [World.setCell]))
end
theorem Bytes.only {w w' : World} {g k : Nat} {l : List UInt8} (h : Bytes w g l) (ho : Only k w w') (hne : g ≠ k) : Bytes w' g l := by
  obtain ⟨cs, T, lo, hi, hh, hf, hc⟩ := h
  exact ⟨cs, T, lo, hi, (ho.2.2.2.2 g (Array.getElem?_eq_some_iff.1 hh).1 hne).trans hh, hf, hc⟩
end Go.Proofs.YtlcmnpbbfnfcmaaGreat
