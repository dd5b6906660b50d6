/- Contracts of sha's begin and mix. -/
import Derived.Test.YtmphjmbnfaimiaaDoorShaB
namespace Go.Proofs.YtmphjmbnfaimiaaDoor
open Go.RowKit ShaMath

/-- The two tables of the program lie where the program's own variables do. -/
structure Glob (w : World) : Prop where
  size : 2 ≤ w.heap.size
  first : ∀ i (h : i < first.length), w.cell? ⟨0, i, none⟩ = some (.int .u32 (tI first[i]))
  roots : ∀ i (h : i < roots.length), w.cell? ⟨1, i, none⟩ = some (.int .u32 (tI roots[i]))
theorem Glob.step {w w' : World} (h : Glob w) (hb : Below w.heap.size w w') : Glob w' :=
  ⟨Nat.le_trans h.size hb.size, fun i hi => (hb.cell (p := ⟨0, i, none⟩) (by have := h.size; show 0 < _; omega)).trans (h.first i hi), fun i hi => (hb.cell (p := ⟨1, i, none⟩) (by have := h.size; show 1 < _; omega)).trans (h.roots i hi)⟩
theorem Glob.only {w w' : World} {g : Nat} (h : Glob w) (ho : Only g w w') (hg : 2 ≤ g) : Glob w' := by
  have hb := ho.below (B := 2) hg h.size
  exact ⟨Nat.le_trans h.size hb.size, fun i hi => (hb.cell (p := ⟨0, i, none⟩) (by show 0 < _; omega)).trans (h.first i hi), fun i hi => (hb.cell (p := ⟨1, i, none⟩) (by show 1 < _; omega)).trans (h.roots i hi)⟩

theorem begin_any (b : Nat) (x r : List Value) (w : World) (hg : Glob w) (hr : Row w b 55 (x ++ r)) (hx : x.length = 8) :
    Calls Tryd.prog 29 #[.pointer (some ⟨b, 0, none⟩)] w fun e w' => e = .returned (.tuple #[]) ∧ Row w' b 55 (u32s first ++ r) ∧ Only b w w' := by
  have hrange : w.rangeAt 0 0 (u32s first) := by
    intro j v hv
    have hj : j < first.length := by rw [← u32s_length]; exact (List.getElem?_eq_some_iff.1 hv).1
    rw [u32s_get _ _ hj] at hv
    rw [Nat.zero_add, hg.first j hj]
    exact hv
  obtain ⟨F, hF⟩ : ∃ F, F = u32s first := ⟨_, rfl⟩
  rw [← hF] at hrange ⊢
  have hl : F.length = 8 := by rw [hF, u32s_length]; rfl
  have HI : Hid ((Tryd.prog.info? 51).map (·.size) = some F.length) := Lib.hid (by rw [hl]; kernel_rfl)
  have HI2 : Hid ((Tryd.prog.info? 52).map (·.size) = some F.length) := Lib.hid (by rw [hl]; kernel_rfl)
  have H1 : Hid (F.all (·.oneCell') = true) := Lib.hid (by rw [hF]; simp [u32s, Value.oneCell'])
  have HL : Hid (x.length = F.length) := Lib.hid (by rw [hl, hx])
  have HG := Lib.hid hrange
  have HR : Hid (Row w b 55 ([] ++ x ++ r)) := Lib.hid hr
  have HRES := Lib.hid (Row.setCells F HR.out HL.out 0 rfl)
  have HO := Lib.hid (Only.setCells (g := b) F 0 (Only.refl b w))
  clear hg hr hrange hF hl hx
  go_enter Tryd.func29, Tryd.ntmps29
  go_wp2_with (first
    | (refine (wpList_load_mid rfl 51 _ rfl 0 0 rfl F _ HG.out Tryd.underlying51 rfl HI.out ?_))
    | (refine (HR.out.wpStoreMid rfl 52 F HL.out HI2.out H1.out _ _ rfl rfl rfl rfl ?_)))
  go_end0
  exact ⟨rfl, HRES.out, HO.out⟩

end Go.Proofs.YtmphjmbnfaimiaaDoor
