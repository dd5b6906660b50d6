/- A coder in memory; contracts of stripe's none, wide, data, Geo, Sums. -/
import Derived.Test.YtlcmnpbbfnfcmaaGreatStrB
import Derived.Test.YtlcmnpbbfnfcmaaGreatB5
namespace Go.Proofs.YtlcmnpbbfnfcmaaGreat
open Go.RowKit CrcMath GfMath PolyMath RsMath SolMath GeoMath
set_option linter.unusedVariables false
set_option maxRecDepth 100000

def cdrL (cc k p s sb : Nat) : List Value := [.pointer (some ⟨cc, 0, none⟩), .int .i64 (k : Int), .int .i64 (p : Int), .int .i64 (s : Int), .pointer (some ⟨sb, 0, none⟩)]
/-- A coder that New made: k data blocks, p parity ones, s stripes. -/
structure Cdr (w : World) (c cc b sb k p s : Nat) : Prop where
  k1 : 1 ≤ k
  k8 : k ≤ 8
  p2 : 2 ≤ p
  p6 : p ≤ 6
  row : Row w c 62 (cdrL cc k p s sb)
  cod : Cod w cc b k p
  smr : Smr (.pointer (some ⟨sb, 0, none⟩)) w
theorem Cdr.step {w w' : World} {c cc b sb k p s : Nat} (h : Cdr w c cc b sb k p s) (hb : Below w.heap.size w w') : Cdr w' c cc b sb k p s :=
  ⟨h.k1, h.k8, h.p2, h.p6, h.row.step hb, h.cod.step hb, Smr.monot _ _ _ h.smr hb⟩
theorem Cdr.c0 {w : World} {c cc b sb k p s : Nat} (h : Cdr w c cc b sb k p s) : w.cell? ⟨c, 0, none⟩ = some (.pointer (some ⟨cc, 0, none⟩)) := by rw [h.row.cell]; rfl
theorem Cdr.c4 {w : World} {c cc b sb k p s : Nat} (h : Cdr w c cc b sb k p s) : w.cell? ⟨c, 4, none⟩ = some (.pointer (some ⟨sb, 0, none⟩)) := by rw [h.row.cell]; rfl
theorem Cdr.lt {w : World} {c cc b sb k p s : Nat} (h : Cdr w c cc b sb k p s) : c < w.heap.size := h.row.lt
theorem Cdr.over {w : World} {c cc b sb k p s : Nat} (h : Cdr w c cc b sb k p s) : Calls Tryz.prog 43 #[.pointer (some ⟨cc, 0, none⟩)] w fun e w' => e = .returned (.pointer (some ⟨b, 0, none⟩)) ∧ Below w.heap.size w w' := by
  obtain ⟨a, cap, h1, _⟩ := h.cod.cor
  exact (rs_over_any cc b k p _ w h1).mono fun e w' ⟨h1, h2⟩ => ⟨h1, h2 ▸ Below.refl _ _⟩
theorem Cdr.size {w : World} {c cc b sb k p s : Nat} (h : Cdr w c cc b sb k p s) : Calls Tryz.prog 44 #[.pointer (some ⟨cc, 0, none⟩)] w fun e w' => e = .returned (.tuple #[.int .i64 ((k + p : Nat) : Int), .int .i64 (k : Int)]) ∧ Below w.heap.size w w' := by
  obtain ⟨a, cap, h1, _⟩ := h.cod.cor
  exact rs_size_any cc b k p _ w h1

theorem str_none_nil (w : World) : Calls Tryz.prog 20 #[.pointer none] w fun e w' => e = .returned (.bool true) ∧ Below w.heap.size w w' := by
  go_enter Tryz.func20, Tryz.ntmps20
  go_wp2
  go_ret
  exact ⟨rfl, Below.refl _ _⟩
theorem str_none_any (c cc b sb k p s : Nat) (w : World) (h : Cdr w c cc b sb k p s) : Calls Tryz.prog 20 #[.pointer (some ⟨c, 0, none⟩)] w fun e w' => e = .returned (.bool false) ∧ Below w.heap.size w w' := by
  have HO := Lib.hid h.over
  have c0 := h.c0
  clear h
  go_enter Tryz.func20, Tryz.ntmps20
  go_wp2_with (go_at_call 43; (with_reducible refine HO.out.mono ?_); rintro e w1 ⟨rfl, b1⟩; have B1 := Lib.hid b1; clear b1)
  go_ret
  exact ⟨rfl, B1.out⟩
theorem str_wide_any (c cc b sb k p s : Nat) (w : World) (h : Cdr w c cc b sb k p s) : Calls Tryz.prog 22 #[.pointer (some ⟨c, 0, none⟩)] w fun e w' => e = .returned (.int .i64 ((k + p : Nat) : Int)) ∧ Below w.heap.size w w' := by
  have HO := Lib.hid h.size
  have c0 := h.c0
  obtain ⟨n, hn⟩ : ∃ n, k + p = n := ⟨_, rfl⟩
  rw [hn] at HO ⊢
  clear h hn
  go_enter Tryz.func22, Tryz.ntmps22
  go_wp2_with (go_at_call 44; (with_reducible refine HO.out.mono ?_); rintro e w1 ⟨rfl, b1⟩; have B1 := Lib.hid b1; clear b1)
  go_ret
  exact ⟨rfl, B1.out⟩
theorem str_data_any (c cc b sb k p s : Nat) (w : World) (h : Cdr w c cc b sb k p s) : Calls Tryz.prog 21 #[.pointer (some ⟨c, 0, none⟩)] w fun e w' => e = .returned (.int .i64 (k : Int)) ∧ Below w.heap.size w w' := by
  have HO := Lib.hid h.size
  have c0 := h.c0
  obtain ⟨n, hn⟩ : ∃ n, k + p = n := ⟨_, rfl⟩
  rw [hn] at HO
  clear h hn
  go_enter Tryz.func21, Tryz.ntmps21
  go_wp2_with (go_at_call 44; (with_reducible refine HO.out.mono ?_); rintro e w1 ⟨rfl, b1⟩; have B1 := Lib.hid b1; clear b1)
  go_ret
  exact ⟨rfl, B1.out⟩

/-- A geometry of these sizes. -/
def gmN (k p s : Nat) : Gm := ⟨k, p, s⟩
theorem str_geo_zero : ∀ u, (zeroValue 23).run Tryz.prog u = .ok (.agg [Value.int .i64 0, .int .i64 0, .int .i64 0].toArray) u := fun u => by kernel_rfl
end Go.Proofs.YtlcmnpbbfnfcmaaGreat
