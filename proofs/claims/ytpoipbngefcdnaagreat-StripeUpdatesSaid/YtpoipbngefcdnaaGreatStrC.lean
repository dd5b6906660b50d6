/- A coder in memory; contracts of stripe's none, wide, data, Geo, Sums. -/
import Derived.Test.YtpoipbngefcdnaaGreatStrB
import Derived.Test.YtpoipbngefcdnaaGreatB5
namespace Go.Proofs.YtpoipbngefcdnaaGreat
open Go.RowKit CrcMath GfMath PolyMath RsMath SolMath GeoMath
set_option linter.unusedVariables false
set_option maxRecDepth 100000

def cdrL (cc k p s sb : Nat) : List Value := [.pointer (some ⟨cc, 0, none⟩), .int .i64 (k : Int), .int .i64 (p : Int), .int .i64 (s : Int), .pointer (some ⟨sb, 0, none⟩)]
/-- A coder that New made: k data blocks, p parity ones, s stripes. -/
structure Cdr (w : World) (c cc b sb k p s : Nat) : Prop where
  k1 : 1 ≤ k
  k8 : k ≤ 8
  p2 : 2 ≤ p
  p6 : p ≤ 6
  row : Row w c 74 (cdrL cc k p s sb)
  cod : Cod w cc b k p
  smr : Smr (.pointer (some ⟨sb, 0, none⟩)) w
theorem Cdr.step {w w' : World} {c cc b sb k p s : Nat} (h : Cdr w c cc b sb k p s) (hb : Below w.heap.size w w') : Cdr w' c cc b sb k p s :=
  ⟨h.k1, h.k8, h.p2, h.p6, h.row.step hb, h.cod.step hb, Smr.monot _ _ _ h.smr hb⟩
theorem Cdr.c0 {w : World} {c cc b sb k p s : Nat} (h : Cdr w c cc b sb k p s) : w.cell? ⟨c, 0, none⟩ = some (.pointer (some ⟨cc, 0, none⟩)) := by rw [h.row.cell]; rfl
theorem Cdr.c4 {w : World} {c cc b sb k p s : Nat} (h : Cdr w c cc b sb k p s) : w.cell? ⟨c, 4, none⟩ = some (.pointer (some ⟨sb, 0, none⟩)) := by rw [h.row.cell]; rfl
theorem Cdr.lt {w : World} {c cc b sb k p s : Nat} (h : Cdr w c cc b sb k p s) : c < w.heap.size := h.row.lt
theorem Cdr.over {w : World} {c cc b sb k p s : Nat} (h : Cdr w c cc b sb k p s) : Calls Tryz.prog 58 #[.pointer (some ⟨cc, 0, none⟩)] w fun e w' => e = .returned (.pointer (some ⟨b, 0, none⟩)) ∧ Below w.heap.size w w' := by
  obtain ⟨a, cap, h1, _⟩ := h.cod.cor
  exact (rs_over_any cc b k p _ w h1).mono fun e w' ⟨h1, h2⟩ => ⟨h1, h2 ▸ Below.refl _ _⟩
theorem Cdr.size {w : World} {c cc b sb k p s : Nat} (h : Cdr w c cc b sb k p s) : Calls Tryz.prog 59 #[.pointer (some ⟨cc, 0, none⟩)] w fun e w' => e = .returned (.tuple #[.int .i64 ((k + p : Nat) : Int), .int .i64 (k : Int)]) ∧ Below w.heap.size w w' := by
  obtain ⟨a, cap, h1, _⟩ := h.cod.cor
  exact rs_size_any cc b k p _ w h1

theorem str_none_nil (w : World) : Calls Tryz.prog 31 #[.pointer none] w fun e w' => e = .returned (.bool true) ∧ Below w.heap.size w w' := by
  go_enter Tryz.func31, Tryz.ntmps31
  go_wp2
  go_ret
  exact ⟨rfl, Below.refl _ _⟩
theorem str_none_any (c cc b sb k p s : Nat) (w : World) (h : Cdr w c cc b sb k p s) : Calls Tryz.prog 31 #[.pointer (some ⟨c, 0, none⟩)] w fun e w' => e = .returned (.bool false) ∧ Below w.heap.size w w' := by
  have HO := Lib.hid h.over
  have c0 := h.c0
  clear h
  go_enter Tryz.func31, Tryz.ntmps31
  go_wp2_with (go_at_call 58; (with_reducible refine HO.out.mono ?_); rintro e w1 ⟨rfl, b1⟩; have B1 := Lib.hid b1; clear b1)
  go_ret
  exact ⟨rfl, B1.out⟩
theorem str_wide_any (c cc b sb k p s : Nat) (w : World) (h : Cdr w c cc b sb k p s) : Calls Tryz.prog 33 #[.pointer (some ⟨c, 0, none⟩)] w fun e w' => e = .returned (.int .i64 ((k + p : Nat) : Int)) ∧ Below w.heap.size w w' := by
  have HO := Lib.hid h.size
  have c0 := h.c0
  obtain ⟨n, hn⟩ : ∃ n, k + p = n := ⟨_, rfl⟩
  rw [hn] at HO ⊢
  clear h hn
  go_enter Tryz.func33, Tryz.ntmps33
  go_wp2_with (go_at_call 59; (with_reducible refine HO.out.mono ?_); rintro e w1 ⟨rfl, b1⟩; have B1 := Lib.hid b1; clear b1)
  go_ret
  exact ⟨rfl, B1.out⟩
theorem str_data_any (c cc b sb k p s : Nat) (w : World) (h : Cdr w c cc b sb k p s) : Calls Tryz.prog 32 #[.pointer (some ⟨c, 0, none⟩)] w fun e w' => e = .returned (.int .i64 (k : Int)) ∧ Below w.heap.size w w' := by
  have HO := Lib.hid h.size
  have c0 := h.c0
  obtain ⟨n, hn⟩ : ∃ n, k + p = n := ⟨_, rfl⟩
  rw [hn] at HO
  clear h hn
  go_enter Tryz.func32, Tryz.ntmps32
  go_wp2_with (go_at_call 59; (with_reducible refine HO.out.mono ?_); rintro e w1 ⟨rfl, b1⟩; have B1 := Lib.hid b1; clear b1)
  go_ret
  exact ⟨rfl, B1.out⟩

/-- A geometry of these sizes. -/
def gmN (k p s : Nat) : Gm := ⟨k, p, s⟩
theorem str_geo_zero : ∀ u, (zeroValue 23).run Tryz.prog u = .ok (.agg [Value.int .i64 0, .int .i64 0, .int .i64 0].toArray) u := fun u => by kernel_rfl
theorem str_geo_any (c cc b sb k p s : Nat) (w : World) (h : Cdr w c cc b sb k p s) : Calls Tryz.prog 12 #[.pointer (some ⟨c, 0, none⟩)] w fun e w' => e = .returned (geoV (gmN k p s)) ∧ Below w.heap.size w w' := by
  have HN : Hid (∀ u, Below w.heap.size w u → Calls Tryz.prog 31 #[.pointer (some ⟨c, 0, none⟩)] u fun e w' => e = .returned (.bool false) ∧ Below u.heap.size u w') := Lib.hid fun u hu => str_none_any c cc b sb k p s u (h.step hu)
  have HR := Lib.hid h.row
  have HZ := Lib.hid str_geo_zero
  have HE : Hid (cdrL cc k p s sb = [.pointer (some ⟨cc, 0, none⟩)] ++ [Value.int .i64 (k : Int), .int .i64 (p : Int), .int .i64 (s : Int)] ++ [.pointer (some ⟨sb, 0, none⟩)]) := Lib.hid rfl
  have HV : Hid (geoV (gmN k p s) = .agg [Value.int .i64 (k : Int), .int .i64 (p : Int), .int .i64 (s : Int)].toArray) := Lib.hid rfl
  rw [HV.out]
  rw [HE.out] at HR
  obtain ⟨G, hG⟩ : ∃ G, [Value.int .i64 (k : Int), .int .i64 (p : Int), .int .i64 (s : Int)] = G := ⟨_, rfl⟩
  have HGL : Hid (G.length = 3) := Lib.hid (by rw [← hG]; rfl)
  have HG1 : Hid (G.all (·.oneCell') = true) := Lib.hid (by rw [← hG]; rfl)
  rw [hG] at HR ⊢
  clear HE HV hG h
  go_enter Tryz.func12, Tryz.ntmps12
  go_wp2_with (first
    | ((with_reducible refine wpAllocK (w := w) [Value.int .i64 0, .int .i64 0, .int .i64 0] 23 HZ.out ?_ ?_); rfl; intro u1 r1 b1 s1; have R1 := Lib.hid r1; have B1 := Lib.hid b1; have S1 := Lib.hid s1; clear r1 b1 s1)
    | (go_at_call 31; (with_reducible refine (HN.out u1 B1.out).mono ?_); rintro e u2 ⟨rfl, b2⟩; have R2 := Lib.hid (R1.out.step b2); have B2 := Lib.hid (B1.out.next b2); have Q2 := Lib.hid (HR.out.step (B1.out.next b2)); clear b2)
    | ((with_reducible refine Q2.out.wpLoadMidK 1 rfl 23 fits_geo HGL.out ?_ ?_); rfl)
    | ((with_reducible refine R2.out.wpStoreK 23 G fits_geo rfl HGL.out HG1.out ?_ ?_); rfl; intro u3 r3 o3 s3; have R3 := Lib.hid r3; have B3 : Hid (Below w.heap.size w u3) := Lib.hid (B2.out.trans (o3.below (Nat.le_refl _) B2.out.size)); clear r3 o3 s3))
  exact bodyPost_ret (R3.out.result rfl _ _ rfl Tryz.underlying23 rfl (by rw [HGL.out]; exact fits_geo.size)) rfl ⟨rfl, B3.out⟩
theorem str_geo_nil (w : World) : Calls Tryz.prog 12 #[.pointer none] w fun e w' => e = .returned (geoV ⟨0, 0, 0⟩) ∧ Below w.heap.size w w' := by
  have HN := Lib.hid str_none_nil
  have HZ := Lib.hid str_geo_zero
  have HV : Hid (geoV ⟨0, 0, 0⟩ = .agg [Value.int .i64 0, .int .i64 0, .int .i64 0].toArray) := Lib.hid rfl
  have HBU : Hid (Tryz.prog.built 23 [] = some [Value.int .i64 0, .int .i64 0, .int .i64 0].toArray) := Lib.hid (by kernel_rfl)
  rw [HV.out]
  obtain ⟨G, hG⟩ : ∃ G, [Value.int .i64 0, .int .i64 0, .int .i64 0] = G := ⟨_, rfl⟩
  have HGL : Hid (G.length = 3) := Lib.hid (by rw [← hG]; rfl)
  have HG1 : Hid (G.all (·.oneCell') = true) := Lib.hid (by rw [← hG]; rfl)
  rw [hG] at HZ HBU ⊢
  clear HV hG
  go_enter Tryz.func12, Tryz.ntmps12
  go_wp2_with (first
    | ((with_reducible refine wpAllocK (w := w) G 23 HZ.out ?_ ?_); rfl; intro u1 r1 b1 s1; have R1 := Lib.hid r1; have B1 := Lib.hid b1; have S1 := Lib.hid s1; clear r1 b1 s1)
    | (go_at_call 31; (with_reducible refine (HN.out u1).mono ?_); rintro e u2 ⟨rfl, b2⟩; have R2 := Lib.hid (R1.out.step b2); have B2 := Lib.hid (B1.out.next b2); clear b2)
    | ((with_reducible refine wpBuildZeroK G 23 HBU.out ?_ ?_); rfl)
    | ((with_reducible refine R2.out.wpStoreK 23 G fits_geo HGL.out HGL.out HG1.out ?_ ?_); rfl; intro u3 r3 o3 s3; have R3 := Lib.hid r3; have B3 : Hid (Below w.heap.size w u3) := Lib.hid (B2.out.trans (o3.below (Nat.le_refl _) B2.out.size)); clear r3 o3 s3))
  exact bodyPost_ret (R3.out.result rfl _ _ rfl Tryz.underlying23 rfl (by rw [HGL.out]; exact fits_geo.size)) rfl ⟨rfl, B3.out⟩
theorem str_sums_any (c cc b sb k p s : Nat) (w : World) (h : Cdr w c cc b sb k p s) : Calls Tryz.prog 13 #[.pointer (some ⟨c, 0, none⟩)] w fun e w' => e = .returned (.pointer (some ⟨sb, 0, none⟩)) ∧ Below w.heap.size w w' := by
  have HN := Lib.hid (str_none_any c cc b sb k p s w h)
  have HC := Lib.hid h
  clear h
  go_enter Tryz.func13, Tryz.ntmps13
  go_wp2_with (go_at_call 31; (with_reducible refine HN.out.mono ?_); rintro e w1 ⟨rfl, b1⟩; have c4 := (HC.out.step b1).c4; have B1 := Lib.hid b1; clear b1)
  go_ret
  exact ⟨rfl, B1.out⟩
theorem str_sums_nil (w : World) : Calls Tryz.prog 13 #[.pointer none] w fun e w' => e = .returned (.pointer none) ∧ Below w.heap.size w w' := by
  have HN := Lib.hid (str_none_nil w)
  go_enter Tryz.func13, Tryz.ntmps13
  go_wp2_with (go_at_call 31; (with_reducible refine HN.out.mono ?_); rintro e w1 ⟨rfl, b1⟩; have B1 := Lib.hid b1; clear b1)
  go_ret
  exact ⟨rfl, B1.out⟩
end Go.Proofs.YtpoipbngefcdnaaGreat
