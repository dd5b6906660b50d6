/- The texts FlaG, FlaH, FlaI, FlaJ, FlaK, Inv, InvS, InvY, InvR, FlaL, InvG, Make, FlaN, FlaO, FlaP, FlaQ, FlaR, FlaX, LogL, InvT, one behind the other. -/
import Derived.StillTailTactics
import Derived.RegionTactic
import Derived.StillTail
import Derived.Test.YtbnjenbhpaknbaaGreatShelf
import Derived.Lib.MakeNoZero
import Derived.Test.YtbnjenbhpaknbaaGreatB1
/- Contracts of flash: burn, reach, what an erase and a program do with a byte, work. (gen_fla_work.py) -/
namespace Go.Proofs.YtbnjenbhpaknbaaGreat
open Go.RowKit FlaMath
set_option linter.unusedVariables false
set_option maxRecDepth 100000

def burnB (D : Dv) : Bool := D.lit && decide (wrap64 (D.left - 1) < 0)
def burned (D : Dv) : Dv := if D.lit then { D with left := wrap64 (D.left - 1) } else D
theorem burn_any (s : Sh) (D : Dv) (w : World) (h : Dev w s D) :
    Calls Tryz.prog 92 #[.pointer (some ⟨s.b, 0, none⟩)] w fun e w' => e = .returned (.bool (burnB D)) ∧ Dev w' s (burned D) ∧ Onl s.S w w' := by
  have h2 := h.c2
  have h3 := h.c3
  have HD := Lib.hid h
  have R0 : Hid (Row w s.b 85 (devL s D)) := Lib.hid h.row
  have HL : Hid (3 < (devL s D).length) := Lib.hid (by rw [devL_length]; decide)
  cases hl : D.lit with
  | false =>
    rw [hl] at h2
    have HB : Hid (burnB D = false) := Lib.hid (by rw [burnB, hl]; rfl)
    have HB2 : Hid (burned D = D) := Lib.hid (by rw [burned, hl]; rfl)
    clear h hl
    go_enter Tryz.func92, Tryz.ntmps92
    go_wp2
    go_ret
    exact ⟨ret_bool HB.out.symm, by rw [HB2.out]; exact HD.out, Onl.refl _ _⟩
  | true =>
    rw [hl] at h2
    obtain ⟨p, hp⟩ : ∃ p, wrap64 (D.left - 1) = p := ⟨_, rfl⟩
    have HB : Hid (burnB D = decide (p < 0)) := Lib.hid (by rw [burnB, hl, hp]; rfl)
    have HB2 : Hid (burned D = { D with left := p }) := Lib.hid (by rw [burned, hl, hp]; rfl)
    have HE : Hid ((devL s D).set 3 (.int .i64 p) = devL s { D with left := p }) := Lib.hid rfl
    obtain ⟨x, hx⟩ : ∃ x, D.left = x := ⟨_, rfl⟩
    rw [hx] at h3 hp
    clear h hl hx
    go_enter Tryz.func92, Tryz.ntmps92
    go_wp2_with ((with_reducible refine R0.out.wpStore1K 3 3 (.int .i64 p) finfo_int HL.out (int_cells _ _) (int_one _ _) ?_ ?_); (simp only [storeOf, Act.eval]; exact congrArg (fun z => some (_, _, Value.int .i64 z)) hp); intro w1 r1 o1 s1; have D1 := Lib.hid (HD.out.put { D with left := p } (by rw [← HE.out]; exact r1) o1 rfl rfl rfl); have O1 := Lib.hid o1; have h31 := D1.out.c3; clear r1 o1 s1)
    go_ret
    exact ⟨ret_bool HB.out.symm, by rw [HB2.out]; exact D1.out, Onl.of_only O1.out s.b_mem⟩

theorem reach_any (fb : Int) (m : Int) (n : Nat) (w : World) (hn : n ≤ 1000) :
    Calls Tryz.prog 93 #[.agg #[.int .i64 fb, .int .u8 m], .int .i64 (n : Int)] w fun e w' => e = .returned (.int .i64 (reach fb n : Int)) ∧ Below w.heap.size w w' := by
  have hq0 := Int.lt_tmod_of_pos fb (b := (n : Int) + 1) (by omega)
  have hq1 := Int.tmod_lt_of_pos fb (b := (n : Int) + 1) (by omega)
  have hre := reach_eq fb n
  obtain ⟨q, hq⟩ : ∃ q, fb.tmod ((n : Int) + 1) = q := ⟨_, rfl⟩
  rw [hq] at hq0 hq1 hre
  have w1 : wrap64 ((n : Int) + 1) = (n : Int) + 1 := by unfold wrap64; omega
  have w2 : wrap64 (q + n) = q + n := by unfold wrap64; omega
  have w3 : wrap64 (q + n + 1) = q + n + 1 := by unfold wrap64; omega
  have hz : ¬ (n : Int) + 1 = 0 := by omega
  have hle := reach_le fb n
  obtain ⟨r, hr⟩ : ∃ r, reach fb n = r := ⟨_, rfl⟩
  rw [hr] at hre hle ⊢
  have w4 : wrap64 (q : Int) = q := by unfold wrap64; omega
  have w5 : wrap64 (r : Int) = r := by unfold wrap64; omega
  clear hr hle hn hq0 hq1
  go_enter Tryz.func93, Tryz.ntmps93
  go_wp2_with ((with_reducible refine wpBoxK [Value.int .i64 fb, .int .u8 m] 79 ?_ ?_); rfl; intro u1 r1 b1 s1; have c1 := r1.cell 0; have B1 := Lib.hid b1; clear r1 b1 s1)
  go_ret
  exact ⟨rfl, B1.out⟩
end Go.Proofs.YtbnjenbhpaknbaaGreat

/- Contracts of flash: what an erase and a program do with a byte. -/
namespace Go.Proofs.YtbnjenbhpaknbaaGreat
open Go.RowKit FlaMath
set_option linter.unusedVariables false
set_option maxRecDepth 100000

/-- What the functions that an erase makes have caught. -/
structure CapE (w : World) (s : Sh) (o n cp vb vd : Nat) : Prop where
  b : w.cell? ⟨vb, 0, none⟩ = some (.slice (some ⟨s.o1, o, none⟩) n cp)
  d : w.cell? ⟨vd, 0, none⟩ = some (.pointer (some ⟨s.b, 0, none⟩))
  lb : vb < w.heap.size
  ld : vd < w.heap.size
  nb : vb ∉ s.S
  nd : vd ∉ s.S
theorem cell_onl {w w' : World} {S : List Nat} {g : Nat} (o : Nat) (h : Onl S w w') (hg : g < w.heap.size) (hn : g ∉ S) : w'.cell? ⟨g, o, none⟩ = w.cell? ⟨g, o, none⟩ := World.cell?_of_block (a := ⟨g, o, none⟩) (h.2.2.2.2 g hg hn)
theorem CapE.onl {w w' : World} {s : Sh} {o n cp vb vd : Nat} (h : CapE w s o n cp vb vd) (ho : Onl s.S w w') : CapE w' s o n cp vb vd :=
  ⟨(cell_onl 0 ho h.lb h.nb).trans h.b, (cell_onl 0 ho h.ld h.nd).trans h.d, Nat.lt_of_lt_of_le h.lb ho.size, Nat.lt_of_lt_of_le h.ld ho.size, h.nb, h.nd⟩
structure CapP (w : World) (s : Sh) (o cp vb vp vd : Nat) (n : Nat) (t : ByteArray) : Prop where
  b : w.cell? ⟨vb, 0, none⟩ = some (.slice (some ⟨s.o1, o, none⟩) n cp)
  p : w.cell? ⟨vp, 0, none⟩ = some (.string t)
  d : w.cell? ⟨vd, 0, none⟩ = some (.pointer (some ⟨s.b, 0, none⟩))
  lb : vb < w.heap.size
  lp : vp < w.heap.size
  ld : vd < w.heap.size
  nb : vb ∉ s.S
  np : vp ∉ s.S
  nd : vd ∉ s.S
theorem CapP.onl {w w' : World} {s : Sh} {o cp vb vp vd n : Nat} {t : ByteArray} (h : CapP w s o cp vb vp vd n t) (ho : Onl s.S w w') : CapP w' s o cp vb vp vd n t :=
  ⟨(cell_onl 0 ho h.lb h.nb).trans h.b, (cell_onl 0 ho h.lp h.np).trans h.p, (cell_onl 0 ho h.ld h.nd).trans h.d, Nat.lt_of_lt_of_le h.lb ho.size, Nat.lt_of_lt_of_le h.lp ho.size, Nat.lt_of_lt_of_le h.ld ho.size, h.nb, h.np, h.nd⟩

theorem erase1_any (s : Sh) (D : Dv) (o n cp vb vd k : Nat) (w : World) (h : Dev w s D) (hv : CapE w s o n cp vb vd) (hk : k < n) (ho : o + k < D.C.length) :
    Calls Tryz.prog 76 #[.int .i64 (k : Int), .pointer (some ⟨vb, 0, none⟩)] w fun e w' => e = .returned (.tuple #[]) ∧ Dev w' s { D with C := D.C.set (o + k) (fE k D.C[o + k]) } ∧ Onl s.S w w' := by
  have hb := hv.b
  have e1 : (k : Int) < n := by omega
  have R0 : Hid (Row w s.o1 5 (bytes D.C ++ s.z1)) := Lib.hid h.c
  have HL : Hid (o + k < (bytes D.C ++ s.z1).length) := Lib.hid (by rw [List.length_append, bytes_length]; omega)
  have HD := Lib.hid h
  have HK := Lib.hid ho
  rw [show fE k D.C[o + k] = 255 from rfl]
  clear h hv ho
  go_enter Tryz.func76, Tryz.ntmps76
  go_wp2_with ((with_reducible refine R0.out.wpStore1K (o + k) 5 (.int .u8 255) finfo_byte HL.out (int_cells _ _) (int_one _ _) ?_ ?_); rfl; intro w1 r1 o1 s1; have D1 := Lib.hid (HD.out.setC (o + k) 255 HK.out r1 o1); have O1 := Lib.hid (Onl.of_only o1 s.o1_mem); clear r1 o1 s1)
  go_end0
  exact ⟨rfl, D1.out, O1.out⟩

theorem erase2_any (s : Sh) (D : Dv) (o n cp vb vd k : Nat) (w : World) (h : Dev w s D) (hv : CapE w s o n cp vb vd) (hk : k < n) (ho : o + k < D.C.length) :
    Calls Tryz.prog 77 #[.int .i64 (k : Int), .pointer (some ⟨vb, 0, none⟩), .pointer (some ⟨vd, 0, none⟩)] w fun e w' => e = .returned (.tuple #[]) ∧ Dev w' s { D with C := D.C.set (o + k) (gE D.fm k D.C[o + k]) } ∧ Onl s.S w w' := by
  have hb := hv.b
  have hd := hv.d
  have h1 := h.c1
  have hc := h.cc (o + k) ho
  have e1 : (k : Int) < n := by omega
  rw [show gE D.fm k D.C[o + k] = D.C[o + k] ||| D.fm from rfl]
  obtain ⟨x, hx⟩ : ∃ x, D.C[o + k] = x := ⟨_, rfl⟩
  obtain ⟨m, hm⟩ : ∃ m, D.fm = m := ⟨_, rfl⟩
  rw [hx] at hc ⊢
  rw [hm] at h1
  rw [show x ||| D.fm = x ||| m by rw [hm]]
  have hor := u8_or x m
  have R0 : Hid (Row w.drew s.o1 5 (bytes D.C ++ s.z1)) := Lib.hid h.c.drew
  have HL : Hid (o + k < (bytes D.C ++ s.z1).length) := Lib.hid (by rw [List.length_append, bytes_length]; omega)
  have HD : Hid (Dev w.drew s D) := Lib.hid (h.step ((Below.refl _ _).drew))
  have HO : Hid (Onl s.S w w.drew) := Lib.hid (Onl.of_below ((Below.refl _ _).drew))
  have HK := Lib.hid ho
  clear h hv ho hx hm
  go_enter Tryz.func77, Tryz.ntmps77
  go_wp2
  go_still_tail 12, (by kernel_rfl)
  change wpList _ _ _ _ _ w.drew
  generalize w.drew = wq at *
  go_wp2_with ((with_reducible refine R0.out.wpStore1K (o + k) 5 (.int .u8 ((x ||| m).toNat : Int)) finfo_byte HL.out (int_cells _ _) (int_one _ _) ?_ ?_); rfl; intro w1 r1 o1 s1; have D1 := Lib.hid (HD.out.setC (o + k) (x ||| m) HK.out r1 o1); have O1 := Lib.hid (HO.out.trans (Onl.of_only o1 s.o1_mem)); clear r1 o1 s1)
  go_end0
  exact ⟨rfl, D1.out, O1.out⟩

theorem prog1_any (s : Sh) (D : Dv) (o cp vb vp vd n : Nat) (t : ByteArray) (k : Nat) (w : World) (h : Dev w s D) (hv : CapP w s o cp vb vp vd n t) (hk : k < n) (hs : k < t.size) (ho : o + k < D.C.length) :
    Calls Tryz.prog 84 #[.int .i64 (k : Int), .pointer (some ⟨vb, 0, none⟩), .pointer (some ⟨vp, 0, none⟩)] w fun e w' => e = .returned (.tuple #[]) ∧ Dev w' s { D with C := D.C.set (o + k) (fP t.data.toList k D.C[o + k]) } ∧ Onl s.S w w' := by
  have hb := hv.b
  have hp := hv.p
  have hc := h.cc (o + k) ho
  have e1 : (k : Int) < n := by omega
  have e2 : (k : Int) < t.size := by omega
  have et : t.data.toList.getD k 0 = t[k] := by
    rw [List.getD_eq_getElem?_getD, List.getElem?_eq_getElem (by rw [size_list]; exact hs)]; rfl
  rw [show fP t.data.toList k D.C[o + k] = D.C[o + k] &&& t[k] by rw [fP, et]]
  obtain ⟨x, hx⟩ : ∃ x, D.C[o + k] = x := ⟨_, rfl⟩
  rw [hx] at hc ⊢
  have hor := u8_and x t[k]
  have R0 : Hid (Row w.drew s.o1 5 (bytes D.C ++ s.z1)) := Lib.hid h.c.drew
  have HL : Hid (o + k < (bytes D.C ++ s.z1).length) := Lib.hid (by rw [List.length_append, bytes_length]; omega)
  have HD : Hid (Dev w.drew s D) := Lib.hid (h.step ((Below.refl _ _).drew))
  have HO : Hid (Onl s.S w w.drew) := Lib.hid (Onl.of_below ((Below.refl _ _).drew))
  have HK := Lib.hid ho
  clear h hv ho hx et
  go_enter Tryz.func84, Tryz.ntmps84
  go_wp2
  go_still_tail 9, (by kernel_rfl)
  change wpList _ _ _ _ _ w.drew
  generalize w.drew = wq at *
  go_wp2_with ((with_reducible refine R0.out.wpStore1K (o + k) 5 (.int .u8 ((x &&& t[k]).toNat : Int)) finfo_byte HL.out (int_cells _ _) (int_one _ _) ?_ ?_); rfl; intro w1 r1 o1 s1; have D1 := Lib.hid (HD.out.setC (o + k) (x &&& t[k]) HK.out r1 o1); have O1 := Lib.hid (HO.out.trans (Onl.of_only o1 s.o1_mem)); clear r1 o1 s1)
  go_end0
  exact ⟨rfl, D1.out, O1.out⟩

theorem prog2_any (s : Sh) (D : Dv) (o cp vb vp vd n : Nat) (t : ByteArray) (k : Nat) (w : World) (h : Dev w s D) (hv : CapP w s o cp vb vp vd n t) (hk : k < n) (hs : k < t.size) (ho : o + k < D.C.length) :
    Calls Tryz.prog 85 #[.int .i64 (k : Int), .pointer (some ⟨vb, 0, none⟩), .pointer (some ⟨vp, 0, none⟩), .pointer (some ⟨vd, 0, none⟩)] w fun e w' => e = .returned (.tuple #[]) ∧ Dev w' s { D with C := D.C.set (o + k) (gP t.data.toList D.fm k D.C[o + k]) } ∧ Onl s.S w w' := by
  have hb := hv.b
  have hp := hv.p
  have hd := hv.d
  have h1 := h.c1
  have hc := h.cc (o + k) ho
  have e1 : (k : Int) < n := by omega
  have e2 : (k : Int) < t.size := by omega
  have et : t.data.toList.getD k 0 = t[k] := by
    rw [List.getD_eq_getElem?_getD, List.getElem?_eq_getElem (by rw [size_list]; exact hs)]; rfl
  rw [show gP t.data.toList D.fm k D.C[o + k] = D.C[o + k] &&& (t[k] ||| D.fm) by rw [gP, et]]
  obtain ⟨x, hx⟩ : ∃ x, D.C[o + k] = x := ⟨_, rfl⟩
  obtain ⟨m, hm⟩ : ∃ m, D.fm = m := ⟨_, rfl⟩
  rw [hx] at hc ⊢
  rw [hm] at h1
  rw [show x &&& (t[k] ||| D.fm) = x &&& (t[k] ||| m) by rw [hm]]
  have hor := u8_or t[k] m
  have han := u8_and x (t[k] ||| m)
  have han2 : bits .and .u8 (x.toNat : Int) ((t[k].toNat ||| m.toNat : Nat) : Int) = ((x &&& (t[k] ||| m)).toNat : Int) := by rw [← UInt8.toNat_or]; exact han
  obtain ⟨z, hz⟩ : ∃ z, x &&& (t[k] ||| m) = z := ⟨_, rfl⟩
  rw [hz] at han han2 ⊢
  have R0 : Hid (Row w.drew s.o1 5 (bytes D.C ++ s.z1)) := Lib.hid h.c.drew
  have HL : Hid (o + k < (bytes D.C ++ s.z1).length) := Lib.hid (by rw [List.length_append, bytes_length]; omega)
  have HD : Hid (Dev w.drew s D) := Lib.hid (h.step ((Below.refl _ _).drew))
  have HO : Hid (Onl s.S w w.drew) := Lib.hid (Onl.of_below ((Below.refl _ _).drew))
  have HK := Lib.hid ho
  clear h hv ho hx et hm hz
  go_enter Tryz.func85, Tryz.ntmps85
  go_wp2
  go_still_tail 16, (by kernel_rfl)
  change wpList _ _ _ _ _ w.drew
  generalize w.drew = wq at *
  go_wp2_with ((with_reducible refine R0.out.wpStore1K (o + k) 5 (.int .u8 (z.toNat : Int)) finfo_byte HL.out (int_cells _ _) (int_one _ _) ?_ ?_); rfl; intro w1 r1 o1 s1; have D1 := Lib.hid (HD.out.setC (o + k) z HK.out r1 o1); have O1 := Lib.hid (HO.out.trans (Onl.of_only o1 s.o1_mem)); clear r1 o1 s1)
  go_end0
  exact ⟨rfl, D1.out, O1.out⟩
end Go.Proofs.YtbnjenbhpaknbaaGreat

/- Contracts of flash: work. (gen_fla_work.py) -/
namespace Go.Proofs.YtbnjenbhpaknbaaGreat
open Go.RowKit FlaMath
set_option linter.unusedVariables false
set_option maxRecDepth 100000

/-- What an erase or a program of the bytes o .. makes of a device that is up. -/
def workD (D : Dv) (o n : Nat) (f g : Nat → UInt8 → UInt8) : Dv :=
  { burned D with ops := wrap64 (D.ops + 1), dn := burnB D, C := FlaMath.work D.C o n (if burnB D then reach D.fb n else n) f g }
theorem burned_C (D : Dv) : (burned D).C = D.C := by unfold burned; split <;> rfl
theorem burned_fm (D : Dv) : (burned D).fm = D.fm := by unfold burned; split <;> rfl
theorem burned_fb (D : Dv) : (burned D).fb = D.fb := by unfold burned; split <;> rfl
theorem burned_dn (D : Dv) : (burned D).dn = D.dn := by unfold burned; split <;> rfl
theorem burned_L (D : Dv) : (burned D).L = D.L := by unfold burned; split <;> rfl
theorem burned_E (D : Dv) : (burned D).E = D.E := by unfold burned; split <;> rfl
theorem burned_ops (D : Dv) (p : Int) : burned { D with ops := p } = { burned D with ops := p } := by unfold burned; cases h : D.lit <;> simp [h]
theorem dv_same {D D' : Dv} (h1 : D.fb = D'.fb) (h2 : D.fm = D'.fm) (h3 : D.lit = D'.lit) (h4 : D.left = D'.left) (h5 : D.C = D'.C) (h6 : D.L = D'.L) (h7 : D.E = D'.E) (h8 : D.ops = D'.ops) (h9 : D.dn = D'.dn) : D = D' := by
  cases D; cases D'; simp_all
theorem tornA (s : Sh) (D : Dv) : devL s D = [] ++ [Value.int .i64 D.fb, .int .u8 (D.fm.toNat : Int)] ++ (devL s D).drop 2 := rfl

set_option maxHeartbeats 1000000 in
theorem workE_false (s : Sh) (D : Dv) (o n cp vb vd : Nat) (w : World) (h : Dev w s D) (hv : CapE w s o n cp vb vd) (ho : o + n ≤ D.C.length) (hn : n ≤ 1000) (hB : burnB D = false) (hdn : D.dn = false) :
    Calls Tryz.prog 75 #[.pointer (some ⟨s.b, 0, none⟩), .int .i64 (n : Int), .func (.func 76) #[] #[.pointer (some ⟨vb, 0, none⟩)], .func (.func 77) #[] #[.pointer (some ⟨vb, 0, none⟩), .pointer (some ⟨vd, 0, none⟩)]] w
      fun e w' => e = .returned (.int .i64 (idl false)) ∧ Dev w' s (workD D o n fE (gE D.fm)) ∧ Onl s.S w w' := by
  obtain ⟨p, hp⟩ : ∃ p, wrap64 (D.ops + 1) = p := ⟨_, rfl⟩
  have h7 := h.c7
  have R0 : Hid (Row w s.b 85 (devL s D)) := Lib.hid h.row
  have HL : Hid (7 < (devL s D).length) := Lib.hid (by rw [devL_length]; decide)
  have HL8 : Hid (∀ D', 8 < (devL s D').length) := Lib.hid fun D' => by rw [devL_length]; decide
  have HD := Lib.hid h
  have HE : Hid ((devL s D).set 7 (.int .i64 p) = devL s { D with ops := p }) := Lib.hid rfl
  obtain ⟨D2, hD2⟩ : ∃ D2, D2 = burned { D with ops := p } := ⟨_, rfl⟩
  have HBU : Hid (∀ w1, Dev w1 s { D with ops := p } → Calls Tryz.prog 92 #[.pointer (some ⟨s.b, 0, none⟩)] w1 fun e w' => e = .returned (.bool false) ∧ Dev w' s D2 ∧ Onl s.S w1 w') := Lib.hid fun w1 h1 => by
    have := burn_any s _ w1 h1
    rw [← hD2, show burnB { D with ops := p } = false from hB] at this
    exact this
  obtain ⟨D3, hD3⟩ : ∃ D3, D3 = { D2 with dn := false } := ⟨_, rfl⟩
  have h3C : D3.C = D.C := by rw [hD3, hD2]; exact burned_C _
  have h2fb : D2.fb = D.fb := by rw [hD2]; exact burned_fb _
  have h3fm : D3.fm = D.fm := by rw [hD3, hD2]; exact burned_fm _
  have h3dn : D3.dn = false := by rw [hD3]
  have HD23 : Hid (D2 = D3) := Lib.hid (by rw [hD3]; have : D2.dn = false := by rw [hD2, burned_dn]; exact hdn
                                           cases D2; simp_all)
  obtain ⟨r, hr⟩ : ∃ r, (if burnB D then reach D.fb n else n) = r := ⟨_, rfl⟩
  have hrn : r = n := by rw [hB, if_neg (by simp)] at hr; exact hr.symm
  have hrle : r ≤ n := by omega
  have HF : Hid (∀ C, C = FlaMath.work D.C o n r fE (gE D.fm) → { D3 with C := C } = workD D o n fE (gE D.fm)) := Lib.hid fun C hC => by
    rw [hC, hD3, hD2, burned_ops, hp.symm, workD, hr, hB]
  have HOC : Hid (∀ wx, Onl s.S w wx → CapE wx s o n cp vb vd) := Lib.hid fun wx hx => hv.onl hx
  have H1 : Hid (∀ wx k, Dev wx s { D3 with C := prog D.C o k fE } → Onl s.S w wx → k < n → Calls Tryz.prog 76 #[.int .i64 (k : Int), .pointer (some ⟨vb, 0, none⟩)] wx fun e w' => e = .returned (.tuple #[]) ∧ Dev w' s { D3 with C := prog D.C o (k + 1) fE } ∧ Onl s.S wx w') := Lib.hid fun wx k h1 h2 h3 => by
    have hlt : o + k < D.C.length := by omega
    have hc : o + k < ({ D3 with C := prog D.C o k fE } : Dv).C.length := by show _ < (prog _ _ _ _).length; rw [prog_length]; exact hlt
    have := erase1_any s _ o n cp vb vd k wx h1 (HOC.out wx h2) h3 hc
    have e : ({ D3 with C := prog D.C o k fE } : Dv).C.set (o + k) (fE k ({ D3 with C := prog D.C o k fE } : Dv).C[o + k]) = prog D.C o (k + 1) fE := by
      show (prog D.C o k fE).set (o + k) (fE k ((prog D.C o k fE)[o + k])) = _
      rw [prog_at D.C o k _ hlt]
      exact prog_step D.C o k _ hlt
    rw [e] at this
    exact this
  have HID : Hid (∀ wx Dx, Dev wx s Dx → Dx.dn = false → Calls Tryz.prog 74 #[.pointer (some ⟨s.b, 0, none⟩)] wx fun e w' => e = .returned (.int .i64 (idl false)) ∧ wx = w') := Lib.hid fun wx Dx h1 h2 => by
    have := idle_any s Dx wx h1; rwa [h2] at this
  have HW : Hid ((workD D o n fE (gE D.fm)).dn = false) := Lib.hid hB
  have H3 : Hid (∀ wx, Dev wx s { D3 with C := prog D.C o n fE } → r = n → Dev wx s (workD D o n fE (gE D.fm))) := Lib.hid fun wx h1 hq => by
    rw [← HF.out _ rfl, FlaMath.work, if_neg (by omega), hq]; exact h1
  have H0 : Hid (Dev w s D → ∀ wx, Dev wx s D3 → Dev wx s { D3 with C := prog D.C o 0 fE }) := Lib.hid fun _ wx h1 => by rw [prog_zero, ← h3C]; exact h1
  have HR := Lib.hid hrle
  have HHV := Lib.hid hv
  have hrI : (r : Int) ≤ n := by omega
  have hrM : (r : Int) ≤ 1000 := by omega
  subst hrn
  clear h hv ho hn hB hdn hD2 hD3 h3C h2fb h3fm h3dn hr hrle
  go_enter Tryz.func75, Tryz.ntmps75
  go_wp2_with (first
    | ((with_reducible refine R0.out.wpStore1K 7 3 (.int .i64 p) finfo_int HL.out (int_cells _ _) (int_one _ _) ?_ ?_); (simp only [storeOf, Act.eval]; exact congrArg (fun z => some (_, _, Value.int .i64 z)) hp); intro w1 r1 o1 s1; have D1 := Lib.hid (HD.out.put { D with ops := p } (by rw [← HE.out]; exact r1) o1 rfl rfl rfl); have O1 := Lib.hid (Onl.of_only o1 s.b_mem); clear r1 o1 s1)
    | (go_at_call 92; (with_reducible refine (HBU.out w1 D1.out).mono ?_); rintro e w2 ⟨rfl, d2, o2⟩; have D2' := Lib.hid d2; have R2 := Lib.hid d2.row; have O2 := Lib.hid (O1.out.trans o2); clear d2 o2)
    )
  go_loopw [34] (fun x wr => ∃ k : Nat, k ≤ r ∧ x = .int .i64 k ∧ Dev wr s { D3 with C := prog D.C o k fE } ∧ Onl s.S w wr) (fun x _ => r - (intOf x).toNat)
  case atStart => exact ⟨0, Nat.zero_le _, rfl, H0.out HD.out _ (by rw [← HD23.out]; exact D2'.out), O2.out⟩
  case round =>
    obtain ⟨k, hk, rfl, hd, hoo⟩ := hrel
    by_cases hlt : k < r
    · have e1 : (k : Int) < r := by omega
      have ew : wrap64 ((k : Int) + 1) = (k : Int) + 1 := by unfold wrap64; omega
      have HC := Lib.hid (H1.out wr k hd hoo (by have := HR.out; omega))
      have HO := Lib.hid hoo
      clear hd hoo
      go_wp2_with (go_at_call 76; (with_reducible refine HC.out.mono ?_); rintro e w5 ⟨rfl, d5, o5⟩; have D5 := Lib.hid d5; have O5 := Lib.hid (HO.out.trans o5); clear d5 o5)
      go_roundw
      case rel => exact ⟨k + 1, by omega, by go_num, D5.out, O5.out⟩
      case measure => simp [intOf]; omega
    · have ek : k = r := by omega
      subst ek
      have D5 : Hid (Dev wr s (workD D o k fE (gE D.fm))) := Lib.hid (H3.out wr hd (by simp))
      have HI5 := Lib.hid (HID.out wr _ D5.out HW.out)
      have HO := Lib.hid hoo
      clear hd hoo
      go_wp2_with (go_at_call 74; (with_reducible refine HI5.out.mono ?_); rintro e w6 ⟨rfl, rfl⟩)
      go_ret
      exact ⟨rfl, D5.out, HO.out⟩

set_option maxHeartbeats 1000000 in
theorem workE_true (s : Sh) (D : Dv) (o n cp vb vd : Nat) (w : World) (h : Dev w s D) (hv : CapE w s o n cp vb vd) (ho : o + n ≤ D.C.length) (hn : n ≤ 1000) (hB : burnB D = true) (hdn : D.dn = false) :
    Calls Tryz.prog 75 #[.pointer (some ⟨s.b, 0, none⟩), .int .i64 (n : Int), .func (.func 76) #[] #[.pointer (some ⟨vb, 0, none⟩)], .func (.func 77) #[] #[.pointer (some ⟨vb, 0, none⟩), .pointer (some ⟨vd, 0, none⟩)]] w
      fun e w' => e = .returned (.int .i64 (idl true)) ∧ Dev w' s (workD D o n fE (gE D.fm)) ∧ Onl s.S w w' := by
  obtain ⟨p, hp⟩ : ∃ p, wrap64 (D.ops + 1) = p := ⟨_, rfl⟩
  have h7 := h.c7
  have R0 : Hid (Row w s.b 85 (devL s D)) := Lib.hid h.row
  have HL : Hid (7 < (devL s D).length) := Lib.hid (by rw [devL_length]; decide)
  have HL8 : Hid (∀ D', 8 < (devL s D').length) := Lib.hid fun D' => by rw [devL_length]; decide
  have HD := Lib.hid h
  have HE : Hid ((devL s D).set 7 (.int .i64 p) = devL s { D with ops := p }) := Lib.hid rfl
  obtain ⟨D2, hD2⟩ : ∃ D2, D2 = burned { D with ops := p } := ⟨_, rfl⟩
  have HBU : Hid (∀ w1, Dev w1 s { D with ops := p } → Calls Tryz.prog 92 #[.pointer (some ⟨s.b, 0, none⟩)] w1 fun e w' => e = .returned (.bool true) ∧ Dev w' s D2 ∧ Onl s.S w1 w') := Lib.hid fun w1 h1 => by
    have := burn_any s _ w1 h1
    rw [← hD2, show burnB { D with ops := p } = true from hB] at this
    exact this
  obtain ⟨D3, hD3⟩ : ∃ D3, D3 = { D2 with dn := true } := ⟨_, rfl⟩
  have h3C : D3.C = D.C := by rw [hD3, hD2]; exact burned_C _
  have h2fb : D2.fb = D.fb := by rw [hD2]; exact burned_fb _
  have h3fm : D3.fm = D.fm := by rw [hD3, hD2]; exact burned_fm _
  have h3dn : D3.dn = true := by rw [hD3]
  have HD23 : Hid ({ D2 with dn := true } = D3) := Lib.hid hD3.symm
  obtain ⟨r, hr⟩ : ∃ r, (if burnB D then reach D.fb n else n) = r := ⟨_, rfl⟩
  have hrr : reach D.fb n = r := by rw [hB, if_pos rfl] at hr; exact hr
  have hrle : r ≤ n := by rw [← hrr]; exact reach_le _ _
  have HF : Hid (∀ C, C = FlaMath.work D.C o n r fE (gE D.fm) → { D3 with C := C } = workD D o n fE (gE D.fm)) := Lib.hid fun C hC => by
    rw [hC, hD3, hD2, burned_ops, hp.symm, workD, hr, hB]
  have HE8 : Hid (∀ w3, Row w3 s.b 85 ((devL s D2).set 8 (.bool true)) → Row w3 s.b 85 (devL s { D2 with dn := true })) := Lib.hid fun w3 h3 => h3
  have HE9 : Hid (∀ w3, Row w3 s.b 85 ((devL s D2).set 8 (.bool true)) → Row w3 s.b 85 ([] ++ [Value.int .i64 D2.fb, .int .u8 (D2.fm.toNat : Int)] ++ (devL s { D2 with dn := true }).drop 2)) := Lib.hid fun w3 h3 => h3
  have HRE : Hid (∀ w1, Calls Tryz.prog 93 #[.agg #[.int .i64 D2.fb, .int .u8 (D2.fm.toNat : Int)], .int .i64 (n : Int)] w1 fun e w' => e = .returned (.int .i64 (r : Int)) ∧ Below w1.heap.size w1 w') := Lib.hid fun w1 => by
    have := reach_any D2.fb (D2.fm.toNat : Int) n w1 hn
    have e : reach D2.fb n = r := by rw [h2fb]; exact hrr
    rw [e] at this
    exact this
  have HOC : Hid (∀ wx, Onl s.S w wx → CapE wx s o n cp vb vd) := Lib.hid fun wx hx => hv.onl hx
  have H1 : Hid (∀ wx k, Dev wx s { D3 with C := prog D.C o k fE } → Onl s.S w wx → k < n → Calls Tryz.prog 76 #[.int .i64 (k : Int), .pointer (some ⟨vb, 0, none⟩)] wx fun e w' => e = .returned (.tuple #[]) ∧ Dev w' s { D3 with C := prog D.C o (k + 1) fE } ∧ Onl s.S wx w') := Lib.hid fun wx k h1 h2 h3 => by
    have hlt : o + k < D.C.length := by omega
    have hc : o + k < ({ D3 with C := prog D.C o k fE } : Dv).C.length := by show _ < (prog _ _ _ _).length; rw [prog_length]; exact hlt
    have := erase1_any s _ o n cp vb vd k wx h1 (HOC.out wx h2) h3 hc
    have e : ({ D3 with C := prog D.C o k fE } : Dv).C.set (o + k) (fE k ({ D3 with C := prog D.C o k fE } : Dv).C[o + k]) = prog D.C o (k + 1) fE := by
      show (prog D.C o k fE).set (o + k) (fE k ((prog D.C o k fE)[o + k])) = _
      rw [prog_at D.C o k _ hlt]
      exact prog_step D.C o k _ hlt
    rw [e] at this
    exact this
  have H2 : Hid (∀ wx, Dev wx s { D3 with C := prog D.C o r fE } → Onl s.S w wx → r < n → Calls Tryz.prog 77 #[.int .i64 (r : Int), .pointer (some ⟨vb, 0, none⟩), .pointer (some ⟨vd, 0, none⟩)] wx fun e w' => e = .returned (.tuple #[]) ∧ Dev w' s (workD D o n fE (gE D.fm)) ∧ Onl s.S wx w') := Lib.hid fun wx h1 h2 h3 => by
    have hlt : o + r < D.C.length := by omega
    have hc : o + r < ({ D3 with C := prog D.C o r fE } : Dv).C.length := by show _ < (prog _ _ _ _).length; rw [prog_length]; exact hlt
    have := erase2_any s _ o n cp vb vd r wx h1 (HOC.out wx h2) h3 hc
    have e : ({ D3 with C := prog D.C o r fE } : Dv).C.set (o + r) (gE D3.fm r ({ D3 with C := prog D.C o r fE } : Dv).C[o + r]) = FlaMath.work D.C o n r fE (gE D.fm) := by
      show (prog D.C o r fE).set (o + r) (gE D3.fm r ((prog D.C o r fE)[o + r])) = _
      rw [prog_at D.C o r _ hlt, FlaMath.work, if_pos h3, h3fm, List.getD_eq_getElem?_getD, List.getElem?_eq_getElem hlt]; rfl
    rw [e] at this
    refine this.mono ?_
    rintro e w' ⟨rfl, d, o⟩
    exact ⟨rfl, by rw [← HF.out _ rfl]; exact d, o⟩
  have HID : Hid (∀ wx Dx, Dev wx s Dx → Dx.dn = true → Calls Tryz.prog 74 #[.pointer (some ⟨s.b, 0, none⟩)] wx fun e w' => e = .returned (.int .i64 (idl true)) ∧ wx = w') := Lib.hid fun wx Dx h1 h2 => by
    have := idle_any s Dx wx h1; rwa [h2] at this
  have HW : Hid ((workD D o n fE (gE D.fm)).dn = true) := Lib.hid hB
  have H3 : Hid (∀ wx, Dev wx s { D3 with C := prog D.C o n fE } → r = n → Dev wx s (workD D o n fE (gE D.fm))) := Lib.hid fun wx h1 hq => by
    rw [← HF.out _ rfl, FlaMath.work, if_neg (by omega), hq]; exact h1
  have H0 : Hid (Dev w s D → ∀ wx, Dev wx s D3 → Dev wx s { D3 with C := prog D.C o 0 fE }) := Lib.hid fun _ wx h1 => by rw [prog_zero, ← h3C]; exact h1
  have HR := Lib.hid hrle
  have HHV := Lib.hid hv
  have hrI : (r : Int) ≤ n := by omega
  have hrM : (r : Int) ≤ 1000 := by omega
  clear h hv ho hn hB hdn hD2 hD3 h3C h2fb h3fm h3dn hr hrle
  go_enter Tryz.func75, Tryz.ntmps75
  go_wp2_with (first
    | ((with_reducible refine R0.out.wpStore1K 7 3 (.int .i64 p) finfo_int HL.out (int_cells _ _) (int_one _ _) ?_ ?_); (simp only [storeOf, Act.eval]; exact congrArg (fun z => some (_, _, Value.int .i64 z)) hp); intro w1 r1 o1 s1; have D1 := Lib.hid (HD.out.put { D with ops := p } (by rw [← HE.out]; exact r1) o1 rfl rfl rfl); have O1 := Lib.hid (Onl.of_only o1 s.b_mem); clear r1 o1 s1)
    | (go_at_call 92; (with_reducible refine (HBU.out w1 D1.out).mono ?_); rintro e w2 ⟨rfl, d2, o2⟩; have D2' := Lib.hid d2; have R2 := Lib.hid d2.row; have O2 := Lib.hid (O1.out.trans o2); clear d2 o2)
    | ((with_reducible refine R2.out.wpStore1K 8 4 (.bool true) finfo_bool (HL8.out D2) (bool_cells _) (bool_one _) ?_ ?_); rfl; intro w3 r3 o3 s3; have D3' := Lib.hid (D2'.out.put { D2 with dn := true } (HE8.out w3 r3) o3 rfl rfl rfl); have R3 : Hid (Row w3 s.b 85 ([] ++ [Value.int .i64 D2.fb, .int .u8 (D2.fm.toNat : Int)] ++ (devL s { D2 with dn := true }).drop 2)) := Lib.hid (HE9.out w3 r3); have O3 := Lib.hid (O2.out.trans (Onl.of_only o3 s.b_mem)); clear r3 o3 s3)
    | ((with_reducible refine R3.out.wpLoadMidK 0 rfl 79 fits_torn rfl ?_ ?_); rfl)
    | (go_at_call 93; (with_reducible refine (HRE.out w3).mono ?_); rintro e w4 ⟨rfl, b4⟩; have D4 := Lib.hid (D3'.out.step b4); have O4 := Lib.hid (O3.out.step b4); clear b4)
    )
  go_loopw [34] (fun x wr => ∃ k : Nat, k ≤ r ∧ x = .int .i64 k ∧ Dev wr s { D3 with C := prog D.C o k fE } ∧ Onl s.S w wr) (fun x _ => r - (intOf x).toNat)
  case atStart => exact ⟨0, Nat.zero_le _, rfl, H0.out HD.out _ (by rw [← HD23.out]; exact D4.out), O4.out⟩
  case round =>
    obtain ⟨k, hk, rfl, hd, hoo⟩ := hrel
    by_cases hlt : k < r
    · have e1 : (k : Int) < r := by omega
      have ew : wrap64 ((k : Int) + 1) = (k : Int) + 1 := by unfold wrap64; omega
      have HC := Lib.hid (H1.out wr k hd hoo (by have := HR.out; omega))
      have HO := Lib.hid hoo
      clear hd hoo
      go_wp2_with (go_at_call 76; (with_reducible refine HC.out.mono ?_); rintro e w5 ⟨rfl, d5, o5⟩; have D5 := Lib.hid d5; have O5 := Lib.hid (HO.out.trans o5); clear d5 o5)
      go_roundw
      case rel => exact ⟨k + 1, by omega, by go_num, D5.out, O5.out⟩
      case measure => simp [intOf]; omega
    · have ek : k = r := by omega
      subst ek
      by_cases hkn : k < n
      · have e1 : (k : Int) < n := by omega
        have HC := Lib.hid (H2.out wr hd hoo hkn)
        have HO := Lib.hid hoo
        clear hd hoo
        go_wp2_with (first
          | (go_at_call 77; (with_reducible refine HC.out.mono ?_); rintro e w5 ⟨rfl, d5, o5⟩; have D5 := Lib.hid d5; have O5 := Lib.hid (HO.out.trans o5); have HI5 := Lib.hid (HID.out w5 _ d5 HW.out); clear d5 o5)
          | (go_at_call 74; (with_reducible refine HI5.out.mono ?_); rintro e w6 ⟨rfl, rfl⟩))
        go_ret
        exact ⟨rfl, D5.out, O5.out⟩
      · have ekn : k = n := by have := HR.out; omega
        have e2 : ¬ (k : Int) < n := by omega
        have D5 : Hid (Dev wr s (workD D o n fE (gE D.fm))) := Lib.hid (H3.out wr (by rw [← ekn]; exact hd) ekn)
        have HI5 := Lib.hid (HID.out wr _ D5.out HW.out)
        have HO := Lib.hid hoo
        clear hd hoo ekn
        go_wp2_with (go_at_call 74; (with_reducible refine HI5.out.mono ?_); rintro e w6 ⟨rfl, rfl⟩)
        go_ret
        exact ⟨rfl, D5.out, HO.out⟩

theorem workE_any (s : Sh) (D : Dv) (o n cp vb vd : Nat) (w : World) (h : Dev w s D) (hv : CapE w s o n cp vb vd) (ho : o + n ≤ D.C.length) (hn : n ≤ 1000) (hdn : D.dn = false) :
    Calls Tryz.prog 75 #[.pointer (some ⟨s.b, 0, none⟩), .int .i64 (n : Int), .func (.func 76) #[] #[.pointer (some ⟨vb, 0, none⟩)], .func (.func 77) #[] #[.pointer (some ⟨vb, 0, none⟩), .pointer (some ⟨vd, 0, none⟩)]] w
      fun e w' => e = .returned (.int .i64 (idl (burnB D))) ∧ Dev w' s (workD D o n fE (gE D.fm)) ∧ Onl s.S w w' := by
  cases hB : burnB D with
  | false => exact workE_false s D o n cp vb vd w h hv ho hn hB hdn
  | true => exact workE_true s D o n cp vb vd w h hv ho hn hB hdn

set_option maxHeartbeats 1000000 in
theorem workP_false (s : Sh) (D : Dv) (o n cp vb vp vd q : Nat) (t : ByteArray) (w : World) (h : Dev w s D) (hv : CapP w s o cp vb vp vd q t) (ho : o + n ≤ D.C.length) (hn : n ≤ 1000) (ht : n ≤ t.size) (hq : n ≤ q) (hB : burnB D = false) (hdn : D.dn = false) :
    Calls Tryz.prog 75 #[.pointer (some ⟨s.b, 0, none⟩), .int .i64 (n : Int), .func (.func 84) #[] #[.pointer (some ⟨vb, 0, none⟩), .pointer (some ⟨vp, 0, none⟩)], .func (.func 85) #[] #[.pointer (some ⟨vb, 0, none⟩), .pointer (some ⟨vp, 0, none⟩), .pointer (some ⟨vd, 0, none⟩)]] w
      fun e w' => e = .returned (.int .i64 (idl false)) ∧ Dev w' s (workD D o n (fP t.data.toList) (gP t.data.toList D.fm)) ∧ Onl s.S w w' := by
  obtain ⟨p, hp⟩ : ∃ p, wrap64 (D.ops + 1) = p := ⟨_, rfl⟩
  have h7 := h.c7
  have R0 : Hid (Row w s.b 85 (devL s D)) := Lib.hid h.row
  have HL : Hid (7 < (devL s D).length) := Lib.hid (by rw [devL_length]; decide)
  have HL8 : Hid (∀ D', 8 < (devL s D').length) := Lib.hid fun D' => by rw [devL_length]; decide
  have HD := Lib.hid h
  have HE : Hid ((devL s D).set 7 (.int .i64 p) = devL s { D with ops := p }) := Lib.hid rfl
  obtain ⟨D2, hD2⟩ : ∃ D2, D2 = burned { D with ops := p } := ⟨_, rfl⟩
  have HBU : Hid (∀ w1, Dev w1 s { D with ops := p } → Calls Tryz.prog 92 #[.pointer (some ⟨s.b, 0, none⟩)] w1 fun e w' => e = .returned (.bool false) ∧ Dev w' s D2 ∧ Onl s.S w1 w') := Lib.hid fun w1 h1 => by
    have := burn_any s _ w1 h1
    rw [← hD2, show burnB { D with ops := p } = false from hB] at this
    exact this
  obtain ⟨D3, hD3⟩ : ∃ D3, D3 = { D2 with dn := false } := ⟨_, rfl⟩
  have h3C : D3.C = D.C := by rw [hD3, hD2]; exact burned_C _
  have h2fb : D2.fb = D.fb := by rw [hD2]; exact burned_fb _
  have h3fm : D3.fm = D.fm := by rw [hD3, hD2]; exact burned_fm _
  have h3dn : D3.dn = false := by rw [hD3]
  have HD23 : Hid (D2 = D3) := Lib.hid (by rw [hD3]; have : D2.dn = false := by rw [hD2, burned_dn]; exact hdn
                                           cases D2; simp_all)
  obtain ⟨r, hr⟩ : ∃ r, (if burnB D then reach D.fb n else n) = r := ⟨_, rfl⟩
  have hrn : r = n := by rw [hB, if_neg (by simp)] at hr; exact hr.symm
  have hrle : r ≤ n := by omega
  have HF : Hid (∀ C, C = FlaMath.work D.C o n r (fP t.data.toList) (gP t.data.toList D.fm) → { D3 with C := C } = workD D o n (fP t.data.toList) (gP t.data.toList D.fm)) := Lib.hid fun C hC => by
    rw [hC, hD3, hD2, burned_ops, hp.symm, workD, hr, hB]
  have HOC : Hid (∀ wx, Onl s.S w wx → CapP wx s o cp vb vp vd q t) := Lib.hid fun wx hx => hv.onl hx
  have H1 : Hid (∀ wx k, Dev wx s { D3 with C := prog D.C o k (fP t.data.toList) } → Onl s.S w wx → k < n → Calls Tryz.prog 84 #[.int .i64 (k : Int), .pointer (some ⟨vb, 0, none⟩), .pointer (some ⟨vp, 0, none⟩)] wx fun e w' => e = .returned (.tuple #[]) ∧ Dev w' s { D3 with C := prog D.C o (k + 1) (fP t.data.toList) } ∧ Onl s.S wx w') := Lib.hid fun wx k h1 h2 h3 => by
    have hlt : o + k < D.C.length := by omega
    have hc : o + k < ({ D3 with C := prog D.C o k (fP t.data.toList) } : Dv).C.length := by show _ < (prog _ _ _ _).length; rw [prog_length]; exact hlt
    have := prog1_any s _ o cp vb vp vd q t k wx h1 (HOC.out wx h2) (by omega) (by omega) hc
    have e : ({ D3 with C := prog D.C o k (fP t.data.toList) } : Dv).C.set (o + k) ((fP t.data.toList) k ({ D3 with C := prog D.C o k (fP t.data.toList) } : Dv).C[o + k]) = prog D.C o (k + 1) (fP t.data.toList) := by
      show (prog D.C o k (fP t.data.toList)).set (o + k) ((fP t.data.toList) k ((prog D.C o k (fP t.data.toList))[o + k])) = _
      rw [prog_at D.C o k _ hlt]
      exact prog_step D.C o k _ hlt
    rw [e] at this
    exact this
  have HID : Hid (∀ wx Dx, Dev wx s Dx → Dx.dn = false → Calls Tryz.prog 74 #[.pointer (some ⟨s.b, 0, none⟩)] wx fun e w' => e = .returned (.int .i64 (idl false)) ∧ wx = w') := Lib.hid fun wx Dx h1 h2 => by
    have := idle_any s Dx wx h1; rwa [h2] at this
  have HW : Hid ((workD D o n (fP t.data.toList) (gP t.data.toList D.fm)).dn = false) := Lib.hid hB
  have H3 : Hid (∀ wx, Dev wx s { D3 with C := prog D.C o n (fP t.data.toList) } → r = n → Dev wx s (workD D o n (fP t.data.toList) (gP t.data.toList D.fm))) := Lib.hid fun wx h1 hq => by
    rw [← HF.out _ rfl, FlaMath.work, if_neg (by omega), hq]; exact h1
  have H0 : Hid (Dev w s D → ∀ wx, Dev wx s D3 → Dev wx s { D3 with C := prog D.C o 0 (fP t.data.toList) }) := Lib.hid fun _ wx h1 => by rw [prog_zero, ← h3C]; exact h1
  have HR := Lib.hid hrle
  have HHV := Lib.hid hv
  have hrI : (r : Int) ≤ n := by omega
  have hrM : (r : Int) ≤ 1000 := by omega
  subst hrn
  clear h hv ho hn hB hdn hD2 hD3 h3C h2fb h3fm h3dn hr hrle ht hq
  go_enter Tryz.func75, Tryz.ntmps75
  go_wp2_with (first
    | ((with_reducible refine R0.out.wpStore1K 7 3 (.int .i64 p) finfo_int HL.out (int_cells _ _) (int_one _ _) ?_ ?_); (simp only [storeOf, Act.eval]; exact congrArg (fun z => some (_, _, Value.int .i64 z)) hp); intro w1 r1 o1 s1; have D1 := Lib.hid (HD.out.put { D with ops := p } (by rw [← HE.out]; exact r1) o1 rfl rfl rfl); have O1 := Lib.hid (Onl.of_only o1 s.b_mem); clear r1 o1 s1)
    | (go_at_call 92; (with_reducible refine (HBU.out w1 D1.out).mono ?_); rintro e w2 ⟨rfl, d2, o2⟩; have D2' := Lib.hid d2; have R2 := Lib.hid d2.row; have O2 := Lib.hid (O1.out.trans o2); clear d2 o2)
    )
  go_loopw [34] (fun x wr => ∃ k : Nat, k ≤ r ∧ x = .int .i64 k ∧ Dev wr s { D3 with C := prog D.C o k (fP t.data.toList) } ∧ Onl s.S w wr) (fun x _ => r - (intOf x).toNat)
  case atStart => exact ⟨0, Nat.zero_le _, rfl, H0.out HD.out _ (by rw [← HD23.out]; exact D2'.out), O2.out⟩
  case round =>
    obtain ⟨k, hk, rfl, hd, hoo⟩ := hrel
    by_cases hlt : k < r
    · have e1 : (k : Int) < r := by omega
      have ew : wrap64 ((k : Int) + 1) = (k : Int) + 1 := by unfold wrap64; omega
      have HC := Lib.hid (H1.out wr k hd hoo (by have := HR.out; omega))
      have HO := Lib.hid hoo
      clear hd hoo
      go_wp2_with (go_at_call 84; (with_reducible refine HC.out.mono ?_); rintro e w5 ⟨rfl, d5, o5⟩; have D5 := Lib.hid d5; have O5 := Lib.hid (HO.out.trans o5); clear d5 o5)
      go_roundw
      case rel => exact ⟨k + 1, by omega, by go_num, D5.out, O5.out⟩
      case measure => simp [intOf]; omega
    · have ek : k = r := by omega
      subst ek
      have D5 : Hid (Dev wr s (workD D o k (fP t.data.toList) (gP t.data.toList D.fm))) := Lib.hid (H3.out wr hd (by simp))
      have HI5 := Lib.hid (HID.out wr _ D5.out HW.out)
      have HO := Lib.hid hoo
      clear hd hoo
      go_wp2_with (go_at_call 74; (with_reducible refine HI5.out.mono ?_); rintro e w6 ⟨rfl, rfl⟩)
      go_ret
      exact ⟨rfl, D5.out, HO.out⟩

set_option maxHeartbeats 1000000 in
theorem workP_true (s : Sh) (D : Dv) (o n cp vb vp vd q : Nat) (t : ByteArray) (w : World) (h : Dev w s D) (hv : CapP w s o cp vb vp vd q t) (ho : o + n ≤ D.C.length) (hn : n ≤ 1000) (ht : n ≤ t.size) (hq : n ≤ q) (hB : burnB D = true) (hdn : D.dn = false) :
    Calls Tryz.prog 75 #[.pointer (some ⟨s.b, 0, none⟩), .int .i64 (n : Int), .func (.func 84) #[] #[.pointer (some ⟨vb, 0, none⟩), .pointer (some ⟨vp, 0, none⟩)], .func (.func 85) #[] #[.pointer (some ⟨vb, 0, none⟩), .pointer (some ⟨vp, 0, none⟩), .pointer (some ⟨vd, 0, none⟩)]] w
      fun e w' => e = .returned (.int .i64 (idl true)) ∧ Dev w' s (workD D o n (fP t.data.toList) (gP t.data.toList D.fm)) ∧ Onl s.S w w' := by
  obtain ⟨p, hp⟩ : ∃ p, wrap64 (D.ops + 1) = p := ⟨_, rfl⟩
  have h7 := h.c7
  have R0 : Hid (Row w s.b 85 (devL s D)) := Lib.hid h.row
  have HL : Hid (7 < (devL s D).length) := Lib.hid (by rw [devL_length]; decide)
  have HL8 : Hid (∀ D', 8 < (devL s D').length) := Lib.hid fun D' => by rw [devL_length]; decide
  have HD := Lib.hid h
  have HE : Hid ((devL s D).set 7 (.int .i64 p) = devL s { D with ops := p }) := Lib.hid rfl
  obtain ⟨D2, hD2⟩ : ∃ D2, D2 = burned { D with ops := p } := ⟨_, rfl⟩
  have HBU : Hid (∀ w1, Dev w1 s { D with ops := p } → Calls Tryz.prog 92 #[.pointer (some ⟨s.b, 0, none⟩)] w1 fun e w' => e = .returned (.bool true) ∧ Dev w' s D2 ∧ Onl s.S w1 w') := Lib.hid fun w1 h1 => by
    have := burn_any s _ w1 h1
    rw [← hD2, show burnB { D with ops := p } = true from hB] at this
    exact this
  obtain ⟨D3, hD3⟩ : ∃ D3, D3 = { D2 with dn := true } := ⟨_, rfl⟩
  have h3C : D3.C = D.C := by rw [hD3, hD2]; exact burned_C _
  have h2fb : D2.fb = D.fb := by rw [hD2]; exact burned_fb _
  have h3fm : D3.fm = D.fm := by rw [hD3, hD2]; exact burned_fm _
  have h3dn : D3.dn = true := by rw [hD3]
  have HD23 : Hid ({ D2 with dn := true } = D3) := Lib.hid hD3.symm
  obtain ⟨r, hr⟩ : ∃ r, (if burnB D then reach D.fb n else n) = r := ⟨_, rfl⟩
  have hrr : reach D.fb n = r := by rw [hB, if_pos rfl] at hr; exact hr
  have hrle : r ≤ n := by rw [← hrr]; exact reach_le _ _
  have HF : Hid (∀ C, C = FlaMath.work D.C o n r (fP t.data.toList) (gP t.data.toList D.fm) → { D3 with C := C } = workD D o n (fP t.data.toList) (gP t.data.toList D.fm)) := Lib.hid fun C hC => by
    rw [hC, hD3, hD2, burned_ops, hp.symm, workD, hr, hB]
  have HE8 : Hid (∀ w3, Row w3 s.b 85 ((devL s D2).set 8 (.bool true)) → Row w3 s.b 85 (devL s { D2 with dn := true })) := Lib.hid fun w3 h3 => h3
  have HE9 : Hid (∀ w3, Row w3 s.b 85 ((devL s D2).set 8 (.bool true)) → Row w3 s.b 85 ([] ++ [Value.int .i64 D2.fb, .int .u8 (D2.fm.toNat : Int)] ++ (devL s { D2 with dn := true }).drop 2)) := Lib.hid fun w3 h3 => h3
  have HRE : Hid (∀ w1, Calls Tryz.prog 93 #[.agg #[.int .i64 D2.fb, .int .u8 (D2.fm.toNat : Int)], .int .i64 (n : Int)] w1 fun e w' => e = .returned (.int .i64 (r : Int)) ∧ Below w1.heap.size w1 w') := Lib.hid fun w1 => by
    have := reach_any D2.fb (D2.fm.toNat : Int) n w1 hn
    have e : reach D2.fb n = r := by rw [h2fb]; exact hrr
    rw [e] at this
    exact this
  have HOC : Hid (∀ wx, Onl s.S w wx → CapP wx s o cp vb vp vd q t) := Lib.hid fun wx hx => hv.onl hx
  have H1 : Hid (∀ wx k, Dev wx s { D3 with C := prog D.C o k (fP t.data.toList) } → Onl s.S w wx → k < n → Calls Tryz.prog 84 #[.int .i64 (k : Int), .pointer (some ⟨vb, 0, none⟩), .pointer (some ⟨vp, 0, none⟩)] wx fun e w' => e = .returned (.tuple #[]) ∧ Dev w' s { D3 with C := prog D.C o (k + 1) (fP t.data.toList) } ∧ Onl s.S wx w') := Lib.hid fun wx k h1 h2 h3 => by
    have hlt : o + k < D.C.length := by omega
    have hc : o + k < ({ D3 with C := prog D.C o k (fP t.data.toList) } : Dv).C.length := by show _ < (prog _ _ _ _).length; rw [prog_length]; exact hlt
    have := prog1_any s _ o cp vb vp vd q t k wx h1 (HOC.out wx h2) (by omega) (by omega) hc
    have e : ({ D3 with C := prog D.C o k (fP t.data.toList) } : Dv).C.set (o + k) ((fP t.data.toList) k ({ D3 with C := prog D.C o k (fP t.data.toList) } : Dv).C[o + k]) = prog D.C o (k + 1) (fP t.data.toList) := by
      show (prog D.C o k (fP t.data.toList)).set (o + k) ((fP t.data.toList) k ((prog D.C o k (fP t.data.toList))[o + k])) = _
      rw [prog_at D.C o k _ hlt]
      exact prog_step D.C o k _ hlt
    rw [e] at this
    exact this
  have H2 : Hid (∀ wx, Dev wx s { D3 with C := prog D.C o r (fP t.data.toList) } → Onl s.S w wx → r < n → Calls Tryz.prog 85 #[.int .i64 (r : Int), .pointer (some ⟨vb, 0, none⟩), .pointer (some ⟨vp, 0, none⟩), .pointer (some ⟨vd, 0, none⟩)] wx fun e w' => e = .returned (.tuple #[]) ∧ Dev w' s (workD D o n (fP t.data.toList) (gP t.data.toList D.fm)) ∧ Onl s.S wx w') := Lib.hid fun wx h1 h2 h3 => by
    have hlt : o + r < D.C.length := by omega
    have hc : o + r < ({ D3 with C := prog D.C o r (fP t.data.toList) } : Dv).C.length := by show _ < (prog _ _ _ _).length; rw [prog_length]; exact hlt
    have := prog2_any s _ o cp vb vp vd q t r wx h1 (HOC.out wx h2) (by omega) (by omega) hc
    have e : ({ D3 with C := prog D.C o r (fP t.data.toList) } : Dv).C.set (o + r) (gP t.data.toList D3.fm r ({ D3 with C := prog D.C o r (fP t.data.toList) } : Dv).C[o + r]) = FlaMath.work D.C o n r (fP t.data.toList) (gP t.data.toList D.fm) := by
      show (prog D.C o r (fP t.data.toList)).set (o + r) (gP t.data.toList D3.fm r ((prog D.C o r (fP t.data.toList))[o + r])) = _
      rw [prog_at D.C o r _ hlt, FlaMath.work, if_pos h3, h3fm, List.getD_eq_getElem?_getD, List.getElem?_eq_getElem hlt]; rfl
    rw [e] at this
    refine this.mono ?_
    rintro e w' ⟨rfl, d, o⟩
    exact ⟨rfl, by rw [← HF.out _ rfl]; exact d, o⟩
  have HID : Hid (∀ wx Dx, Dev wx s Dx → Dx.dn = true → Calls Tryz.prog 74 #[.pointer (some ⟨s.b, 0, none⟩)] wx fun e w' => e = .returned (.int .i64 (idl true)) ∧ wx = w') := Lib.hid fun wx Dx h1 h2 => by
    have := idle_any s Dx wx h1; rwa [h2] at this
  have HW : Hid ((workD D o n (fP t.data.toList) (gP t.data.toList D.fm)).dn = true) := Lib.hid hB
  have H3 : Hid (∀ wx, Dev wx s { D3 with C := prog D.C o n (fP t.data.toList) } → r = n → Dev wx s (workD D o n (fP t.data.toList) (gP t.data.toList D.fm))) := Lib.hid fun wx h1 hq => by
    rw [← HF.out _ rfl, FlaMath.work, if_neg (by omega), hq]; exact h1
  have H0 : Hid (Dev w s D → ∀ wx, Dev wx s D3 → Dev wx s { D3 with C := prog D.C o 0 (fP t.data.toList) }) := Lib.hid fun _ wx h1 => by rw [prog_zero, ← h3C]; exact h1
  have HR := Lib.hid hrle
  have HHV := Lib.hid hv
  have hrI : (r : Int) ≤ n := by omega
  have hrM : (r : Int) ≤ 1000 := by omega
  clear h hv ho hn hB hdn hD2 hD3 h3C h2fb h3fm h3dn hr hrle ht hq
  go_enter Tryz.func75, Tryz.ntmps75
  go_wp2_with (first
    | ((with_reducible refine R0.out.wpStore1K 7 3 (.int .i64 p) finfo_int HL.out (int_cells _ _) (int_one _ _) ?_ ?_); (simp only [storeOf, Act.eval]; exact congrArg (fun z => some (_, _, Value.int .i64 z)) hp); intro w1 r1 o1 s1; have D1 := Lib.hid (HD.out.put { D with ops := p } (by rw [← HE.out]; exact r1) o1 rfl rfl rfl); have O1 := Lib.hid (Onl.of_only o1 s.b_mem); clear r1 o1 s1)
    | (go_at_call 92; (with_reducible refine (HBU.out w1 D1.out).mono ?_); rintro e w2 ⟨rfl, d2, o2⟩; have D2' := Lib.hid d2; have R2 := Lib.hid d2.row; have O2 := Lib.hid (O1.out.trans o2); clear d2 o2)
    | ((with_reducible refine R2.out.wpStore1K 8 4 (.bool true) finfo_bool (HL8.out D2) (bool_cells _) (bool_one _) ?_ ?_); rfl; intro w3 r3 o3 s3; have D3' := Lib.hid (D2'.out.put { D2 with dn := true } (HE8.out w3 r3) o3 rfl rfl rfl); have R3 : Hid (Row w3 s.b 85 ([] ++ [Value.int .i64 D2.fb, .int .u8 (D2.fm.toNat : Int)] ++ (devL s { D2 with dn := true }).drop 2)) := Lib.hid (HE9.out w3 r3); have O3 := Lib.hid (O2.out.trans (Onl.of_only o3 s.b_mem)); clear r3 o3 s3)
    | ((with_reducible refine R3.out.wpLoadMidK 0 rfl 79 fits_torn rfl ?_ ?_); rfl)
    | (go_at_call 93; (with_reducible refine (HRE.out w3).mono ?_); rintro e w4 ⟨rfl, b4⟩; have D4 := Lib.hid (D3'.out.step b4); have O4 := Lib.hid (O3.out.step b4); clear b4)
    )
  go_loopw [34] (fun x wr => ∃ k : Nat, k ≤ r ∧ x = .int .i64 k ∧ Dev wr s { D3 with C := prog D.C o k (fP t.data.toList) } ∧ Onl s.S w wr) (fun x _ => r - (intOf x).toNat)
  case atStart => exact ⟨0, Nat.zero_le _, rfl, H0.out HD.out _ (by rw [← HD23.out]; exact D4.out), O4.out⟩
  case round =>
    obtain ⟨k, hk, rfl, hd, hoo⟩ := hrel
    by_cases hlt : k < r
    · have e1 : (k : Int) < r := by omega
      have ew : wrap64 ((k : Int) + 1) = (k : Int) + 1 := by unfold wrap64; omega
      have HC := Lib.hid (H1.out wr k hd hoo (by have := HR.out; omega))
      have HO := Lib.hid hoo
      clear hd hoo
      go_wp2_with (go_at_call 84; (with_reducible refine HC.out.mono ?_); rintro e w5 ⟨rfl, d5, o5⟩; have D5 := Lib.hid d5; have O5 := Lib.hid (HO.out.trans o5); clear d5 o5)
      go_roundw
      case rel => exact ⟨k + 1, by omega, by go_num, D5.out, O5.out⟩
      case measure => simp [intOf]; omega
    · have ek : k = r := by omega
      subst ek
      by_cases hkn : k < n
      · have e1 : (k : Int) < n := by omega
        have HC := Lib.hid (H2.out wr hd hoo hkn)
        have HO := Lib.hid hoo
        clear hd hoo
        go_wp2_with (first
          | (go_at_call 85; (with_reducible refine HC.out.mono ?_); rintro e w5 ⟨rfl, d5, o5⟩; have D5 := Lib.hid d5; have O5 := Lib.hid (HO.out.trans o5); have HI5 := Lib.hid (HID.out w5 _ d5 HW.out); clear d5 o5)
          | (go_at_call 74; (with_reducible refine HI5.out.mono ?_); rintro e w6 ⟨rfl, rfl⟩))
        go_ret
        exact ⟨rfl, D5.out, O5.out⟩
      · have ekn : k = n := by have := HR.out; omega
        have e2 : ¬ (k : Int) < n := by omega
        have D5 : Hid (Dev wr s (workD D o n (fP t.data.toList) (gP t.data.toList D.fm))) := Lib.hid (H3.out wr (by rw [← ekn]; exact hd) ekn)
        have HI5 := Lib.hid (HID.out wr _ D5.out HW.out)
        have HO := Lib.hid hoo
        clear hd hoo ekn
        go_wp2_with (go_at_call 74; (with_reducible refine HI5.out.mono ?_); rintro e w6 ⟨rfl, rfl⟩)
        go_ret
        exact ⟨rfl, D5.out, HO.out⟩

theorem workP_any (s : Sh) (D : Dv) (o n cp vb vp vd q : Nat) (t : ByteArray) (w : World) (h : Dev w s D) (hv : CapP w s o cp vb vp vd q t) (ho : o + n ≤ D.C.length) (hn : n ≤ 1000) (ht : n ≤ t.size) (hq : n ≤ q) (hdn : D.dn = false) :
    Calls Tryz.prog 75 #[.pointer (some ⟨s.b, 0, none⟩), .int .i64 (n : Int), .func (.func 84) #[] #[.pointer (some ⟨vb, 0, none⟩), .pointer (some ⟨vp, 0, none⟩)], .func (.func 85) #[] #[.pointer (some ⟨vb, 0, none⟩), .pointer (some ⟨vp, 0, none⟩), .pointer (some ⟨vd, 0, none⟩)]] w
      fun e w' => e = .returned (.int .i64 (idl (burnB D))) ∧ Dev w' s (workD D o n (fP t.data.toList) (gP t.data.toList D.fm)) ∧ Onl s.S w w' := by
  cases hB : burnB D with
  | false => exact workP_false s D o n cp vb vp vd q t w h hv ho hn ht hq hB hdn
  | true => exact workP_true s D o n cp vb vp vd q t w h hv ho hn ht hq hB hdn
end Go.Proofs.YtbnjenbhpaknbaaGreat

/- Contracts of flash: Erase. -/
namespace Go.Proofs.YtbnjenbhpaknbaaGreat
open Go.RowKit FlaMath
set_option linter.unusedVariables false
set_option maxRecDepth 100000

section
variable {P : Program}
theorem wpBox1K {ops : Array Oper} {rest : List Oper} {o : Oper} {a : Act} {w : World} {Q : Exit → Act → World → Prop} (v : Value) (ty : TypeId) (hv : v.cells = #[v]) (hb : boxOf o a = some (ty, v))
    (k : ∀ w', Row w' w.heap.size ty [v] → Below w.heap.size w w' → w'.heap.size = w.heap.size + 1 → wpList P ops Q rest (a.put o.dst (.pointer (some ⟨w.heap.size, 0, none⟩))) w') : wpList P ops Q (o :: rest) a w := by
  obtain ⟨hgd, x, ho, hx⟩ := boxOf_spec hb
  exact wpList_plain hgd fun _ hK => by
    unfold Oper.wp execOp
    simp only [ho, hx, Instr.box, newVar, hv]
    simp [go_sem]
    exact hK _ _ (k _ (Row.new w ty [v]) ((Below.refl _ _).alloc (Nat.le_refl _) _) (by simp))
theorem wpAlloc1K {ops : Array Oper} {rest : List Oper} {o : Oper} {a : Act} {w : World} {Q : Exit → Act → World → Prop} (z : Value) (ty : TypeId) (hv : z.cells = #[z]) (hz : ∀ u, (zeroValue ty).run P u = .ok z u) (ho : allocOf o = some ty)
    (k : ∀ w', Row w' w.heap.size ty [z] → Below w.heap.size w w' → w'.heap.size = w.heap.size + 1 → wpList P ops Q rest (a.put o.dst (.pointer (some ⟨w.heap.size, 0, none⟩))) w') : wpList P ops Q (o :: rest) a w := by
  obtain ⟨hgd, ho⟩ := allocOf_spec ho
  exact wpList_plain hgd fun _ hK => by
    have h := hz w
    unfold Oper.wp execOp
    simp only [ho, Instr.alloc, Sem.run_bind, h, Result.andThen_ok, newVar, hv]
    simp [go_sem]
    exact hK _ _ (k _ (Row.new w ty [z]) ((Below.refl _ _).alloc (Nat.le_refl _) _) (by simp))
end
theorem zero_bytes : ∀ u, (zeroValue 76).run Tryz.prog u = .ok (.slice none 0 0) u := fun u => by kernel_rfl
theorem finfo_bytes : (Tryz.prog.info? 76).map (·.size) = some 1 := by kernel_rfl
theorem slice_cells (p : Option Addr) (n c : Nat) : (Value.slice p n c).cells = #[.slice p n c] := rfl
theorem slice_one (p : Option Addr) (n c : Nat) : (Value.slice p n c).oneCell' = true := rfl
theorem ptr_cells (p : Option Addr) : (Value.pointer p).cells = #[.pointer p] := rfl
theorem fstr_cells (t : ByteArray) : (Value.string t).cells = #[.string t] := rfl

theorem erase_nil (i : Int) (w : World) : Calls Tryz.prog 51 #[.pointer none, .int .i64 i] w fun e w' => e = .returned (.int .i64 1) ∧ Below w.heap.size w w' := by
  have HX := Lib.hid idle_nil
  go_enter Tryz.func51, Tryz.ntmps51
  go_wp2_with (first
    | ((with_reducible refine wpBox1K (.pointer none) 27 (ptr_cells _) ?_ ?_); rfl; intro w1 r1 b1 s1; have c1 := r1.cell 0; have B1 := Lib.hid b1; clear r1 b1 s1)
    | (go_at_call 74; (with_reducible refine (HX.out w1).mono ?_); rintro e u1 ⟨rfl, rfl⟩))
  go_ret
  exact ⟨rfl, B1.out⟩

/-- Whether an erase is done, or torn. -/
def eraseB (D : Dv) (i : Int) : Bool := !D.dn && decide (0 ≤ i ∧ i < D.L.length) && !D.L.getD i.toNat false
def eraseE (D : Dv) (i : Int) : Int := if D.dn then 5 else if 0 ≤ i ∧ i < D.L.length then (if D.L.getD i.toNat false then 4 else idl (burnB D)) else 2
def worn (D : Dv) (i : Nat) : Dv := { D with E := D.E.set i (wrap64 (D.E.getD i 0 + 1)) }
def eraseD (D : Dv) (i : Int) : Dv := if eraseB D i then workD (worn D i.toNat) (i.toNat * 64) 64 fE (gE D.fm) else D

theorem erase_down (s : Sh) (D : Dv) (i : Int) (w : World) (h : Dev w s D) (hd : D.dn = true) :
    Calls Tryz.prog 51 #[.pointer (some ⟨s.b, 0, none⟩), .int .i64 i] w fun e w' => e = .returned (.int .i64 5) ∧ Below w.heap.size w w' := by
  have HX : Hid (∀ w1, Below w.heap.size w w1 → Calls Tryz.prog 74 #[.pointer (some ⟨s.b, 0, none⟩)] w1 fun e w' => e = .returned (.int .i64 5) ∧ w1 = w') := Lib.hid fun w1 hb => by
    have := idle_any s D w1 (h.step hb); rwa [hd] at this
  clear h hd
  go_enter Tryz.func51, Tryz.ntmps51
  go_wp2_with (first
    | ((with_reducible refine wpBox1K (.pointer (some ⟨s.b, 0, none⟩)) 27 (ptr_cells _) ?_ ?_); rfl; intro w1 r1 b1 s1; have c1 := r1.cell 0; have B1 := Lib.hid b1; clear r1 b1 s1)
    | (go_at_call 74; (with_reducible refine (HX.out w1 B1.out).mono ?_); rintro e u1 ⟨rfl, rfl⟩))
  go_ret
  exact ⟨rfl, B1.out⟩
theorem erase_out (s : Sh) (D : Dv) (i : Int) (w : World) (h : Dev w s D) (hd : D.dn = false) (hi : ¬ (0 ≤ i ∧ i < D.L.length)) :
    Calls Tryz.prog 51 #[.pointer (some ⟨s.b, 0, none⟩), .int .i64 i] w fun e w' => e = .returned (.int .i64 2) ∧ Below w.heap.size w w' := by
  have HX : Hid (∀ w1, Below w.heap.size w w1 → Calls Tryz.prog 74 #[.pointer (some ⟨s.b, 0, none⟩)] w1 fun e w' => e = .returned (.int .i64 0) ∧ w1 = w') := Lib.hid fun w1 hb => by
    have := idle_any s D w1 (h.step hb); rwa [hd] at this
  have HY : Hid (∀ w1, Below w.heap.size w w1 → Calls Tryz.prog 63 #[.pointer (some ⟨s.b, 0, none⟩), .int .i64 i] w1 fun e w' => e = .returned (.bool false) ∧ w1 = w') := Lib.hid fun w1 hb => by
    have := has_any s D i w1 (h.step hb); rwa [decide_eq_false hi] at this
  clear h hd hi
  go_enter Tryz.func51, Tryz.ntmps51
  go_wp2_with (first
    | ((with_reducible refine wpBox1K (.pointer (some ⟨s.b, 0, none⟩)) 27 (ptr_cells _) ?_ ?_); rfl; intro w1 r1 b1 s1; have c1 := r1.cell 0; have B1 := Lib.hid b1; clear r1 b1 s1)
    | (go_at_call 74; (with_reducible refine (HX.out w1 B1.out).mono ?_); rintro e u1 ⟨rfl, rfl⟩)
    | (go_at_call 63; (with_reducible refine (HY.out w1 B1.out).mono ?_); rintro e u1 ⟨rfl, rfl⟩))
  go_ret
  exact ⟨rfl, B1.out⟩
theorem erase_locked (s : Sh) (D : Dv) (i : Nat) (w : World) (h : Dev w s D) (hd : D.dn = false) (hi : i < D.L.length) (hl : D.L.getD i false = true) :
    Calls Tryz.prog 51 #[.pointer (some ⟨s.b, 0, none⟩), .int .i64 (i : Int)] w fun e w' => e = .returned (.int .i64 4) ∧ Below w.heap.size w w' := by
  have HX : Hid (∀ w1, Below w.heap.size w w1 → Calls Tryz.prog 74 #[.pointer (some ⟨s.b, 0, none⟩)] w1 fun e w' => e = .returned (.int .i64 0) ∧ w1 = w') := Lib.hid fun w1 hb => by
    have := idle_any s D w1 (h.step hb); rwa [hd] at this
  have HY : Hid (∀ w1, Below w.heap.size w w1 → Calls Tryz.prog 63 #[.pointer (some ⟨s.b, 0, none⟩), .int .i64 (i : Int)] w1 fun e w' => e = .returned (.bool true) ∧ w1 = w') := Lib.hid fun w1 hb => by
    have := has_any s D i w1 (h.step hb); rwa [decide_eq_true (by omega)] at this
  have H5 : Hid (∀ w1, Below w.heap.size w w1 → w1.cell? ⟨s.b, 5, none⟩ = some (.slice (some ⟨s.o2, 0, none⟩) D.L.length s.k2)) := Lib.hid fun w1 hb => (h.step hb).c5
  have H6 : Hid (∀ w1, Below w.heap.size w w1 → w1.cell? ⟨s.o2, i, none⟩ = some (.bool true)) := Lib.hid fun w1 hb => by
    have := (h.step hb).cl i hi
    rwa [show D.L[i] = true by rw [List.getD_eq_getElem?_getD, List.getElem?_eq_getElem hi] at hl; exact hl] at this
  have e1 : (i : Int) < D.L.length := by omega
  obtain ⟨n, hn⟩ : ∃ n, D.L.length = n := ⟨_, rfl⟩
  rw [hn] at e1 H5
  clear h hd hi hl hn
  go_enter Tryz.func51, Tryz.ntmps51
  go_wp2_with (first
    | ((with_reducible refine wpBox1K (.pointer (some ⟨s.b, 0, none⟩)) 27 (ptr_cells _) ?_ ?_); rfl; intro w1 r1 b1 s1; have c1 := r1.cell 0; have c5 := H5.out w1 b1; have c6 := H6.out w1 b1; have B1 := Lib.hid b1; clear r1 b1 s1)
    | (go_at_call 74; (with_reducible refine (HX.out w1 B1.out).mono ?_); rintro e u1 ⟨rfl, rfl⟩)
    | (go_at_call 63; (with_reducible refine (HY.out w1 B1.out).mono ?_); rintro e u1 ⟨rfl, rfl⟩))
  go_ret
  exact ⟨rfl, B1.out⟩
theorem not_mem_new {w : World} {s : Sh} {D : Dv} (h : Dev w s D) {k : Nat} (hk : w.heap.size ≤ k) : k ∉ s.S := fun hm => by have := h.lt k hm; omega
set_option maxHeartbeats 1000000 in
theorem erase_good (s : Sh) (D : Dv) (i : Nat) (w : World) (h : Dev w s D) (hd : D.dn = false) (hi : i < D.L.length) (hl : D.L.getD i false = false) :
    Calls Tryz.prog 51 #[.pointer (some ⟨s.b, 0, none⟩), .int .i64 (i : Int)] w fun e w' => e = .returned (.int .i64 (idl (burnB D))) ∧ Dev w' s (workD (worn D i) (i * 64) 64 fE (gE D.fm)) ∧ Onl s.S w w' := by
  have HX : Hid (∀ w1, Below w.heap.size w w1 → Calls Tryz.prog 74 #[.pointer (some ⟨s.b, 0, none⟩)] w1 fun e w' => e = .returned (.int .i64 0) ∧ w1 = w') := Lib.hid fun w1 hb => by
    have := idle_any s D w1 (h.step hb); rwa [hd] at this
  have HY : Hid (∀ w1, Below w.heap.size w w1 → Calls Tryz.prog 63 #[.pointer (some ⟨s.b, 0, none⟩), .int .i64 (i : Int)] w1 fun e w' => e = .returned (.bool true) ∧ w1 = w') := Lib.hid fun w1 hb => by
    have := has_any s D i w1 (h.step hb); rwa [decide_eq_true (by omega)] at this
  have H5 : Hid (∀ w1, Below w.heap.size w w1 → w1.cell? ⟨s.b, 5, none⟩ = some (.slice (some ⟨s.o2, 0, none⟩) D.L.length s.k2)) := Lib.hid fun w1 hb => (h.step hb).c5
  have H6 : Hid (∀ w1, Below w.heap.size w w1 → w1.cell? ⟨s.o2, i, none⟩ = some (.bool false)) := Lib.hid fun w1 hb => by
    have := (h.step hb).cl i hi
    rwa [show D.L[i] = false by rw [List.getD_eq_getElem?_getD, List.getElem?_eq_getElem hi] at hl; exact hl] at this
  have hiE : i < D.E.length := by rw [h.ok.worn]; exact hi
  have H7 : Hid (∀ w1, Below w.heap.size w w1 → w1.cell? ⟨s.b, 6, none⟩ = some (.slice (some ⟨s.o3, 0, none⟩) D.E.length s.k3)) := Lib.hid fun w1 hb => (h.step hb).c6
  have H8 : Hid (∀ w1, Below w.heap.size w w1 → w1.cell? ⟨s.o3, i, none⟩ = some (.int .i64 D.E[i])) := Lib.hid fun w1 hb => (h.step hb).ce i hiE
  obtain ⟨x, hx⟩ : ∃ x, D.E[i] = x := ⟨_, rfl⟩
  obtain ⟨p, hp⟩ : ∃ p, wrap64 (x + 1) = p := ⟨_, rfl⟩
  have hwo : ({ D with E := D.E.set i p } : Dv) = worn D i := by
    rw [worn, List.getD_eq_getElem?_getD, List.getElem?_eq_getElem hiE, ← hp, ← hx]; rfl
  have HSE : Hid (∀ w1 w2, Below w.heap.size w w1 → Row w2 s.o3 3 ((ints D.E ++ s.z3).set i (.int .i64 p)) → Only s.o3 w1 w2 → Dev w2 s (worn D i)) := Lib.hid fun w1 w2 hb hr ho => by
    rw [← hwo]; exact (h.step hb).setE i p hiE hr ho
  rw [hx] at H8
  have RE : Hid (∀ w1, Below w.heap.size w w1 → Row w1 s.o3 3 (ints D.E ++ s.z3)) := Lib.hid fun w1 hb => (h.step hb).e
  have HLE : Hid (i < (ints D.E ++ s.z3).length) := Lib.hid (by rw [List.length_append, ints_length]; omega)
  have HSC : Hid (∀ w2, Dev w2 s (worn D i) → Calls Tryz.prog 64 #[.pointer (some ⟨s.b, 0, none⟩), .int .i64 (i : Int)] w2 fun e w' => e = .returned (.slice (some ⟨s.o1, i * 64, none⟩) 64 (s.k1 - i * 64)) ∧ w2 = w') := Lib.hid fun w2 h2 => fla_sector_any s _ i w2 h2 hi
  have hcl := h.ok.cells
  have HWK : Hid (∀ w4 vb vd cp, Dev w4 s (worn D i) → CapE w4 s (i * 64) 64 cp vb vd → Calls Tryz.prog 75 #[.pointer (some ⟨s.b, 0, none⟩), .int .i64 64, .func (.func 76) #[] #[.pointer (some ⟨vb, 0, none⟩)], .func (.func 77) #[] #[.pointer (some ⟨vb, 0, none⟩), .pointer (some ⟨vd, 0, none⟩)]] w4
      fun e w' => e = .returned (.int .i64 (idl (burnB D))) ∧ Dev w' s (workD (worn D i) (i * 64) 64 fE (gE D.fm)) ∧ Onl s.S w4 w') := Lib.hid fun w4 vb vd cp h4 hv => workE_any s (worn D i) (i * 64) 64 cp vb vd w4 h4 hv (by show _ ≤ D.C.length; omega) (by omega) hd
  have HNV : Hid (∀ k, w.heap.size ≤ k → k ∉ s.S) := Lib.hid fun k hk => not_mem_new h hk
  have HO3 : Hid (s.o3 < w.heap.size) := Lib.hid h.e.lt
  have e1 : (i : Int) < D.L.length := by omega
  have e2 : (i : Int) < D.E.length := by omega
  obtain ⟨n, hn⟩ : ∃ n, D.L.length = n := ⟨_, rfl⟩
  rw [hn] at e1 H5
  obtain ⟨m, hm⟩ : ∃ m, D.E.length = m := ⟨_, rfl⟩
  rw [hm] at e2 H7
  have hmf : ∀ (fn : Fn) (first cap : Array Value) (w : World), (Instr.makeFunc fn first cap).run Tryz.prog w = .ok (.func fn first cap) w := fun _ _ _ _ => rfl
  obtain ⟨c, hc⟩ : ∃ c, s.k1 - i * 64 = c := ⟨_, rfl⟩
  obtain ⟨of, hof⟩ : ∃ of, i * 64 = of := ⟨_, rfl⟩
  rw [hc, hof] at HSC
  rw [hof] at HWK ⊢
  clear h hd hi hl hn hm hcl hwo hx hiE hc hof
  go_enter Tryz.func51, Tryz.ntmps51
  go_wp2_with (first
    | ((with_reducible refine wpBox1K (.pointer (some ⟨s.b, 0, none⟩)) 27 (ptr_cells _) ?_ ?_); rfl; intro w1 r1 b1 s1; have c1 := r1.cell 0; have c5 := H5.out w1 b1; have c6 := H6.out w1 b1; have c7 := H7.out w1 b1; have c8 := H8.out w1 b1; have R1 := Lib.hid r1; have RE1 := Lib.hid (RE.out w1 b1); have B1 := Lib.hid b1; clear r1 b1 s1)
    | (go_at_call 74; (with_reducible refine (HX.out w1 B1.out).mono ?_); rintro e u1 ⟨rfl, rfl⟩)
    | (go_at_call 63; (with_reducible refine (HY.out w1 B1.out).mono ?_); rintro e u1 ⟨rfl, rfl⟩)
    | ((with_reducible refine RE1.out.wpStore1K i 3 (.int .i64 p) finfo_int HLE.out (int_cells _ _) (int_one _ _) ?_ ?_); (simp only [storeOf, Act.eval]; exact congrArg (fun z => some (_, _, Value.int .i64 z)) hp); intro w2 r2 o2 s2; have D2 := Lib.hid (HSE.out w1 w2 B1.out r2 o2); have R2 := Lib.hid (R1.out.only o2 (by have := HO3.out; omega)); have O2 := Lib.hid ((Onl.of_below (S := s.S) B1.out).trans (Onl.of_only o2 s.o3_mem)); have c12 := R2.out.cell 0; clear r2 o2 s2)
    | (go_at_call 64; (with_reducible refine (HSC.out w2 D2.out).mono ?_); rintro e u1 ⟨rfl, rfl⟩)
    | ((with_reducible refine wpAlloc1K (.slice none 0 0) 76 (slice_cells _ _ _) zero_bytes ?_ ?_); rfl; intro w3 r3 b3 s3; have D3 := Lib.hid (D2.out.step b3); have R3 := Lib.hid (R2.out.step b3); have RB3 := Lib.hid r3; have O3 := Lib.hid (O2.out.step b3); clear r3 b3 s3)
    | ((with_reducible refine RB3.out.wpStore1K 0 76 (.slice (some ⟨s.o1, of, none⟩) 64 c) finfo_bytes (by decide) (slice_cells _ _ _) (slice_one _ _ _) ?_ ?_); rfl; intro w4 r4 o4 s4; have D4 := Lib.hid (D3.out.onl (S := [w2.heap.size]) (Onl.of_only o4 (by simp)) (fun k hk hq => by have := D2.out.lt k hk; simp at hq; omega)); have R4 := Lib.hid (R3.out.only o4 (by have := R2.out.lt; omega)); have RB4 : Hid (Row w4 w2.heap.size 76 [.slice (some ⟨s.o1, of, none⟩) 64 c]) := Lib.hid r4; have O4 := Lib.hid (O3.out.only o4 (Or.inr O2.out.size)); have c14 := R4.out.cell 0; have c24 := RB4.out.cell 0; have CP : Hid (CapE w4 s of 64 c w2.heap.size w.heap.size) := Lib.hid ⟨c24, c14, RB4.out.lt, R4.out.lt, HNV.out _ O2.out.size, HNV.out _ (Nat.le_refl _)⟩; clear r4 o4 s4)
    | (go_at_call 75; (with_reducible refine (HWK.out w4 _ _ _ D4.out CP.out).mono ?_); rintro e w5 ⟨rfl, d5, o5⟩; have D5 := Lib.hid d5; have O5 := Lib.hid (O4.out.trans o5); clear d5 o5))
  go_ret
  exact ⟨rfl, D5.out, O5.out⟩
theorem fla_erase_any (s : Sh) (D : Dv) (i : Int) (w : World) (h : Dev w s D) :
    Calls Tryz.prog 51 #[.pointer (some ⟨s.b, 0, none⟩), .int .i64 i] w fun e w' => e = .returned (.int .i64 (eraseE D i)) ∧ Dev w' s (eraseD D i) ∧ Onl s.S w w' := by
  cases hd : D.dn with
  | true =>
    refine (erase_down s D i w h hd).mono ?_
    rintro e w' ⟨rfl, hb⟩
    exact ⟨by rw [eraseE, hd]; rfl, by rw [eraseD, eraseB, hd]; exact h.step hb, Onl.of_below hb⟩
  | false =>
    by_cases hi : 0 ≤ i ∧ i < D.L.length
    · obtain ⟨j, rfl⟩ : ∃ j : Nat, i = j := ⟨i.toNat, by omega⟩
      cases hl : D.L.getD j false with
      | true =>
        refine (erase_locked s D j w h hd (by omega) hl).mono ?_
        rintro e w' ⟨rfl, hb⟩
        have hE : eraseB D (j : Int) = false := by rw [eraseB, hd, Int.toNat_natCast, hl]; simp
        exact ⟨by rw [eraseE, hd, if_pos hi, Int.toNat_natCast, hl]; rfl, by rw [eraseD, hE]; exact h.step hb, Onl.of_below hb⟩
      | false =>
        refine (erase_good s D j w h hd (by omega) hl).mono ?_
        rintro e w' ⟨rfl, h1, h2⟩
        have hE : eraseB D (j : Int) = true := by rw [eraseB, hd, Int.toNat_natCast, hl, decide_eq_true hi]; rfl
        exact ⟨by rw [eraseE, hd, if_pos hi, Int.toNat_natCast, hl]; rfl, by rw [eraseD, if_pos hE, Int.toNat_natCast]; exact h1, h2⟩
    · refine (erase_out s D i w h hd hi).mono ?_
      rintro e w' ⟨rfl, hb⟩
      have hE : eraseB D i = false := by rw [eraseB, decide_eq_false hi]; simp
      exact ⟨by rw [eraseE, hd, if_neg hi]; rfl, by rw [eraseD, hE]; exact h.step hb, Onl.of_below hb⟩
end Go.Proofs.YtbnjenbhpaknbaaGreat

/- Contracts of flash: Program. -/
namespace Go.Proofs.YtbnjenbhpaknbaaGreat
open Go.RowKit FlaMath
set_option linter.unusedVariables false
set_option maxRecDepth 100000

theorem program_nil (x : Int) (t : ByteArray) (w : World) : Calls Tryz.prog 60 #[.pointer none, .int .i64 x, .string t] w fun e w' => e = .returned (.int .i64 1) ∧ Below w.heap.size w w' := by
  have HX := Lib.hid idle_nil
  go_enter Tryz.func60, Tryz.ntmps60
  go_wp2_with (first
    | ((with_reducible refine wpBox1K (.pointer none) 27 (ptr_cells _) ?_ ?_); rfl; intro w1 r1 b1 s1; have R1 := Lib.hid r1; have B1 := Lib.hid b1; clear r1 b1 s1)
    | ((with_reducible refine wpBox1K (.string t) 9 (fstr_cells _) ?_ ?_); rfl; intro w2 r2 b2 s2; have c1 := (R1.out.step b2).cell 0; have B2 := Lib.hid (B1.out.next b2); clear r2 b2 s2)
    | (go_at_call 74; (with_reducible refine (HX.out w2).mono ?_); rintro e u1 ⟨rfl, rfl⟩))
  go_ret
  exact ⟨rfl, B2.out⟩

/-- Whether a program is done, or torn. -/
def programE (D : Dv) (x : Int) (l : List UInt8) : Int :=
  if D.dn then 5 else if x.tmod 16 ≠ 0 ∨ l.length ≠ 16 then 3 else if bey D.C.length x 16 then 2 else if D.L.getD (x.toNat / 64) false then 4 else idl (burnB D)
def programB (D : Dv) (x : Int) (l : List UInt8) : Bool := !D.dn && !(decide (x.tmod 16 ≠ 0 ∨ l.length ≠ 16)) && !(bey D.C.length x 16) && !(D.L.getD (x.toNat / 64) false)
def programD (D : Dv) (x : Int) (l : List UInt8) : Dv := if programB D x l then workD D x.toNat 16 (fP l) (gP l D.fm) else D

theorem program_down (s : Sh) (D : Dv) (x : Int) (t : ByteArray) (w : World) (h : Dev w s D) (hd : D.dn = true) :
    Calls Tryz.prog 60 #[.pointer (some ⟨s.b, 0, none⟩), .int .i64 x, .string t] w fun e w' => e = .returned (.int .i64 5) ∧ Below w.heap.size w w' := by
  have HX : Hid (∀ w1, Below w.heap.size w w1 → Calls Tryz.prog 74 #[.pointer (some ⟨s.b, 0, none⟩)] w1 fun e w' => e = .returned (.int .i64 5) ∧ w1 = w') := Lib.hid fun w1 hb => by
    have := idle_any s D w1 (h.step hb); rwa [hd] at this
  clear h hd
  go_enter Tryz.func60, Tryz.ntmps60
  go_wp2_with (first
    | ((with_reducible refine wpBox1K (.pointer (some ⟨s.b, 0, none⟩)) 27 (ptr_cells _) ?_ ?_); rfl; intro w1 r1 b1 s1; have R1 := Lib.hid r1; have B1 := Lib.hid b1; clear r1 b1 s1)
    | ((with_reducible refine wpBox1K (.string t) 9 (fstr_cells _) ?_ ?_); rfl; intro w2 r2 b2 s2; have c1 := (R1.out.step b2).cell 0; have B2 := Lib.hid (B1.out.next b2); clear r2 b2 s2)
    | (go_at_call 74; (with_reducible refine (HX.out w2 B2.out).mono ?_); rintro e u1 ⟨rfl, rfl⟩))
  go_ret
  exact ⟨rfl, B2.out⟩
theorem program_align (s : Sh) (D : Dv) (x : Int) (t : ByteArray) (w : World) (h : Dev w s D) (hd : D.dn = false) (hs : t.size ≤ 140737488355328) (hb : x.tmod 16 ≠ 0 ∨ t.size ≠ 16) :
    Calls Tryz.prog 60 #[.pointer (some ⟨s.b, 0, none⟩), .int .i64 x, .string t] w fun e w' => e = .returned (.int .i64 3) ∧ Below w.heap.size w w' := by
  have HX : Hid (∀ w1, Below w.heap.size w w1 → Calls Tryz.prog 74 #[.pointer (some ⟨s.b, 0, none⟩)] w1 fun e w' => e = .returned (.int .i64 0) ∧ w1 = w') := Lib.hid fun w1 hb => by
    have := idle_any s D w1 (h.step hb); rwa [hd] at this
  clear h hd
  by_cases hm : x.tmod 16 = 0
  · have hz : ¬ t.size = 16 := by rcases hb with h | h
                                  · exact absurd hm h
                                  · exact h
    have hz1 : ((t.size : Int) != 16) = true := bne_iff_ne.2 (by omega)
    have hz2 : ¬ (t.size : Int) = 16 := by omega
    have hm1 : (x.tmod 16 != 0) = false := by rw [hm]; rfl
    clear hb
    go_enter Tryz.func60, Tryz.ntmps60
    go_wp2_with (first
      | ((with_reducible refine wpBox1K (.pointer (some ⟨s.b, 0, none⟩)) 27 (ptr_cells _) ?_ ?_); rfl; intro w1 r1 b1 s1; have R1 := Lib.hid r1; have B1 := Lib.hid b1; clear r1 b1 s1)
      | ((with_reducible refine wpBox1K (.string t) 9 (fstr_cells _) ?_ ?_); rfl; intro w2 r2 b2 s2; have c1 := (R1.out.step b2).cell 0; have c2 := r2.cell 0; have B2 := Lib.hid (B1.out.next b2); clear r2 b2 s2)
      | (go_at_call 74; (with_reducible refine (HX.out w2 B2.out).mono ?_); rintro e u1 ⟨rfl, rfl⟩))
    go_ret
    exact ⟨rfl, B2.out⟩
  · have hm1 : (x.tmod 16 != 0) = true := bne_iff_ne.2 hm
    clear hb
    go_enter Tryz.func60, Tryz.ntmps60
    go_wp2_with (first
      | ((with_reducible refine wpBox1K (.pointer (some ⟨s.b, 0, none⟩)) 27 (ptr_cells _) ?_ ?_); rfl; intro w1 r1 b1 s1; have R1 := Lib.hid r1; have B1 := Lib.hid b1; clear r1 b1 s1)
      | ((with_reducible refine wpBox1K (.string t) 9 (fstr_cells _) ?_ ?_); rfl; intro w2 r2 b2 s2; have c1 := (R1.out.step b2).cell 0; have c2 := r2.cell 0; have B2 := Lib.hid (B1.out.next b2); clear r2 b2 s2)
      | (go_at_call 74; (with_reducible refine (HX.out w2 B2.out).mono ?_); rintro e u1 ⟨rfl, rfl⟩))
    go_ret
    exact ⟨rfl, B2.out⟩
theorem program_out (s : Sh) (D : Dv) (x : Int) (t : ByteArray) (w : World) (h : Dev w s D) (hd : D.dn = false) (hx : x < 9223372036854775808) (hs : t.size = 16) (hm : x.tmod 16 = 0) (hb : bey D.C.length x 16 = true) :
    Calls Tryz.prog 60 #[.pointer (some ⟨s.b, 0, none⟩), .int .i64 x, .string t] w fun e w' => e = .returned (.int .i64 2) ∧ Below w.heap.size w w' := by
  have HX : Hid (∀ w1, Below w.heap.size w w1 → Calls Tryz.prog 74 #[.pointer (some ⟨s.b, 0, none⟩)] w1 fun e w' => e = .returned (.int .i64 0) ∧ w1 = w') := Lib.hid fun w1 hb => by
    have := idle_any s D w1 (h.step hb); rwa [hd] at this
  have HY : Hid (∀ w1, Below w.heap.size w w1 → Calls Tryz.prog 38 #[.pointer (some ⟨s.b, 0, none⟩), .int .i64 x, .int .i64 16] w1 fun e w' => e = .returned (.bool true) ∧ w1 = w') := Lib.hid fun w1 hb1 => by
    have := beyond_any s D x 16 w1 (h.step hb1) hx; rwa [hb] at this
  have HYn : Hid (∀ w1, Below w.heap.size w w1 → Calls Tryz.prog 38 #[.pointer (some ⟨s.b, 0, none⟩), .int .i64 x, .int .i64 (t.size : Int)] w1 fun e w' => e = .returned (.bool true) ∧ w1 = w') := Lib.hid fun w1 hb1 => by
    rw [hs]; exact HY.out w1 hb1
  have hz1 : ((t.size : Int) != 16) = false := by rw [hs]; rfl
  have hm1 : (x.tmod 16 != 0) = false := by rw [hm]; rfl
  clear h hd hx hm hb
  go_enter Tryz.func60, Tryz.ntmps60
  go_wp2_with (first
    | ((with_reducible refine wpBox1K (.pointer (some ⟨s.b, 0, none⟩)) 27 (ptr_cells _) ?_ ?_); rfl; intro w1 r1 b1 s1; have R1 := Lib.hid r1; have B1 := Lib.hid b1; clear r1 b1 s1)
    | ((with_reducible refine wpBox1K (.string t) 9 (fstr_cells _) ?_ ?_); rfl; intro w2 r2 b2 s2; have R2 := Lib.hid (R1.out.step b2); have RT2 := Lib.hid r2; have c1 := (R1.out.step b2).cell 0; have c2 := r2.cell 0; have B2 := Lib.hid (B1.out.next b2); clear r2 b2 s2)
    | (go_at_call 74; (with_reducible refine (HX.out w2 B2.out).mono ?_); rintro e u1 ⟨rfl, rfl⟩)
    | (go_at_call 38; (first | (with_reducible refine (HY.out w2 B2.out).mono ?_) | (with_reducible refine (HYn.out w2 B2.out).mono ?_)); rintro e u1 ⟨rfl, rfl⟩))
  go_ret
  exact ⟨rfl, B2.out⟩
theorem program_locked (s : Sh) (D : Dv) (a : Nat) (t : ByteArray) (w : World) (h : Dev w s D) (hd : D.dn = false) (hx : (a : Int) < 9223372036854775808) (hs : t.size = 16) (hm : (a : Int).tmod 16 = 0) (hb : bey D.C.length a 16 = false) (hl : D.L.getD (a / 64) false = true) :
    Calls Tryz.prog 60 #[.pointer (some ⟨s.b, 0, none⟩), .int .i64 (a : Int), .string t] w fun e w' => e = .returned (.int .i64 4) ∧ Below w.heap.size w w' := by
  have HX : Hid (∀ w1, Below w.heap.size w w1 → Calls Tryz.prog 74 #[.pointer (some ⟨s.b, 0, none⟩)] w1 fun e w' => e = .returned (.int .i64 0) ∧ w1 = w') := Lib.hid fun w1 hb => by
    have := idle_any s D w1 (h.step hb); rwa [hd] at this
  have HY : Hid (∀ w1, Below w.heap.size w w1 → Calls Tryz.prog 38 #[.pointer (some ⟨s.b, 0, none⟩), .int .i64 (a : Int), .int .i64 16] w1 fun e w' => e = .returned (.bool false) ∧ w1 = w') := Lib.hid fun w1 hb1 => by
    have := beyond_any s D (a : Int) 16 w1 (h.step hb1) hx; rwa [hb] at this
  have HYn : Hid (∀ w1, Below w.heap.size w w1 → Calls Tryz.prog 38 #[.pointer (some ⟨s.b, 0, none⟩), .int .i64 (a : Int), .int .i64 (t.size : Int)] w1 fun e w' => e = .returned (.bool false) ∧ w1 = w') := Lib.hid fun w1 hb1 => by
    rw [hs]; exact HY.out w1 hb1
  have hz1 : ((t.size : Int) != 16) = false := by rw [hs]; rfl
  have hm1 : ((a : Int).tmod 16 != 0) = false := by rw [hm]; rfl
  have hca := h.ok.cells
  have hb2 := of_decide_eq_false hb
  have hjn : a / 64 < D.L.length := by omega
  have H5 : Hid (∀ w1, Below w.heap.size w w1 → w1.cell? ⟨s.b, 5, none⟩ = some (.slice (some ⟨s.o2, 0, none⟩) D.L.length s.k2)) := Lib.hid fun w1 hb => (h.step hb).c5
  have H6 : Hid (∀ w1, Below w.heap.size w w1 → w1.cell? ⟨s.o2, a / 64, none⟩ = some (.bool true)) := Lib.hid fun w1 hb => by
    have := (h.step hb).cl (a / 64) hjn
    rwa [show D.L[a / 64] = true by rw [List.getD_eq_getElem?_getD, List.getElem?_eq_getElem hjn] at hl; exact hl] at this
  obtain ⟨n, hn⟩ : ∃ n, D.L.length = n := ⟨_, rfl⟩
  obtain ⟨j, hj⟩ : ∃ j, a / 64 = j := ⟨_, rfl⟩
  have q1 : (a : Int).tdiv 64 = (j : Int) := by rw [← hj]; rfl
  have q2 : (a : Int) / 64 = (j : Int) := by rw [← hj]; rfl
  have q3 : (j : Int) < n := by omega
  have hm3 : ((a : Int) % 16 != 0) = false := by
    have : (a : Int) % 16 = (a : Int).tmod 16 := (Int.tmod_eq_emod_of_nonneg (by omega)).symm
    rw [this, hm]; rfl
  have hm2 : (a : Int) % 16 = 0 := beq_iff_eq.1 (by simpa using hm3)
  have q4 : a / 64 = j := hj
  have hjb : (j : Int) ≤ 512 := by have := h.ok.top; omega
  have q5 : wrap64 (j : Int) = j := by unfold wrap64; omega
  rw [hn] at H5
  rw [hj] at H6
  clear h hd hx hm hb hl hn hca hb2 hjn hj
  go_enter Tryz.func60, Tryz.ntmps60
  go_wp2_with (first
    | ((with_reducible refine wpBox1K (.pointer (some ⟨s.b, 0, none⟩)) 27 (ptr_cells _) ?_ ?_); rfl; intro w1 r1 b1 s1; have R1 := Lib.hid r1; have B1 := Lib.hid b1; clear r1 b1 s1)
    | ((with_reducible refine wpBox1K (.string t) 9 (fstr_cells _) ?_ ?_); rfl; intro w2 r2 b2 s2; have R2 := Lib.hid (R1.out.step b2); have RT2 := Lib.hid r2; have c1 := (R1.out.step b2).cell 0; have c2 := r2.cell 0; have B2 := Lib.hid (B1.out.next b2); have c5 := H5.out w2 B2.out; have c6 := H6.out w2 B2.out; clear r2 b2 s2)
    | (go_at_call 74; (with_reducible refine (HX.out w2 B2.out).mono ?_); rintro e u1 ⟨rfl, rfl⟩)
    | (go_at_call 38; (first | (with_reducible refine (HY.out w2 B2.out).mono ?_) | (with_reducible refine (HYn.out w2 B2.out).mono ?_)); rintro e u1 ⟨rfl, rfl⟩))
  go_ret
  exact ⟨rfl, B2.out⟩
set_option maxHeartbeats 1000000 in
theorem program_good (s : Sh) (D : Dv) (a : Nat) (t : ByteArray) (w : World) (h : Dev w s D) (hd : D.dn = false) (hx : (a : Int) < 9223372036854775808) (hs : t.size = 16) (hm : (a : Int).tmod 16 = 0) (hb : bey D.C.length a 16 = false) (hl : D.L.getD (a / 64) false = false) :
    Calls Tryz.prog 60 #[.pointer (some ⟨s.b, 0, none⟩), .int .i64 (a : Int), .string t] w fun e w' => e = .returned (.int .i64 (idl (burnB D))) ∧ Dev w' s (workD D a 16 (fP t.data.toList) (gP t.data.toList D.fm)) ∧ Onl s.S w w' := by
  have HX : Hid (∀ w1, Below w.heap.size w w1 → Calls Tryz.prog 74 #[.pointer (some ⟨s.b, 0, none⟩)] w1 fun e w' => e = .returned (.int .i64 0) ∧ w1 = w') := Lib.hid fun w1 hb => by
    have := idle_any s D w1 (h.step hb); rwa [hd] at this
  have HY : Hid (∀ w1, Below w.heap.size w w1 → Calls Tryz.prog 38 #[.pointer (some ⟨s.b, 0, none⟩), .int .i64 (a : Int), .int .i64 16] w1 fun e w' => e = .returned (.bool false) ∧ w1 = w') := Lib.hid fun w1 hb1 => by
    have := beyond_any s D (a : Int) 16 w1 (h.step hb1) hx; rwa [hb] at this
  have HYn : Hid (∀ w1, Below w.heap.size w w1 → Calls Tryz.prog 38 #[.pointer (some ⟨s.b, 0, none⟩), .int .i64 (a : Int), .int .i64 (t.size : Int)] w1 fun e w' => e = .returned (.bool false) ∧ w1 = w') := Lib.hid fun w1 hb1 => by
    rw [hs]; exact HY.out w1 hb1
  have hz1 : ((t.size : Int) != 16) = false := by rw [hs]; rfl
  have hm1 : ((a : Int).tmod 16 != 0) = false := by rw [hm]; rfl
  have hca := h.ok.cells
  have hb2 := of_decide_eq_false hb
  have hjn : a / 64 < D.L.length := by omega
  have H5 : Hid (∀ w1, Below w.heap.size w w1 → w1.cell? ⟨s.b, 5, none⟩ = some (.slice (some ⟨s.o2, 0, none⟩) D.L.length s.k2)) := Lib.hid fun w1 hb => (h.step hb).c5
  have H6 : Hid (∀ w1, Below w.heap.size w w1 → w1.cell? ⟨s.o2, a / 64, none⟩ = some (.bool false)) := Lib.hid fun w1 hb => by
    have := (h.step hb).cl (a / 64) hjn
    rwa [show D.L[a / 64] = false by rw [List.getD_eq_getElem?_getD, List.getElem?_eq_getElem hjn] at hl; exact hl] at this
  have H4 : Hid (∀ w1, Below w.heap.size w w1 → w1.cell? ⟨s.b, 4, none⟩ = some (.slice (some ⟨s.o1, 0, none⟩) D.C.length s.k1)) := Lib.hid fun w1 hb => (h.step hb).c4
  have hrm := h.room
  have HDS : Hid (∀ w1, Below w.heap.size w w1 → Dev w1 s D) := Lib.hid fun w1 hb => h.step hb
  have HWK : Hid (∀ w4 vb vp vd cp q, Dev w4 s D → 16 ≤ q → CapP w4 s a cp vb vp vd q t → Calls Tryz.prog 75 #[.pointer (some ⟨s.b, 0, none⟩), .int .i64 16, .func (.func 84) #[] #[.pointer (some ⟨vb, 0, none⟩), .pointer (some ⟨vp, 0, none⟩)], .func (.func 85) #[] #[.pointer (some ⟨vb, 0, none⟩), .pointer (some ⟨vp, 0, none⟩), .pointer (some ⟨vd, 0, none⟩)]] w4
      fun e w' => e = .returned (.int .i64 (idl (burnB D))) ∧ Dev w' s (workD D a 16 (fP t.data.toList) (gP t.data.toList D.fm)) ∧ Onl s.S w4 w') := Lib.hid fun w4 vb vp vd cp q h4 hq hv => workP_any s D a 16 cp vb vp vd q t w4 h4 hv (by omega) (by omega) (by omega) hq hd
  have HWKn : Hid (∀ w4 vb vp vd cp q, Dev w4 s D → 16 ≤ q → CapP w4 s a cp vb vp vd q t → Calls Tryz.prog 75 #[.pointer (some ⟨s.b, 0, none⟩), .int .i64 (t.size : Int), .func (.func 84) #[] #[.pointer (some ⟨vb, 0, none⟩), .pointer (some ⟨vp, 0, none⟩)], .func (.func 85) #[] #[.pointer (some ⟨vb, 0, none⟩), .pointer (some ⟨vp, 0, none⟩), .pointer (some ⟨vd, 0, none⟩)]] w4
      fun e w' => e = .returned (.int .i64 (idl (burnB D))) ∧ Dev w' s (workD D a 16 (fP t.data.toList) (gP t.data.toList D.fm)) ∧ Onl s.S w4 w') := Lib.hid fun w4 vb vp vd cp q h4 hq hv => by rw [hs]; exact HWK.out w4 vb vp vd cp q h4 hq hv
  have HNV : Hid (∀ k, w.heap.size ≤ k → k ∉ s.S) := Lib.hid fun k hk => not_mem_new h hk
  have HLT : Hid (∀ k ∈ s.S, k < w.heap.size) := Lib.hid h.lt
  have hmf : ∀ (fn : Fn) (first cap : Array Value) (w : World), (Instr.makeFunc fn first cap).run Tryz.prog w = .ok (.func fn first cap) w := fun _ _ _ _ => rfl
  obtain ⟨n, hn⟩ : ∃ n, D.L.length = n := ⟨_, rfl⟩
  obtain ⟨j, hj⟩ : ∃ j, a / 64 = j := ⟨_, rfl⟩
  have q1 : (a : Int).tdiv 64 = (j : Int) := by rw [← hj]; rfl
  have q2 : (a : Int) / 64 = (j : Int) := by rw [← hj]; rfl
  have q3 : (j : Int) < n := by omega
  have hm3 : ((a : Int) % 16 != 0) = false := by
    have : (a : Int) % 16 = (a : Int).tmod 16 := (Int.tmod_eq_emod_of_nonneg (by omega)).symm
    rw [this, hm]; rfl
  have hm2 : (a : Int) % 16 = 0 := beq_iff_eq.1 (by simpa using hm3)
  have q4 : a / 64 = j := hj
  have hjb : (j : Int) ≤ 512 := by have := h.ok.top; omega
  have q5 : wrap64 (j : Int) = j := by unfold wrap64; omega
  rw [hn] at H5
  rw [hj] at H6
  obtain ⟨m, hme⟩ : ∃ m, D.C.length = m := ⟨_, rfl⟩
  obtain ⟨k1, hk1⟩ : ∃ k, s.k1 = k := ⟨_, rfl⟩
  rw [hme, hk1] at H4
  have e1 : (a : Int) ≤ m := by omega
  have e2 : (m : Int) ≤ k1 := by omega
  have e3 : ¬ k1 - a = 0 := by omega
  have e4 : ¬ (k1 : Int) - a = 0 := by omega
  have e5 : ¬ k1 = a := by omega
  have e6 : ¬ k1 ≤ a := by omega
  have e7 : a ≤ m := by omega
  have e8 : m ≤ k1 := by omega
  have e9 : (a : Int) < k1 := by omega
  have HQ : Hid (16 ≤ m - a) := Lib.hid (by omega)
  clear h hd hx hm hb hl hn hca hb2 hjn hj hrm hme hk1
  go_enter Tryz.func60, Tryz.ntmps60
  go_wp2_with (first
    | ((with_reducible refine wpBox1K (.pointer (some ⟨s.b, 0, none⟩)) 27 (ptr_cells _) ?_ ?_); rfl; intro w1 r1 b1 s1; have R1 := Lib.hid r1; have B1 := Lib.hid b1; clear r1 b1 s1)
    | ((with_reducible refine wpBox1K (.string t) 9 (fstr_cells _) ?_ ?_); rfl; intro w2 r2 b2 s2; have R2 := Lib.hid (R1.out.step b2); have RT2 := Lib.hid r2; have c1 := (R1.out.step b2).cell 0; have c2 := r2.cell 0; have B2 := Lib.hid (B1.out.next b2); have c4 := H4.out w2 B2.out; have c5 := H5.out w2 B2.out; have c6 := H6.out w2 B2.out; have D2 := Lib.hid (HDS.out w2 B2.out); have O2 := Lib.hid (Onl.of_below (S := s.S) B2.out); have S1 := Lib.hid B1.out.size; clear r2 b2 s2)
    | (go_at_call 74; (with_reducible refine (HX.out w2 B2.out).mono ?_); rintro e u1 ⟨rfl, rfl⟩)
    | (go_at_call 38; (first | (with_reducible refine (HY.out w2 B2.out).mono ?_) | (with_reducible refine (HYn.out w2 B2.out).mono ?_)); rintro e u1 ⟨rfl, rfl⟩)
    | ((with_reducible refine wpAlloc1K (.slice none 0 0) 76 (slice_cells _ _ _) zero_bytes ?_ ?_); rfl; intro w3 r3 b3 s3; have D3 := Lib.hid (D2.out.step b3); have R3 := Lib.hid (R2.out.step b3); have RT3 := Lib.hid (RT2.out.step b3); have RB3 := Lib.hid r3; have O3 := Lib.hid (O2.out.step b3); clear r3 b3 s3)
    | ((with_reducible refine RB3.out.wpStore1K 0 76 (.slice (some ⟨s.o1, a, none⟩) (m - a) (k1 - a)) finfo_bytes (by decide) (slice_cells _ _ _) (slice_one _ _ _) ?_ ?_); rfl; intro w4 r4 o4 s4; have D4 := Lib.hid (D3.out.onl (S := [w2.heap.size]) (Onl.of_only o4 (by simp)) (fun k hk hq => by have := D2.out.lt k hk; simp at hq; omega)); have R4 := Lib.hid (R3.out.only o4 (by have := R2.out.lt; omega)); have RT4 := Lib.hid (RT3.out.only o4 (by have := RT2.out.lt; omega)); have RB4 : Hid (Row w4 w2.heap.size 76 [.slice (some ⟨s.o1, a, none⟩) (m - a) (k1 - a)]) := Lib.hid r4; have O4 := Lib.hid (O3.out.only o4 (Or.inr O2.out.size)); have c14 := R4.out.cell 0; have c24 := RB4.out.cell 0; have c34 := RT4.out.cell 0; have CP : Hid (CapP w4 s a (k1 - a) w2.heap.size w1.heap.size w.heap.size (m - a) t) := Lib.hid ⟨c24, c34, c14, RB4.out.lt, RT4.out.lt, R4.out.lt, HNV.out _ O2.out.size, HNV.out _ S1.out, HNV.out _ (Nat.le_refl _)⟩; clear r4 o4 s4)
    | (go_at_call 75; (first | (with_reducible refine (HWK.out w4 _ _ _ _ _ D4.out HQ.out CP.out).mono ?_) | (with_reducible refine (HWKn.out w4 _ _ _ _ _ D4.out HQ.out CP.out).mono ?_)); rintro e w5 ⟨rfl, d5, o5⟩; have D5 := Lib.hid d5; have O5 := Lib.hid (O4.out.trans o5); clear d5 o5))
  go_ret
  exact ⟨rfl, D5.out, O5.out⟩
theorem program_any (s : Sh) (D : Dv) (x : Int) (t : ByteArray) (w : World) (h : Dev w s D) (hx : x < 9223372036854775808) (hs : t.size ≤ 140737488355328) :
    Calls Tryz.prog 60 #[.pointer (some ⟨s.b, 0, none⟩), .int .i64 x, .string t] w fun e w' => e = .returned (.int .i64 (programE D x t.data.toList)) ∧ Dev w' s (programD D x t.data.toList) ∧ Onl s.S w w' := by
  have hst : t.data.toList.length = t.size := size_list t
  have bad : ∀ e w', programB D x t.data.toList = false → Below w.heap.size w w' → programE D x t.data.toList = e → Ending.returned (.int .i64 e) = .returned (.int .i64 (programE D x t.data.toList)) ∧ Dev w' s (programD D x t.data.toList) ∧ Onl s.S w w' := fun e w' h1 hb h2 =>
    ⟨by rw [h2], by rw [programD, h1]; exact h.step hb, Onl.of_below hb⟩
  cases hd : D.dn with
  | true =>
    refine (program_down s D x t w h hd).mono ?_
    rintro e w' ⟨rfl, hb⟩
    exact bad _ _ (by rw [programB, hd]; rfl) hb (by rw [programE, hd]; rfl)
  | false =>
    by_cases hal : x.tmod 16 ≠ 0 ∨ t.size ≠ 16
    · refine (program_align s D x t w h hd hs hal).mono ?_
      rintro e w' ⟨rfl, hb⟩
      exact bad _ _ (by rw [programB, hd, hst, decide_eq_true hal]; rfl) hb (by rw [programE, hd, hst, if_pos hal]; rfl)
    · have h16 : t.size = 16 := by omega
      have hm : x.tmod 16 = 0 := by omega
      cases hb : bey D.C.length x 16 with
      | true =>
        refine (program_out s D x t w h hd hx h16 hm hb).mono ?_
        rintro e w' ⟨rfl, hbl⟩
        exact bad _ _ (by rw [programB, hb]; simp) hbl (by rw [programE, hd, hst, if_neg hal, hb]; rfl)
      | false =>
        have hb2 := of_decide_eq_false hb
        obtain ⟨a, rfl⟩ : ∃ a : Nat, x = a := ⟨x.toNat, by omega⟩
        cases hl : D.L.getD (a / 64) false with
        | true =>
          refine (program_locked s D a t w h hd hx h16 hm hb hl).mono ?_
          rintro e w' ⟨rfl, hbl⟩
          exact bad _ _ (by rw [programB, Int.toNat_natCast, hl]; simp) hbl (by rw [programE, hd, hst, if_neg hal, hb, Int.toNat_natCast, hl]; rfl)
        | false =>
          refine (program_good s D a t w h hd hx h16 hm hb hl).mono ?_
          rintro e w' ⟨rfl, h1, h2⟩
          have hE : programB D (a : Int) t.data.toList = true := by rw [programB, hd, hst, decide_eq_false hal, hb, Int.toNat_natCast, hl]; rfl
          exact ⟨by rw [programE, hd, hst, if_neg hal, hb, Int.toNat_natCast, hl]; rfl, by rw [programD, if_pos hE, Int.toNat_natCast]; exact h1, h2⟩
end Go.Proofs.YtbnjenbhpaknbaaGreat

/- A region that draws its order, whose operations read, call and make memory but write into none that was there: what each operation yields, shown one by one, in whatever order. -/
namespace Go.Proofs.YtbnjenbhpaknbaaGreat
open Go.RowKit

section
variable {P : Program} {ops : Array Oper} {Q : Exit → Act → World → Prop}

/-- The frame a with what the operations D (number, slot) yielded. -/
def puts (D : List (Nat × Nat)) (a : Act) (u : Nat → Value) : Act := D.foldl (fun a p => a.put (some p.2) (u p.1)) a

def upd (u : Nat → Value) (i : Nat) (v : Value) : Nat → Value := fun j => if j = i then v else u j

theorem put_put (a : Act) (d : Nat) (v v' : Value) : (a.put (some d) v).put (some d) v' = a.put (some d) v' := by
  simp [Act.put]
theorem put_self (a : Act) (d : Nat) : a.put (some d) (a.tmps.getD d undef) = a := by
  simp only [Act.put]
  congr 1
  apply Array.ext_getElem?
  intro i
  rw [Array.getElem?_setIfInBounds]
  split
  · rename_i h
    subst h
    split
    · rename_i h; simp [h]
    · rename_i h; rw [Array.getElem?_eq_none (by omega)]
  · rfl

theorem puts_congr (u u' : Nat → Value) : ∀ (D : List (Nat × Nat)) (a : Act), (∀ p ∈ D, u p.1 = u' p.1) → puts D a u = puts D a u'
  | [], _, _ => rfl
  | p :: D, a, h => by
    show puts D (a.put (some p.2) (u p.1)) u = puts D (a.put (some p.2) (u' p.1)) u'
    rw [h p (List.mem_cons_self ..)]
    exact puts_congr u u' D _ fun q hq => h q (List.mem_cons_of_mem _ hq)

theorem puts_put_out (u : Nat → Value) : ∀ (D : List (Nat × Nat)) (a : Act) (d : Nat) (v : Value), (∀ p ∈ D, p.2 ≠ d) → (puts D a u).put (some d) v = puts D (a.put (some d) v) u
  | [], _, _, _, _ => rfl
  | p :: D, a, d, v, h => by
    show (puts D _ u).put (some d) v = puts D _ u
    rw [puts_put_out u D _ d v fun q hq => h q (List.mem_cons_of_mem _ hq)]
    rw [Act.put_comm a _ _ (fun x hx hy => h p (List.mem_cons_self ..) (by cases hx; cases hy; rfl))]

theorem puts_put (u : Nat → Value) (i d : Nat) (v : Value) : ∀ (D : List (Nat × Nat)) (a : Act), (D.map (·.1)).Nodup → (D.map (·.2)).Nodup → (i, d) ∈ D →
    (puts D a u).put (some d) v = puts D a (upd u i v)
  | p :: D, a, h1, h2, hm => by
    rw [List.map_cons, List.nodup_cons] at h1 h2
    show (puts D _ u).put (some d) v = puts D (a.put (some p.2) (upd u i v p.1)) (upd u i v)
    rcases List.mem_cons.1 hm with rfl | hm
    · rw [puts_put_out u D _ d v (fun q hq e => h2.1 (List.mem_map.2 ⟨q, hq, e⟩)), put_put]
      have e1 : upd u i v i = v := by simp [upd]
      show puts D (a.put (some d) v) u = puts D (a.put (some d) (upd u i v i)) (upd u i v)
      rw [e1]
      refine puts_congr _ _ D _ fun q hq => ?_
      have : q.1 ≠ i := fun e => h1.1 (List.mem_map.2 ⟨q, hq, e⟩)
      simp [upd, this]
    · have hne : p.1 ≠ i := fun e => h1.1 (List.mem_map.2 ⟨(i, d), hm, e.symm⟩)
      have e1 : upd u i v p.1 = u p.1 := by simp [upd, hne]
      rw [e1]
      exact puts_put u i d v D _ h1.2 h2.2 hm

theorem puts_self (u : Nat → Value) (a : Act) : ∀ (D : List (Nat × Nat)), (∀ p ∈ D, u p.1 = a.tmps.getD p.2 undef) → puts D a u = a
  | [], _ => rfl
  | p :: D, h => by
    show puts D (a.put (some p.2) (u p.1)) u = a
    rw [h p (List.mem_cons_self ..), put_self]
    exact puts_self u a D fun q hq => h q (List.mem_cons_of_mem _ hq)

/-- What operation i waits for has come: what each of these yielded is as it should be. -/
def Came (ops : Array Oper) (φ : Nat → Value → World → Prop) (u : Nat → Value) (w : World) (i : Nat) : Prop :=
  ∀ o, ops[i]? = some o → ∀ e ∈ o.after.toList, Region.binds .any e = true → φ e.on (u e.on) w

def waitsB (ops : Array Oper) (i j : Nat) : Bool := (ops[i]?.map fun o => o.after.toList.any fun e => Region.binds .any e && Nat.beq e.on j).getD false
theorem Came.at {φ : Nat → Value → World → Prop} {u : Nat → Value} {w : World} {i : Nat} (h : Came ops φ u w i) (j : Nat) (hw : waitsB ops i j = true) : φ j (u j) w := by
  unfold waitsB at hw
  cases ho : ops[i]? with
  | none => rw [ho] at hw; cases hw
  | some o =>
    rw [ho] at hw
    simp only [Option.map_some, Option.getD_some, List.any_eq_true, Bool.and_eq_true, Nat.beq_eq] at hw
    obtain ⟨e, he, hb, rfl⟩ := hw
    exact h o ho e he hb

theorem mem_ready {listed : Array Bool} {i : Nat} : i ∈ Region.ready .any ops listed ↔
    i < ops.size ∧ listed.getD i true = false ∧ ∃ o, ops[i]? = some o ∧ ∀ e ∈ o.after.toList, Region.binds .any e = true → listed.getD e.on false = true := by
  unfold Region.ready
  rw [List.mem_filter, List.mem_range]
  simp only [Bool.and_eq_true, Bool.not_eq_true']
  constructor
  · rintro ⟨h1, h2, h3⟩
    refine ⟨h1, h2, ?_⟩
    rw [Array.getElem?_eq_getElem h1] at h3
    refine ⟨_, Array.getElem?_eq_getElem h1, fun e he hb => ?_⟩
    simp only [Option.map_some, Option.getD_some, Array.all_eq_true_iff_forall_mem] at h3
    have := h3 e (by simpa using he)
    simpa [hb] using this
  · rintro ⟨h1, h2, o, ho, h3⟩
    refine ⟨h1, h2, ?_⟩
    rw [ho]
    simp only [Option.map_some, Option.getD_some, Array.all_eq_true_iff_forall_mem]
    intro e he
    cases hb : Region.binds .any e with
    | false => simp
    | true => simpa using h3 e (by simpa using he) hb

/-- Each operation waits for none behind it. -/
def ordB (ops : Array Oper) : Bool := (List.range ops.size).all fun i => (ops[i]?.map fun o => o.after.all fun e => decide (e.on < i)).getD true

theorem all_listed (hord : ordB ops = true) {listed : Array Bool} (hs : listed.size = ops.size) (h : Region.ready .any ops listed = []) : ∀ i, listed.getD i true = true := by
  intro i
  induction i using Nat.strongRecOn with
  | ind i ih =>
    cases hi : listed.getD i true with
    | true => rfl
    | false =>
      have hlt : i < ops.size := by
        rw [← hs]
        by_cases hl : i < listed.size
        · exact hl
        · simp [Array.getD, hl] at hi
      have : i ∈ Region.ready .any ops listed := by
        refine mem_ready.2 ⟨hlt, hi, _, Array.getElem?_eq_getElem hlt, fun e he _ => ?_⟩
        unfold ordB at hord
        rw [List.all_eq_true] at hord
        have h1 := hord i (List.mem_range.2 hlt)
        rw [Array.getElem?_eq_getElem hlt] at h1
        simp only [Option.map_some, Option.getD_some, Array.all_eq_true_iff_forall_mem] at h1
        have h2 := h1 e (by simpa using he)
        have hlt2 : e.on < i := by simpa using h2
        have h3 := ih e.on hlt2
        have hl : e.on < listed.size := by omega
        simpa [Array.getD, hl] using h3
      rw [h] at this
      cases this

/-- What an operation yields is what its slot holds then. -/
theorem upon_value {o : Oper} {a : Act} {d : Nat} {R : Value → World → Prop} (hd : o.dst = some d) (hs : d < a.tmps.size) (r : Result Next)
    (h : o.upon P a (fun a' w' => a'.defers = a.defers ∧ R (a'.tmps.getD d undef) w') Q r) : o.upon P a (fun a' w' => ∃ v, a' = a.put (some d) v ∧ R v w') Q r := by
  have hg : ∀ v, (a.put o.dst v).tmps.getD d undef = v := fun v => by rw [hd]; simp [Act.put, hs]
  have hk : ∀ v w', (fun (a' : Act) (w' : World) => a'.defers = a.defers ∧ R (a'.tmps.getD d undef) w') (a.put o.dst v) w' → (fun (a' : Act) (w' : World) => ∃ v, a' = a.put (some d) v ∧ R v w') (a.put o.dst v) w' := fun v w' h => by
    have h2 := h.2
    rw [hg] at h2
    exact ⟨v, by rw [hd], h2⟩
  cases r with
  | ok n w' =>
    cases n with
    | value v => exact hk v w' h
    | skip => exact hk undef w' h
    | defer e =>
      simp only [Oper.upon, hd, Act.put] at h
      have := congrArg List.length h.1
      simp at this
    | enter f args =>
      simp only [Oper.upon] at h ⊢
      refine Calls.mono h fun e w'' he => ?_
      cases e with
      | returned v => exact hk v w'' he
      | panicked c => exact he
      | outgrown => exact he
    | row row args =>
      simp only [Oper.upon] at h ⊢
      exact Rows.mono h fun v w'' he => hk v w'' he
    | _ => exact h
  | halt x w' => cases x <;> exact h
theorem wpOp_value {i d : Nat} {o : Oper} {a : Act} {w : World} {R : Value → World → Prop} (ho : ops[i]? = some o) (hd : o.dst = some d) (hs : d < a.tmps.size)
    (h : wpOp P ops Q i (fun a' w' => a'.defers = a.defers ∧ R (a'.tmps.getD d undef) w') a w) : wpOp P ops Q i (fun a' w' => ∃ v, a' = a.put (some d) v ∧ R v w') a w := by
  unfold wpOp at *
  rw [ho] at h ⊢
  simp only at h ⊢
  split at h
  · rename_i hw
    rw [if_pos hw]
    rcases h with h | h
    · exact Or.inl (upon_value hd hs _ h)
    · exact Or.inr h
  · rename_i hw
    rw [if_neg hw]
    have h2 := h.2
    rw [hd] at h2 ⊢
    refine ⟨undef, rfl, ?_⟩
    simpa [Act.put, hs] using h2
theorem puts_size (u : Nat → Value) : ∀ (D : List (Nat × Nat)) (a : Act), (puts D a u).tmps.size = a.tmps.size
  | [], _ => rfl
  | p :: D, a => by
    show (puts D (a.put (some p.2) (u p.1)) u).tmps.size = _
    rw [puts_size u D]
    simp [Act.put]

theorem region_inv {id : Nat} {a : Act} {w : World} (D : List (Nat × Nat)) (φ : Nat → Value → World → Prop) (G : World → Prop) (hm : P.follows .mixedOrders = true)
    (hord : ordB ops = true) (hD1 : D.map (·.1) = List.range ops.size) (hD2 : (D.map (·.2)).Nodup) (hD3 : (D.all fun p => (ops[p.1]?.bind (·.dst)) == some p.2) = true) (hD4 : (D.all fun p => Nat.blt p.2 a.tmps.size) = true)
    (hmono : ∀ i v w w', φ i v w → Below w.heap.size w w' → φ i v w') (hG : G w.drew)
    (step : ∀ p ∈ D, ∀ u w, G w → Came ops φ u w p.1 →
      wpOp P ops Q p.1 (fun a' w' => a'.defers = (puts D a u).defers ∧ φ p.1 (a'.tmps.getD p.2 undef) w' ∧ G w' ∧ Below w.heap.size w w') (puts D a u) w)
    (fin : ∀ u w, G w → (∀ p ∈ D, φ p.1 (u p.1) w) → Q .normal (puts D a u) w) : (Code.region id ops true).wp P Q a w := by
  refine wp_region_any hm ?_
  have hnd1 : (D.map (·.1)).Nodup := by rw [hD1]; exact List.nodup_range
  have key : ∀ (fuel : Nat) (listed : Array Bool) (w : World) (u : Nat → Value) (L : List Nat), listed.size = ops.size → L.length ≤ fuel → (∀ i, listed.getD i true = false → i ∈ L) → G w →
      (∀ i, i < ops.size → listed.getD i true = true → φ i (u i) w) → wpAny P .any ops Q fuel listed (puts D a u) w := by
    intro fuel
    induction fuel with
    | zero =>
      intro listed w u L hs hL hin hg hφ
      have hall : ∀ i, listed.getD i true = true := fun i => by
        cases hi : listed.getD i true with
        | true => rfl
        | false => have := hin i hi; rw [List.length_eq_zero_iff.1 (Nat.le_zero.1 hL)] at this; cases this
      refine ⟨?_, fin u w hg fun p hp => hφ p.1 ?_ (hall _)⟩
      · rw [List.eq_nil_iff_forall_not_mem]
        intro i hi
        have := (mem_ready.1 hi).2.1
        rw [hall i] at this
        cases this
      · have : p.1 ∈ D.map (·.1) := List.mem_map.2 ⟨p, hp, rfl⟩
        rw [hD1] at this
        exact List.mem_range.1 this
    | succ fuel ih =>
      intro listed w u L hs hL hin hg hφ
      refine ⟨fun hr => fin u w hg fun p hp => hφ p.1 ?_ (all_listed hord hs hr _), fun i hi => ?_⟩
      · have : p.1 ∈ D.map (·.1) := List.mem_map.2 ⟨p, hp, rfl⟩
        rw [hD1] at this
        exact List.mem_range.1 this
      · obtain ⟨h1, h2, o, ho, h3⟩ := mem_ready.1 hi
        have hiD : i ∈ D.map (·.1) := by rw [hD1]; exact List.mem_range.2 h1
        obtain ⟨⟨i', d⟩, hp, rfl⟩ := List.mem_map.1 hiD
        have hst := step _ hp u w hg (fun o' ho' e he hb => by
          have heq : o' = o := Option.some.inj (ho'.symm.trans ho)
          subst heq
          have hl := h3 e he hb
          have hlt : e.on < ops.size := by
            rw [← hs]
            by_cases hl2 : e.on < listed.size
            · exact hl2
            · simp [Array.getD, hl2] at hl
          refine hφ e.on hlt ?_
          have hl2 : e.on < listed.size := by omega
          simpa [Array.getD, hl2] using hl)
        have hd3 := List.all_eq_true.1 hD3 _ hp
        have hd4 := List.all_eq_true.1 hD4 _ hp
        simp only [ho, Option.bind_some, beq_iff_eq] at hd3
        have hd5 : d < a.tmps.size := by simp [Nat.blt] at hd4; omega
        have hst2 := wpOp_value (R := fun v w' => φ i' v w' ∧ G w' ∧ Below w.heap.size w w') ho hd3 (by rw [puts_size]; exact hd5) hst
        clear hst
        refine wpOp_mono ?_ hst2
        rintro a' w' ⟨v, rfl, hv, hg', hb'⟩
        rw [puts_put u i' d v D a hnd1 hD2 hp]
        refine ih _ w' (upd u i' v) (L.erase i') (by simpa using hs) ?_ ?_ hg' ?_
        · rw [List.length_erase_of_mem (hin i' h2)]
          omega
        · intro j hj
          have hji : j ≠ i' := fun e => by
            subst e
            have : j < listed.size := by omega
            simp [Array.getD, this] at hj
          refine (List.mem_erase_of_ne hji).2 (hin j ?_)
          simp only [Array.getD] at hj ⊢
          split at hj
          · rename_i hl
            rw [Array.size_setIfInBounds] at hl
            rw [dif_pos hl]
            rwa [Array.getInternal_eq_getElem, Array.getElem_setIfInBounds_ne (h := Ne.symm hji)] at hj
          · cases hj
        · intro j hj hl
          by_cases hji : j = i'
          · subst hji
            simpa [upd] using hv
          · have e1 : upd u i' v j = u j := by simp [upd, hji]
            rw [e1]
            refine hmono j _ w w' (hφ j hj ?_) hb'
            have hl2 : j < listed.size := by omega
            simp only [Array.getD, Array.size_setIfInBounds, hl2, dif_pos, Array.getInternal_eq_getElem] at hl ⊢
            rwa [Array.getElem_setIfInBounds_ne (h := Ne.symm hji)] at hl
  have hu : ∃ u : Nat → Value, puts D a u = a := by
    refine ⟨fun i => ((D.find? fun p => p.1 == i).map fun p => a.tmps.getD p.2 undef).getD undef, puts_self _ _ _ fun p hp => ?_⟩
    have : D.find? (fun q => q.1 == p.1) = some p := by
      clear fin step hD2 hD1 hD3 hD4 key
      induction D with
      | nil => cases hp
      | cons q D ih =>
        rw [List.map_cons, List.nodup_cons] at hnd1
        rcases List.mem_cons.1 hp with rfl | hp
        · simp
        · have hne : (q.1 == p.1) = false := by
            rw [beq_eq_false_iff_ne]
            intro e
            exact hnd1.1 (List.mem_map.2 ⟨p, hp, e.symm⟩)
          rw [List.find?_cons, hne]
          exact ih hnd1.2 hp
    simp only [this, Option.map_some, Option.getD_some]
  obtain ⟨u, hu⟩ := hu
  have := key ops.size (Array.replicate ops.size false) w.drew u (List.range ops.size) (by simp) (by simp) (fun i hi => by
    rw [List.mem_range]
    by_cases hl : i < ops.size
    · exact hl
    · simp [Array.getD, hl] at hi) hG (fun i hi hl => by simp [Array.getD, hi] at hl)
  rw [hu] at this
  exact this

/-- Operation i waits, by some steps, for operation j. -/
def reachB (ops : Array Oper) : Nat → Nat → Nat → Bool
  | 0, _, _ => false
  | f + 1, i, j => (ops[i]?.map fun o => o.after.toList.any fun e => Region.binds .any e && (Nat.beq e.on j || reachB ops f e.on j)).getD false
/-- Whatever stands from n on waits for all that stands ahead of n. -/
def closeB (ops : Array Oper) (n f : Nat) : Bool := (List.range ops.size).all fun i => Nat.blt i n || (List.range n).all fun j => reachB ops f i j
def Anc (ops : Array Oper) (listed : Array Bool) : Prop := ∀ i o, ops[i]? = some o → listed.getD i false = true → ∀ e ∈ o.after.toList, Region.binds .any e = true → listed.getD e.on false = true
theorem reach_listed {listed : Array Bool} (h : Anc ops listed) : ∀ (f i j : Nat), (∀ o, ops[i]? = some o → ∀ e ∈ o.after.toList, Region.binds .any e = true → listed.getD e.on false = true) → reachB ops f i j = true → listed.getD j false = true
  | 0, _, _, _, hr => by cases hr
  | f + 1, i, j, hi, hr => by
    rw [reachB] at hr
    cases ho : ops[i]? with
    | none => rw [ho] at hr; cases hr
    | some o =>
      rw [ho] at hr
      simp only [Option.map_some, Option.getD_some, List.any_eq_true, Bool.and_eq_true, Bool.or_eq_true, Nat.beq_eq] at hr
      obtain ⟨e, he, hb, hr⟩ := hr
      have hl := hi o ho e he hb
      rcases hr with rfl | hr
      · exact hl
      · exact reach_listed h f e.on j (fun o' ho' e' he' hb' => h e.on o' ho' hl e' he' hb') hr
theorem getD_set_self {l : Array Bool} {i : Nat} (h : i < l.size) : (l.setIfInBounds i true).getD i false = true := by simp [Array.getD, h]
theorem getD_set_other {l : Array Bool} {i j : Nat} {d : Bool} (h : i ≠ j) : (l.setIfInBounds i true).getD j d = l.getD j d := by
  simp only [Array.getD, Array.size_setIfInBounds]
  split
  · rename_i hl
    rw [Array.getInternal_eq_getElem, Array.getElem_setIfInBounds_ne (h := h)]
    rfl
  · rfl

/-- A region whose first n operations, in whatever order, only read, call and make memory, and whose last ones wait for all of these and come one by one. -/
theorem region_tail {id : Nat} {a : Act} {w : World} (n : Nat) (D : List (Nat × Nat)) (φ : Nat → Value → World → Prop) (G : World → Prop) (hm : P.follows .mixedOrders = true) (hn : n ≤ ops.size)
    (hord : ordB ops = true) (hcl : closeB ops n ops.size = true) (hseq : Region.seqB .any ops (ops.size - n) n ((Array.range ops.size).map (Nat.blt · n)) = true)
    (hD1 : D.map (·.1) = List.range n) (hD2 : (D.map (·.2)).Nodup) (hD3 : (D.all fun p => (ops[p.1]?.bind (·.dst)) == some p.2) = true) (hD4 : (D.all fun p => Nat.blt p.2 a.tmps.size) = true)
    (hmono : ∀ i v w w', φ i v w → Below w.heap.size w w' → φ i v w') (hG : G w.drew)
    (step : ∀ p ∈ D, ∀ u w, G w → Came ops φ u w p.1 →
      wpOp P ops Q p.1 (fun a' w' => a'.defers = (puts D a u).defers ∧ φ p.1 (a'.tmps.getD p.2 undef) w' ∧ G w' ∧ Below w.heap.size w w') (puts D a u) w)
    (fin : ∀ u w, G w → (∀ p ∈ D, φ p.1 (u p.1) w) → wpList P ops Q (ops.toList.drop n) (puts D a u) w) : (Code.region id ops true).wp P Q a w := by
  refine wp_region_any hm ?_
  have hnd1 : (D.map (·.1)).Nodup := by rw [hD1]; exact List.nodup_range
  have hclose : ∀ i, n ≤ i → i < ops.size → ∀ j, j < n → reachB ops ops.size i j = true := by
    intro i h1 h2 j hj
    have := List.all_eq_true.1 hcl i (List.mem_range.2 h2)
    rw [Bool.or_eq_true] at this
    rcases this with h | h
    · simp [Nat.blt] at h; omega
    · exact List.all_eq_true.1 h j (List.mem_range.2 hj)
  have key : ∀ (m : Nat) (L : List Nat) (listed : Array Bool) (w : World) (u : Nat → Value), L.length = m → L.Nodup → listed.size = ops.size → (∀ i, i < n → (listed.getD i false = false ↔ i ∈ L)) → (∀ i ∈ L, i < n) →
      (∀ i, n ≤ i → listed.getD i false = false) → Anc ops listed → G w → (∀ i, i < n → listed.getD i false = true → φ i (u i) w) → wpAny P .any ops Q (m + (ops.size - n)) listed (puts D a u) w := by
    intro m
    induction m with
    | zero =>
      intro L listed w u hL _ hs hin _ hout _ hg hφ
      have hLe : L = [] := List.length_eq_zero_iff.1 hL
      subst hLe
      have hall : ∀ i, i < n → listed.getD i false = true := fun i hi => by
        cases h : listed.getD i false with
        | true => rfl
        | false => have := (hin i hi).1 h; cases this
      have el : listed = (Array.range ops.size).map (Nat.blt · n) := by
        apply Array.ext
        · simp [hs]
        · intro i h1 h2
          rw [Array.getElem_map, Array.getElem_range]
          have e1 : listed.getD i false = listed[i] := by simp [Array.getD, h1]
          rw [← e1]
          have hb : Nat.blt i n = decide (i < n) := by
            rw [Bool.eq_iff_iff, decide_eq_true_eq]
            exact Iff.of_eq Nat.ble_eq
          rw [hb]
          by_cases hi : i < n
          · rw [hall i hi, decide_eq_true hi]
          · rw [hout i (by omega), decide_eq_false hi]
      have hlen : (ops.toList.drop n).length = ops.size - n := by simp
      rw [Nat.zero_add, ← hlen]
      refine wpAny_of_seq (ops.toList.drop n) n listed _ w (fun j => by simp) (by rw [hlen, el]; exact hseq) (fin u w hg fun p hp => hφ p.1 ?_ ?_)
      · have : p.1 ∈ D.map (·.1) := List.mem_map.2 ⟨p, hp, rfl⟩
        rw [hD1] at this
        exact List.mem_range.1 this
      · have : p.1 ∈ D.map (·.1) := List.mem_map.2 ⟨p, hp, rfl⟩
        rw [hD1] at this
        exact hall _ (List.mem_range.1 this)
    | succ m ih =>
      intro L listed w u hL hnd hs hin hLn hout hanc hg hφ
      have hne : ∃ i0, i0 ∈ L := by
        cases L with
        | nil => cases hL
        | cons i0 L => exact ⟨i0, List.mem_cons_self ..⟩
      obtain ⟨i0, hi0⟩ := hne
      have hi0n := hLn i0 hi0
      have hi0f := (hin i0 hi0n).2 hi0
      rw [Nat.succ_add]
      refine ⟨fun hr => ?_, fun i hi => ?_⟩
      · have := all_listed hord hs hr i0
        have hl : i0 < listed.size := by omega
        simp [Array.getD, hl] at this hi0f
        rw [this] at hi0f
        cases hi0f
      · obtain ⟨h1, h2, o, ho, h3⟩ := mem_ready.1 hi
        have hin' : i < n := by
          by_cases hlt : i < n
          · exact hlt
          · have := reach_listed hanc ops.size i i0 (fun o' ho' e he hb => by
              obtain rfl := Option.some.inj (ho'.symm.trans ho)
              exact h3 e he hb) (hclose i (by omega) h1 i0 hi0n)
            rw [hi0f] at this
            cases this
        have hil : i < listed.size := by omega
        have h2f : listed.getD i false = false := by simp [Array.getD, hil] at h2 ⊢; exact h2
        have hiL := (hin i hin').1 h2f
        have hiD : i ∈ D.map (·.1) := by rw [hD1]; exact List.mem_range.2 hin'
        obtain ⟨⟨i', d⟩, hp, rfl⟩ := List.mem_map.1 hiD
        simp only at h1 h2 ho h3 hin' hil h2f hiL
        have hst := step _ hp u w hg (fun o' ho' e he hb => by
          obtain rfl := Option.some.inj (ho'.symm.trans ho)
          have hl := h3 e he hb
          have hen : e.on < n := by
            by_cases hlt : e.on < n
            · exact hlt
            · rw [hout e.on (by omega)] at hl; cases hl
          exact hφ e.on hen hl)
        have hd3 := List.all_eq_true.1 hD3 _ hp
        have hd4 := List.all_eq_true.1 hD4 _ hp
        simp only [ho, Option.bind_some, beq_iff_eq] at hd3
        have hd5 : d < a.tmps.size := by simp [Nat.blt] at hd4; omega
        have hst2 := wpOp_value (R := fun v w' => φ i' v w' ∧ G w' ∧ Below w.heap.size w w') ho hd3 (by rw [puts_size]; exact hd5) hst
        clear hst
        refine wpOp_mono ?_ hst2
        rintro a' w' ⟨v, rfl, hv, hg', hb'⟩
        rw [puts_put u i' d v D a hnd1 hD2 hp]
        refine ih (L.erase i') _ w' (upd u i' v) (by rw [List.length_erase_of_mem hiL]; omega) (hnd.erase i') (by simpa using hs) ?_ (fun j hj => hLn j (List.mem_of_mem_erase hj)) ?_ ?_ hg' ?_
        · intro j hj
          by_cases e : i' = j
          · subst e
            rw [getD_set_self hil]
            constructor
            · intro h; cases h
            · intro h; exact absurd h (hnd.not_mem_erase)
          · rw [getD_set_other e, hin j hj]
            exact (List.mem_erase_of_ne (Ne.symm e)).symm
        · intro j hj
          rw [getD_set_other (by omega)]
          exact hout j hj
        · intro j o' ho' hl e he hb
          by_cases ej : i' = j
          · subst ej
            obtain rfl := Option.some.inj (ho'.symm.trans ho)
            have := h3 e he hb
            by_cases e2 : i' = e.on
            · rw [← e2, getD_set_self hil]
            · rw [getD_set_other e2]; exact this
          · rw [getD_set_other ej] at hl
            have := hanc j o' ho' hl e he hb
            by_cases e2 : i' = e.on
            · rw [← e2, getD_set_self hil]
            · rw [getD_set_other e2]; exact this
        · intro j hj hl
          by_cases hji : j = i'
          · subst hji
            simpa [upd] using hv
          · have e1 : upd u i' v j = u j := by simp [upd, hji]
            rw [e1]
            rw [getD_set_other (Ne.symm hji)] at hl
            exact hmono j _ w w' (hφ j hj hl) hb'
  have hu : ∃ u : Nat → Value, puts D a u = a := by
    refine ⟨fun i => ((D.find? fun p => p.1 == i).map fun p => a.tmps.getD p.2 undef).getD undef, puts_self _ _ _ fun p hp => ?_⟩
    have : D.find? (fun q => q.1 == p.1) = some p := by
      clear fin step hD2 hD1 hD3 hD4 key
      induction D with
      | nil => cases hp
      | cons q D ih =>
        rw [List.map_cons, List.nodup_cons] at hnd1
        rcases List.mem_cons.1 hp with rfl | hp
        · simp
        · have hne : (q.1 == p.1) = false := by
            rw [beq_eq_false_iff_ne]
            intro e
            exact hnd1.1 (List.mem_map.2 ⟨p, hp, e.symm⟩)
          rw [List.find?_cons, hne]
          exact ih hnd1.2 hp
    simp only [this, Option.map_some, Option.getD_some]
  obtain ⟨u, hu⟩ := hu
  have hf : ∀ i, (Array.replicate ops.size false).getD i false = false := fun i => by
    by_cases h : i < ops.size <;> simp [Array.getD, h]
  have := key n (List.range n) (Array.replicate ops.size false) w.drew u (by simp) List.nodup_range (by simp) (fun i hi => by rw [hf]; simpa using hi) (fun i hi => List.mem_range.1 hi) (fun i _ => hf i)
    (fun i o _ hl => by rw [hf] at hl; cases hl) hG (fun i _ hl => by rw [hf] at hl; cases hl)
  rw [hu, show n + (ops.size - n) = ops.size by omega] at this
  exact this
end

/-! What operations yield. -/
def Is (x : Value) : Value → World → Prop := fun v _ => v = x
/-- A new slice that holds xs. -/
def New (xs : List Value) : Value → World → Prop := fun v w => ∃ b, v = .slice (some ⟨b, 0, none⟩) xs.length xs.length ∧ Lies w w.heap.size (some ⟨b, 0, none⟩) xs
def Monot (φ : Value → World → Prop) : Prop := ∀ v w w', φ v w → Below w.heap.size w w' → φ v w'
theorem Is.monot (x : Value) : Monot (Is x) := fun _ _ _ h _ => h
theorem New.monot (xs : List Value) : Monot (New xs) := fun _ _ _ ⟨b, h1, h2⟩ hb => ⟨b, h1, h2.step hb⟩

end Go.Proofs.YtbnjenbhpaknbaaGreat

/- A region that draws its order and whose last operation writes into one of the call's blocks: all but some late ones (X: pure, of no world) stand ahead of it. -/
namespace Go.Proofs.YtbnjenbhpaknbaaGreat
open Go.RowKit

section
variable {P : Program} {ops : Array Oper} {Q : Exit → Act → World → Prop}

/-- Each operation waits for none behind it, as far as waiting binds. -/
def ordX (ops : Array Oper) : Bool := (List.range ops.size).all fun i => (ops[i]?.map fun o => o.after.all fun e => !Region.binds .any e || decide (e.on < i)).getD true

theorem all_listedX (hord : ordX ops = true) {listed : Array Bool} (hs : listed.size = ops.size) (h : Region.ready .any ops listed = []) : ∀ i, listed.getD i true = true := by
  intro i
  induction i using Nat.strongRecOn with
  | ind i ih =>
    cases hi : listed.getD i true with
    | true => rfl
    | false =>
      have hlt : i < ops.size := by
        rw [← hs]
        by_cases hl : i < listed.size
        · exact hl
        · simp [Array.getD, hl] at hi
      have : i ∈ Region.ready .any ops listed := by
        refine mem_ready.2 ⟨hlt, hi, _, Array.getElem?_eq_getElem hlt, fun e he hbd => ?_⟩
        unfold ordX at hord
        rw [List.all_eq_true] at hord
        have h1 := hord i (List.mem_range.2 hlt)
        rw [Array.getElem?_eq_getElem hlt] at h1
        simp only [Option.map_some, Option.getD_some, Array.all_eq_true_iff_forall_mem] at h1
        have h2 := h1 e (by simpa using he)
        have hlt2 : e.on < i := by simpa [hbd] using h2
        have h3 := ih e.on hlt2
        have hl : e.on < listed.size := by omega
        simpa [Array.getD, hl] using h3
      rw [h] at this
      cases this

/-- An operation that yields nothing leaves the frame. -/
theorem upon_none {o : Oper} {a : Act} {R : World → Prop} (hd : o.dst = none) (r : Result Next)
    (h : o.upon P a (fun a' w' => a'.defers = a.defers ∧ R w') Q r) : o.upon P a (fun a' w' => a' = a ∧ R w') Q r := by
  have hput : ∀ v, a.put o.dst v = a := fun v => by rw [hd]; rfl
  have hk : ∀ v w', (fun (a' : Act) (w' : World) => a'.defers = a.defers ∧ R w') (a.put o.dst v) w' → (fun (a' : Act) (w' : World) => a' = a ∧ R w') (a.put o.dst v) w' := fun v w' h => ⟨hput v, h.2⟩
  cases r with
  | ok n w' =>
    cases n with
    | value v => exact hk v w' h
    | skip => exact hk undef w' h
    | defer e =>
      simp only [Oper.upon, hd, Act.put] at h
      have := congrArg List.length h.1
      simp at this
    | enter f args =>
      simp only [Oper.upon] at h ⊢
      refine Calls.mono h fun e w'' he => ?_
      cases e with
      | returned v => exact hk v w'' he
      | panicked c => exact he
      | outgrown => exact he
    | row row args =>
      simp only [Oper.upon] at h ⊢
      exact Rows.mono h fun v w'' he => hk v w'' he
    | _ => exact h
  | halt x w' => cases x <;> exact h
theorem wpOp_none {i : Nat} {o : Oper} {a : Act} {w : World} {R : World → Prop} (ho : ops[i]? = some o) (hd : o.dst = none)
    (h : wpOp P ops Q i (fun a' w' => a'.defers = a.defers ∧ R w') a w) : wpOp P ops Q i (fun a' w' => a' = a ∧ R w') a w := by
  unfold wpOp at *
  rw [ho] at h ⊢
  simp only at h ⊢
  split at h
  · rename_i hw
    rw [if_pos hw]
    rcases h with h | h
    · exact Or.inl (upon_none hd _ h)
    · exact Or.inr h
  · rename_i hw
    rw [if_neg hw]
    refine ⟨by rw [hd]; rfl, h.2⟩

/-- As region_inv, where some edges bind in one of the two orders alone. -/
theorem region_invX {id : Nat} {a : Act} {w : World} (D : List (Nat × Nat)) (φ : Nat → Value → World → Prop) (G : World → Prop) (hm : P.follows .mixedOrders = true)
    (hord : ordX ops = true) (hD1 : D.map (·.1) = List.range ops.size) (hD2 : (D.map (·.2)).Nodup) (hD3 : (D.all fun p => (ops[p.1]?.bind (·.dst)) == some p.2) = true) (hD4 : (D.all fun p => Nat.blt p.2 a.tmps.size) = true)
    (hmono : ∀ i v w w', φ i v w → Below w.heap.size w w' → φ i v w') (hG : G w.drew)
    (step : ∀ p ∈ D, ∀ u w, G w → Came ops φ u w p.1 →
      wpOp P ops Q p.1 (fun a' w' => a'.defers = (puts D a u).defers ∧ φ p.1 (a'.tmps.getD p.2 undef) w' ∧ G w' ∧ Below w.heap.size w w') (puts D a u) w)
    (fin : ∀ u w, G w → (∀ p ∈ D, φ p.1 (u p.1) w) → Q .normal (puts D a u) w) : (Code.region id ops true).wp P Q a w := by
  refine wp_region_any hm ?_
  have hnd1 : (D.map (·.1)).Nodup := by rw [hD1]; exact List.nodup_range
  have key : ∀ (fuel : Nat) (listed : Array Bool) (w : World) (u : Nat → Value) (L : List Nat), listed.size = ops.size → L.length ≤ fuel → (∀ i, listed.getD i true = false → i ∈ L) → G w →
      (∀ i, i < ops.size → listed.getD i true = true → φ i (u i) w) → wpAny P .any ops Q fuel listed (puts D a u) w := by
    intro fuel
    induction fuel with
    | zero =>
      intro listed w u L hs hL hin hg hφ
      have hall : ∀ i, listed.getD i true = true := fun i => by
        cases hi : listed.getD i true with
        | true => rfl
        | false => have := hin i hi; rw [List.length_eq_zero_iff.1 (Nat.le_zero.1 hL)] at this; cases this
      refine ⟨?_, fin u w hg fun p hp => hφ p.1 ?_ (hall _)⟩
      · rw [List.eq_nil_iff_forall_not_mem]
        intro i hi
        have := (mem_ready.1 hi).2.1
        rw [hall i] at this
        cases this
      · have : p.1 ∈ D.map (·.1) := List.mem_map.2 ⟨p, hp, rfl⟩
        rw [hD1] at this
        exact List.mem_range.1 this
    | succ fuel ih =>
      intro listed w u L hs hL hin hg hφ
      refine ⟨fun hr => fin u w hg fun p hp => hφ p.1 ?_ (all_listedX hord hs hr _), fun i hi => ?_⟩
      · have : p.1 ∈ D.map (·.1) := List.mem_map.2 ⟨p, hp, rfl⟩
        rw [hD1] at this
        exact List.mem_range.1 this
      · obtain ⟨h1, h2, o, ho, h3⟩ := mem_ready.1 hi
        have hiD : i ∈ D.map (·.1) := by rw [hD1]; exact List.mem_range.2 h1
        obtain ⟨⟨i', d⟩, hp, rfl⟩ := List.mem_map.1 hiD
        have hst := step _ hp u w hg (fun o' ho' e he hb => by
          have heq : o' = o := Option.some.inj (ho'.symm.trans ho)
          subst heq
          have hl := h3 e he hb
          have hlt : e.on < ops.size := by
            rw [← hs]
            by_cases hl2 : e.on < listed.size
            · exact hl2
            · simp [Array.getD, hl2] at hl
          refine hφ e.on hlt ?_
          have hl2 : e.on < listed.size := by omega
          simpa [Array.getD, hl2] using hl)
        have hd3 := List.all_eq_true.1 hD3 _ hp
        have hd4 := List.all_eq_true.1 hD4 _ hp
        simp only [ho, Option.bind_some, beq_iff_eq] at hd3
        have hd5 : d < a.tmps.size := by simp [Nat.blt] at hd4; omega
        have hst2 := wpOp_value (R := fun v w' => φ i' v w' ∧ G w' ∧ Below w.heap.size w w') ho hd3 (by rw [puts_size]; exact hd5) hst
        clear hst
        refine wpOp_mono ?_ hst2
        rintro a' w' ⟨v, rfl, hv, hg', hb'⟩
        rw [puts_put u i' d v D a hnd1 hD2 hp]
        refine ih _ w' (upd u i' v) (L.erase i') (by simpa using hs) ?_ ?_ hg' ?_
        · rw [List.length_erase_of_mem (hin i' h2)]
          omega
        · intro j hj
          have hji : j ≠ i' := fun e => by
            subst e
            have : j < listed.size := by omega
            simp [Array.getD, this] at hj
          refine (List.mem_erase_of_ne hji).2 (hin j ?_)
          simp only [Array.getD] at hj ⊢
          split at hj
          · rename_i hl
            rw [Array.size_setIfInBounds] at hl
            rw [dif_pos hl]
            rwa [Array.getInternal_eq_getElem, Array.getElem_setIfInBounds_ne (h := Ne.symm hji)] at hj
          · cases hj
        · intro j hj hl
          by_cases hji : j = i'
          · subst hji
            simpa [upd] using hv
          · have e1 : upd u i' v j = u j := by simp [upd, hji]
            rw [e1]
            refine hmono j _ w w' (hφ j hj ?_) hb'
            have hl2 : j < listed.size := by omega
            simp only [Array.getD, Array.size_setIfInBounds, hl2, dif_pos, Array.getInternal_eq_getElem] at hl ⊢
            rwa [Array.getElem_setIfInBounds_ne (h := Ne.symm hji)] at hl
  have hu : ∃ u : Nat → Value, puts D a u = a := by
    refine ⟨fun i => ((D.find? fun p => p.1 == i).map fun p => a.tmps.getD p.2 undef).getD undef, puts_self _ _ _ fun p hp => ?_⟩
    have : D.find? (fun q => q.1 == p.1) = some p := by
      clear fin step hD2 hD1 hD3 hD4 key
      induction D with
      | nil => cases hp
      | cons q D ih =>
        rw [List.map_cons, List.nodup_cons] at hnd1
        rcases List.mem_cons.1 hp with rfl | hp
        · simp
        · have hne : (q.1 == p.1) = false := by
            rw [beq_eq_false_iff_ne]
            intro e
            exact hnd1.1 (List.mem_map.2 ⟨p, hp, e.symm⟩)
          rw [List.find?_cons, hne]
          exact ih hnd1.2 hp
    simp only [this, Option.map_some, Option.getD_some]
  obtain ⟨u, hu⟩ := hu
  have := key ops.size (Array.replicate ops.size false) w.drew u (List.range ops.size) (by simp) (by simp) (fun i hi => by
    rw [List.mem_range]
    by_cases hl : i < ops.size
    · exact hl
    · simp [Array.getD, hl] at hi) hG (fun i hi hl => by simp [Array.getD, hi] at hl)
  rw [hu] at this
  exact this

theorem getD_tf {l : Array Bool} {i : Nat} (h : i < l.size) : l.getD i true = l.getD i false := by simp [Array.getD, h]

theorem region_store {id : Nat} {a : Act} {w : World} (s : Nat) (X : List Nat) (D : List (Nat × Nat)) (φ : Nat → Value → World → Prop) (G H : World → Prop) (hm : P.follows .mixedOrders = true)
    (hsz : ops.size = s + 1) (hord : ordX ops = true) (hcl : ((List.range s).all fun j => X.contains j || reachB ops ops.size s j) = true)
    (hD1 : D.map (·.1) = List.range s) (hD2 : (D.map (·.2)).Nodup) (hD3 : (D.all fun p => (ops[p.1]?.bind (·.dst)) == some p.2) = true) (hD4 : (D.all fun p => Nat.blt p.2 a.tmps.size) = true)
    (hS : (ops[s]?.map (·.dst)) = some none) (hmono : ∀ i v w w', φ i v w → Below w.heap.size w w' → φ i v w') (hG : G w.drew)
    (step : ∀ p ∈ D, ∀ u w, G w → Came ops φ u w p.1 →
      wpOp P ops Q p.1 (fun a' w' => a'.defers = (puts D a u).defers ∧ φ p.1 (a'.tmps.getD p.2 undef) w' ∧ G w' ∧ Below w.heap.size w w') (puts D a u) w)
    (stepX : ∀ p ∈ D, p.1 ∈ X → ∀ u w, H w → Came ops (fun i v _ => ∃ w1, φ i v w1) u w p.1 →
      wpOp P ops Q p.1 (fun a' w' => a'.defers = (puts D a u).defers ∧ (∃ w1, φ p.1 (a'.tmps.getD p.2 undef) w1) ∧ H w') (puts D a u) w)
    (stepS : ∀ u w, G w → (∀ p ∈ D, p.1 ∉ X → φ p.1 (u p.1) w) → wpOp P ops Q s (fun a' w' => a'.defers = (puts D a u).defers ∧ H w') (puts D a u) w)
    (fin : ∀ u w, H w → (∀ p ∈ D, ∃ w1, φ p.1 (u p.1) w1) → Q .normal (puts D a u) w) : (Code.region id ops true).wp P Q a w := by
  refine wp_region_any hm ?_
  have hnd1 : (D.map (·.1)).Nodup := by rw [hD1]; exact List.nodup_range
  have hmemD : ∀ i, i < s → ∃ d, (i, d) ∈ D := fun i hi => by
    have : i ∈ D.map (·.1) := by rw [hD1]; exact List.mem_range.2 hi
    obtain ⟨⟨i', d⟩, hp, rfl⟩ := List.mem_map.1 this
    exact ⟨d, hp⟩
  have hltD : ∀ p ∈ D, p.1 < s := fun p hp => by
    have : p.1 ∈ D.map (·.1) := List.mem_map.2 ⟨p, hp, rfl⟩
    rw [hD1] at this
    exact List.mem_range.1 this
  have hclX : ∀ j, j < s → j ∉ X → reachB ops ops.size s j = true := fun j hj hx => by
    have := List.all_eq_true.1 hcl j (List.mem_range.2 hj)
    rw [Bool.or_eq_true] at this
    rcases this with h | h
    · exact absurd (by simpa using h) hx
    · exact h
  have hslot : ∀ p ∈ D, ∀ o, ops[p.1]? = some o → o.dst = some p.2 ∧ p.2 < a.tmps.size := fun p hp o ho => by
    have hd3 := List.all_eq_true.1 hD3 _ hp
    have hd4 := List.all_eq_true.1 hD4 _ hp
    simp only [ho, Option.bind_some, beq_iff_eq] at hd3
    exact ⟨hd3, by simp [Nat.blt] at hd4; omega⟩
  -- behind the write
  have keyB : ∀ (fuel : Nat) (listed : Array Bool) (w : World) (u : Nat → Value) (L : List Nat), listed.size = ops.size → L.length ≤ fuel → (∀ i, listed.getD i true = false → i ∈ L) → H w →
      (∀ i, listed.getD i true = false → i < s ∧ i ∈ X) → (∀ i, i < s → listed.getD i true = true → ∃ w1, φ i (u i) w1) → wpAny P .any ops Q fuel listed (puts D a u) w := by
    intro fuel
    induction fuel with
    | zero =>
      intro listed w u L hs hL hin hh hX hφ
      have hall : ∀ i, listed.getD i true = true := fun i => by
        cases hi : listed.getD i true with
        | true => rfl
        | false => have := hin i hi; rw [List.length_eq_zero_iff.1 (Nat.le_zero.1 hL)] at this; cases this
      refine ⟨?_, fin u w hh fun p hp => hφ p.1 (hltD p hp) (hall _)⟩
      rw [List.eq_nil_iff_forall_not_mem]
      intro i hi
      have := (mem_ready.1 hi).2.1
      rw [hall i] at this
      cases this
    | succ fuel ih =>
      intro listed w u L hs hL hin hh hX hφ
      refine ⟨fun hr => fin u w hh fun p hp => hφ p.1 (hltD p hp) (all_listedX hord hs hr _), fun i hi => ?_⟩
      obtain ⟨h1, h2, o, ho, h3⟩ := mem_ready.1 hi
      obtain ⟨his, hiX⟩ := hX i h2
      obtain ⟨d, hp⟩ := hmemD i his
      have hst := stepX _ hp hiX u w hh (fun o' ho' e he hb => by
        obtain rfl := Option.some.inj (ho'.symm.trans ho)
        have hl := h3 e he hb
        have hlt : e.on < ops.size := by
          rw [← hs]
          by_cases hl2 : e.on < listed.size
          · exact hl2
          · simp [Array.getD, hl2] at hl
        have hes : e.on < s := by
          unfold ordX at hord
          have h4 := List.all_eq_true.1 hord i (List.mem_range.2 h1)
          rw [ho] at h4
          simp only [Option.map_some, Option.getD_some, Array.all_eq_true_iff_forall_mem] at h4
          have h5 := h4 e (by simpa using he)
          have h6 : e.on < i := by simpa [hb] using h5
          omega
        refine hφ e.on hes ?_
        rw [getD_tf (by omega)]
        exact hl)
      obtain ⟨hd3, hd5⟩ := hslot _ hp o ho
      have hst2 := wpOp_value (R := fun v w' => (∃ w1, φ i v w1) ∧ H w') ho hd3 (by rw [puts_size]; exact hd5) hst
      refine wpOp_mono ?_ hst2
      rintro a' w' ⟨v, rfl, hv, hh'⟩
      rw [puts_put u i d v D a hnd1 hD2 hp]
      refine ih _ w' (upd u i v) (L.erase i) (by simpa using hs) ?_ ?_ hh' ?_ ?_
      · rw [List.length_erase_of_mem (hin i h2)]
        omega
      · intro j hj
        have hji : j ≠ i := fun e => by
          subst e
          have : j < listed.size := by omega
          simp [Array.getD, this] at hj
        rw [getD_set_other (Ne.symm hji)] at hj
        exact (List.mem_erase_of_ne hji).2 (hin j hj)
      · intro j hj
        have hji : j ≠ i := fun e => by
          subst e
          have : j < listed.size := by omega
          simp [Array.getD, this] at hj
        rw [getD_set_other (Ne.symm hji)] at hj
        exact hX j hj
      · intro j hj hl
        by_cases hji : j = i
        · subst hji
          simpa [upd] using hv
        · have e1 : upd u i v j = u j := by simp [upd, hji]
          rw [e1]
          rw [getD_set_other (Ne.symm hji)] at hl
          exact hφ j hj hl
  -- ahead of the write
  have keyA : ∀ (fuel : Nat) (listed : Array Bool) (w : World) (u : Nat → Value) (L : List Nat), listed.size = ops.size → L.length ≤ fuel → (∀ i, listed.getD i true = false → i ∈ L) → listed.getD s true = false → Anc ops listed → G w →
      (∀ i, i < s → listed.getD i true = true → φ i (u i) w) → wpAny P .any ops Q fuel listed (puts D a u) w := by
    intro fuel
    induction fuel with
    | zero =>
      intro listed w u L hs hL hin hns _ hg hφ
      have := hin s hns
      rw [List.length_eq_zero_iff.1 (Nat.le_zero.1 hL)] at this
      cases this
    | succ fuel ih =>
      intro listed w u L hs hL hin hns hanc hg hφ
      refine ⟨fun hr => ?_, fun i hi => ?_⟩
      · have := all_listedX hord hs hr s
        rw [hns] at this
        cases this
      · obtain ⟨h1, h2, o, ho, h3⟩ := mem_ready.1 hi
        have hancn : Anc ops (listed.setIfInBounds i true) := by
          intro j o' ho' hl e he hb
          by_cases ej : i = j
          · subst ej
            obtain rfl := Option.some.inj (ho'.symm.trans ho)
            have := h3 e he hb
            by_cases e2 : i = e.on
            · rw [← e2, getD_set_self (by omega)]
            · rw [getD_set_other e2]; exact this
          · rw [getD_set_other ej] at hl
            have := hanc j o' ho' hl e he hb
            by_cases e2 : i = e.on
            · rw [← e2, getD_set_self (by omega)]
            · rw [getD_set_other e2]; exact this
        by_cases his : i = s
        · subst his
          have hall : ∀ j, j < i → j ∉ X → listed.getD j false = true := fun j hj hx =>
            reach_listed hanc ops.size i j (fun o' ho' e he hb => by
              obtain rfl := Option.some.inj (ho'.symm.trans ho)
              exact h3 e he hb) (hclX j hj hx)
          have hod : o.dst = none := by
            rw [ho] at hS
            simpa using hS
          refine wpOp_mono ?_ (wpOp_none ho hod (stepS u w hg fun p hp hx => hφ p.1 (hltD p hp) (by rw [getD_tf (by have := hltD p hp; omega)]; exact hall p.1 (hltD p hp) hx)))
          rintro a' w' ⟨rfl, hh⟩
          refine keyB fuel _ w' u (L.erase i) (by simpa using hs) ?_ ?_ hh ?_ ?_
          · rw [List.length_erase_of_mem (hin i h2)]
            omega
          · intro j hj
            have hji : j ≠ i := fun e => by
              subst e
              have : j < listed.size := by omega
              simp [Array.getD, this] at hj
            rw [getD_set_other (Ne.symm hji)] at hj
            exact (List.mem_erase_of_ne hji).2 (hin j hj)
          · intro j hj
            have hji : j ≠ i := fun e => by
              subst e
              have : j < listed.size := by omega
              simp [Array.getD, this] at hj
            rw [getD_set_other (Ne.symm hji)] at hj
            have hjl : j < listed.size := by
              by_cases hl : j < listed.size
              · exact hl
              · simp [Array.getD, hl] at hj
            refine ⟨by omega, Classical.byContradiction fun hx => ?_⟩
            have := hall j (by omega) hx
            rw [← getD_tf hjl, hj] at this
            cases this
          · intro j hj hl
            have hji : i ≠ j := by omega
            rw [getD_set_other hji] at hl
            exact ⟨w, hφ j hj hl⟩
        · have his2 : i < s := by omega
          obtain ⟨d, hp⟩ := hmemD i his2
          have hst := step _ hp u w hg (fun o' ho' e he hb => by
            obtain rfl := Option.some.inj (ho'.symm.trans ho)
            have hl := h3 e he hb
            have hlt : e.on < listed.size := by
              by_cases hl2 : e.on < listed.size
              · exact hl2
              · simp [Array.getD, hl2] at hl
            have hes : e.on < s := by
              unfold ordX at hord
              have h4 := List.all_eq_true.1 hord i (List.mem_range.2 h1)
              rw [ho] at h4
              simp only [Option.map_some, Option.getD_some, Array.all_eq_true_iff_forall_mem] at h4
              have h5 := h4 e (by simpa using he)
              have h6 : e.on < i := by simpa [hb] using h5
              omega
            refine hφ e.on hes ?_
            rw [getD_tf hlt]
            exact hl)
          obtain ⟨hd3, hd5⟩ := hslot _ hp o ho
          have hst2 := wpOp_value (R := fun v w' => φ i v w' ∧ G w' ∧ Below w.heap.size w w') ho hd3 (by rw [puts_size]; exact hd5) hst
          refine wpOp_mono ?_ hst2
          rintro a' w' ⟨v, rfl, hv, hg', hb'⟩
          rw [puts_put u i d v D a hnd1 hD2 hp]
          refine ih _ w' (upd u i v) (L.erase i) (by simpa using hs) ?_ ?_ (by rw [getD_set_other his]; exact hns) hancn hg' ?_
          · rw [List.length_erase_of_mem (hin i h2)]
            omega
          · intro j hj
            have hji : j ≠ i := fun e => by
              subst e
              have : j < listed.size := by omega
              simp [Array.getD, this] at hj
            rw [getD_set_other (Ne.symm hji)] at hj
            exact (List.mem_erase_of_ne hji).2 (hin j hj)
          · intro j hj hl
            by_cases hji : j = i
            · subst hji
              simpa [upd] using hv
            · have e1 : upd u i v j = u j := by simp [upd, hji]
              rw [e1]
              rw [getD_set_other (Ne.symm hji)] at hl
              exact hmono j _ w w' (hφ j hj hl) hb'
  have hu : ∃ u : Nat → Value, puts D a u = a := by
    refine ⟨fun i => ((D.find? fun p => p.1 == i).map fun p => a.tmps.getD p.2 undef).getD undef, puts_self _ _ _ fun p hp => ?_⟩
    have : D.find? (fun q => q.1 == p.1) = some p := by
      clear fin step stepX stepS hD2 hD1 hD3 hD4 keyA keyB hmemD hltD hslot
      induction D with
      | nil => cases hp
      | cons q D ih =>
        rw [List.map_cons, List.nodup_cons] at hnd1
        rcases List.mem_cons.1 hp with rfl | hp
        · simp
        · have hne : (q.1 == p.1) = false := by
            rw [beq_eq_false_iff_ne]
            intro e
            exact hnd1.1 (List.mem_map.2 ⟨p, hp, e.symm⟩)
          rw [List.find?_cons, hne]
          exact ih hnd1.2 hp
    simp only [this, Option.map_some, Option.getD_some]
  obtain ⟨u, hu⟩ := hu
  have hfF : ∀ i, (Array.replicate ops.size false).getD i false = false := fun i => by
    by_cases h : i < ops.size <;> simp [Array.getD, h]
  have := keyA ops.size (Array.replicate ops.size false) w.drew u (List.range ops.size) (by simp) (by simp) (fun i hi => by
    rw [List.mem_range]
    by_cases hl : i < ops.size
    · exact hl
    · simp [Array.getD, hl] at hi) (by simp [Array.getD, hsz]) (fun i o _ hl => by rw [hfF] at hl; cases hl) hG (fun i hi hl => by
    have : i < ops.size := by omega
    simp [Array.getD, this] at hl)
  rw [hu] at this
  exact this
end

end Go.Proofs.YtbnjenbhpaknbaaGreat

/- A region that draws its order and writes again a slot that it reads. -/
namespace Go.Proofs.YtbnjenbhpaknbaaGreat
open Go.RowKit

section
variable {P : Program} {ops : Array Oper} {Q : Exit → Act → World → Prop}

theorem getD_tf' {l : Array Bool} {i : Nat} (h : i < l.size) : l.getD i true = l.getD i false := by simp [Array.getD, h]
/-- As region_invX; what an operation that waits for this one is to write still holds what it held. -/
theorem region_invY {id : Nat} {a : Act} {w : World} (D : List (Nat × Nat)) (φ : Nat → Value → World → Prop) (G : World → Prop) (hm : P.follows .mixedOrders = true)
    (hord : ordX ops = true) (hD1 : D.map (·.1) = List.range ops.size) (hD2 : (D.map (·.2)).Nodup) (hD3 : (D.all fun p => (ops[p.1]?.bind (·.dst)) == some p.2) = true) (hD4 : (D.all fun p => Nat.blt p.2 a.tmps.size) = true)
    (hmono : ∀ i v w w', φ i v w → Below w.heap.size w w' → φ i v w') (hG : G w.drew)
    (step : ∀ p ∈ D, ∀ u w, G w → Came ops φ u w p.1 → (∀ p' ∈ D, reachB ops ops.size p'.1 p.1 = true → u p'.1 = a.tmps.getD p'.2 undef) →
      wpOp P ops Q p.1 (fun a' w' => a'.defers = (puts D a u).defers ∧ φ p.1 (a'.tmps.getD p.2 undef) w' ∧ G w' ∧ Below w.heap.size w w') (puts D a u) w)
    (fin : ∀ u w, G w → (∀ p ∈ D, φ p.1 (u p.1) w) → Q .normal (puts D a u) w) : (Code.region id ops true).wp P Q a w := by
  refine wp_region_any hm ?_
  have hnd1 : (D.map (·.1)).Nodup := by rw [hD1]; exact List.nodup_range
  have key : ∀ (fuel : Nat) (listed : Array Bool) (w : World) (u : Nat → Value) (L : List Nat), listed.size = ops.size → L.length ≤ fuel → (∀ i, listed.getD i true = false → i ∈ L) → Anc ops listed → (∀ p ∈ D, listed.getD p.1 false = false → u p.1 = a.tmps.getD p.2 undef) → G w →
      (∀ i, i < ops.size → listed.getD i true = true → φ i (u i) w) → wpAny P .any ops Q fuel listed (puts D a u) w := by
    intro fuel
    induction fuel with
    | zero =>
      intro listed w u L hs hL hin hanc hold hg hφ
      have hall : ∀ i, listed.getD i true = true := fun i => by
        cases hi : listed.getD i true with
        | true => rfl
        | false => have := hin i hi; rw [List.length_eq_zero_iff.1 (Nat.le_zero.1 hL)] at this; cases this
      refine ⟨?_, fin u w hg fun p hp => hφ p.1 ?_ (hall _)⟩
      · rw [List.eq_nil_iff_forall_not_mem]
        intro i hi
        have := (mem_ready.1 hi).2.1
        rw [hall i] at this
        cases this
      · have : p.1 ∈ D.map (·.1) := List.mem_map.2 ⟨p, hp, rfl⟩
        rw [hD1] at this
        exact List.mem_range.1 this
    | succ fuel ih =>
      intro listed w u L hs hL hin hanc hold hg hφ
      refine ⟨fun hr => fin u w hg fun p hp => hφ p.1 ?_ (all_listedX hord hs hr _), fun i hi => ?_⟩
      · have : p.1 ∈ D.map (·.1) := List.mem_map.2 ⟨p, hp, rfl⟩
        rw [hD1] at this
        exact List.mem_range.1 this
      · obtain ⟨h1, h2, o, ho, h3⟩ := mem_ready.1 hi
        have hiD : i ∈ D.map (·.1) := by rw [hD1]; exact List.mem_range.2 h1
        obtain ⟨⟨i', d⟩, hp, rfl⟩ := List.mem_map.1 hiD
        have hst := step _ hp u w hg (fun o' ho' e he hb => by
          have heq : o' = o := Option.some.inj (ho'.symm.trans ho)
          subst heq
          have hl := h3 e he hb
          have hlt : e.on < ops.size := by
            rw [← hs]
            by_cases hl2 : e.on < listed.size
            · exact hl2
            · simp [Array.getD, hl2] at hl
          refine hφ e.on hlt ?_
          have hl2 : e.on < listed.size := by omega
          simpa [Array.getD, hl2] using hl) (fun p' hp' hr => by
            refine hold p' hp' ?_
            cases hl : listed.getD p'.1 false with
            | false => rfl
            | true =>
              have := reach_listed hanc ops.size p'.1 i' (fun o' ho' e he hb => hanc p'.1 o' ho' hl e he hb) hr
              have hii : i' < listed.size := by omega
              rw [← getD_tf' hii, h2] at this
              cases this)
        have hd3 := List.all_eq_true.1 hD3 _ hp
        have hd4 := List.all_eq_true.1 hD4 _ hp
        simp only [ho, Option.bind_some, beq_iff_eq] at hd3
        have hd5 : d < a.tmps.size := by simp [Nat.blt] at hd4; omega
        have hst2 := wpOp_value (R := fun v w' => φ i' v w' ∧ G w' ∧ Below w.heap.size w w') ho hd3 (by rw [puts_size]; exact hd5) hst
        clear hst
        refine wpOp_mono ?_ hst2
        rintro a' w' ⟨v, rfl, hv, hg', hb'⟩
        rw [puts_put u i' d v D a hnd1 hD2 hp]
        refine ih _ w' (upd u i' v) (L.erase i') (by simpa using hs) ?_ ?_ ?_ ?_ hg' ?_
        · rw [List.length_erase_of_mem (hin i' h2)]
          omega
        · intro j hj
          have hji : j ≠ i' := fun e => by
            subst e
            have : j < listed.size := by omega
            simp [Array.getD, this] at hj
          refine (List.mem_erase_of_ne hji).2 (hin j ?_)
          simp only [Array.getD] at hj ⊢
          split at hj
          · rename_i hl
            rw [Array.size_setIfInBounds] at hl
            rw [dif_pos hl]
            rwa [Array.getInternal_eq_getElem, Array.getElem_setIfInBounds_ne (h := Ne.symm hji)] at hj
          · cases hj
        · intro j o' ho' hl e he hb
          by_cases ej : i' = j
          · subst ej
            obtain rfl := Option.some.inj (ho'.symm.trans ho)
            have := h3 e he hb
            by_cases e2 : i' = e.on
            · rw [← e2, getD_set_self (by omega)]
            · rw [getD_set_other e2]; exact this
          · rw [getD_set_other ej] at hl
            have := hanc j o' ho' hl e he hb
            by_cases e2 : i' = e.on
            · rw [← e2, getD_set_self (by omega)]
            · rw [getD_set_other e2]; exact this
        · intro p' hp' hl
          have hne : i' ≠ p'.1 := fun e => by
            rw [← e, getD_set_self (by omega)] at hl
            cases hl
          rw [getD_set_other hne] at hl
          have e1 : upd u i' v p'.1 = u p'.1 := by simp [upd, Ne.symm hne]
          rw [e1]
          exact hold p' hp' hl
        · intro j hj hl
          by_cases hji : j = i'
          · subst hji
            simpa [upd] using hv
          · have e1 : upd u i' v j = u j := by simp [upd, hji]
            rw [e1]
            refine hmono j _ w w' (hφ j hj ?_) hb'
            have hl2 : j < listed.size := by omega
            simp only [Array.getD, Array.size_setIfInBounds, hl2, dif_pos, Array.getInternal_eq_getElem] at hl ⊢
            rwa [Array.getElem_setIfInBounds_ne (h := Ne.symm hji)] at hl
  have hu : ∃ u : Nat → Value, (∀ p ∈ D, u p.1 = a.tmps.getD p.2 undef) ∧ puts D a u = a := by
    suffices hsf : ∃ u : Nat → Value, ∀ p ∈ D, u p.1 = a.tmps.getD p.2 undef by
      obtain ⟨u, hu⟩ := hsf
      exact ⟨u, hu, puts_self u a D hu⟩
    refine ⟨fun i => ((D.find? fun p => p.1 == i).map fun p => a.tmps.getD p.2 undef).getD undef, fun p hp => ?_⟩
    have : D.find? (fun q => q.1 == p.1) = some p := by
      clear fin step hD2 hD1 hD3 hD4 key
      induction D with
      | nil => cases hp
      | cons q D ih =>
        rw [List.map_cons, List.nodup_cons] at hnd1
        rcases List.mem_cons.1 hp with rfl | hp
        · simp
        · have hne : (q.1 == p.1) = false := by
            rw [beq_eq_false_iff_ne]
            intro e
            exact hnd1.1 (List.mem_map.2 ⟨p, hp, e.symm⟩)
          rw [List.find?_cons, hne]
          exact ih hnd1.2 hp
    simp only [this, Option.map_some, Option.getD_some]
  obtain ⟨u, hu0, hu⟩ := hu
  have := key ops.size (Array.replicate ops.size false) w.drew u (List.range ops.size) (by simp) (by simp) (fun i hi => by
    rw [List.mem_range]
    by_cases hl : i < ops.size
    · exact hl
    · simp [Array.getD, hl] at hi) (fun i o _ hl => by
    have hfF : ∀ i, (Array.replicate ops.size false).getD i false = false := fun i => by
      by_cases h : i < ops.size <;> simp [Array.getD, h]
    rw [hfF] at hl; cases hl) (fun p hp _ => hu0 p hp) hG (fun i hi hl => by simp [Array.getD, hi] at hl)
  rw [hu] at this
  exact this

end

end Go.Proofs.YtbnjenbhpaknbaaGreat

/- As region_invY, with another relation of worlds. -/
namespace Go.Proofs.YtbnjenbhpaknbaaGreat
open Go.RowKit
section
variable {P : Program} {ops : Array Oper} {Q : Exit → Act → World → Prop}
theorem region_invR (R : World → World → Prop) {id : Nat} {a : Act} {w : World} (D : List (Nat × Nat)) (φ : Nat → Value → World → Prop) (G : World → Prop) (hm : P.follows .mixedOrders = true)
    (hord : ordX ops = true) (hD1 : D.map (·.1) = List.range ops.size) (hD2 : (D.map (·.2)).Nodup) (hD3 : (D.all fun p => (ops[p.1]?.bind (·.dst)) == some p.2) = true) (hD4 : (D.all fun p => Nat.blt p.2 a.tmps.size) = true)
    (hmono : ∀ i v w w', φ i v w → R w w' → φ i v w') (hG : G w.drew)
    (step : ∀ p ∈ D, ∀ u w, G w → Came ops φ u w p.1 → (∀ p' ∈ D, reachB ops ops.size p'.1 p.1 = true → u p'.1 = a.tmps.getD p'.2 undef) →
      wpOp P ops Q p.1 (fun a' w' => a'.defers = (puts D a u).defers ∧ φ p.1 (a'.tmps.getD p.2 undef) w' ∧ G w' ∧ R w w') (puts D a u) w)
    (fin : ∀ u w, G w → (∀ p ∈ D, φ p.1 (u p.1) w) → Q .normal (puts D a u) w) : (Code.region id ops true).wp P Q a w := by
  refine wp_region_any hm ?_
  have hnd1 : (D.map (·.1)).Nodup := by rw [hD1]; exact List.nodup_range
  have key : ∀ (fuel : Nat) (listed : Array Bool) (w : World) (u : Nat → Value) (L : List Nat), listed.size = ops.size → L.length ≤ fuel → (∀ i, listed.getD i true = false → i ∈ L) → Anc ops listed → (∀ p ∈ D, listed.getD p.1 false = false → u p.1 = a.tmps.getD p.2 undef) → G w →
      (∀ i, i < ops.size → listed.getD i true = true → φ i (u i) w) → wpAny P .any ops Q fuel listed (puts D a u) w := by
    intro fuel
    induction fuel with
    | zero =>
      intro listed w u L hs hL hin hanc hold hg hφ
      have hall : ∀ i, listed.getD i true = true := fun i => by
        cases hi : listed.getD i true with
        | true => rfl
        | false => have := hin i hi; rw [List.length_eq_zero_iff.1 (Nat.le_zero.1 hL)] at this; cases this
      refine ⟨?_, fin u w hg fun p hp => hφ p.1 ?_ (hall _)⟩
      · rw [List.eq_nil_iff_forall_not_mem]
        intro i hi
        have := (mem_ready.1 hi).2.1
        rw [hall i] at this
        cases this
      · have : p.1 ∈ D.map (·.1) := List.mem_map.2 ⟨p, hp, rfl⟩
        rw [hD1] at this
        exact List.mem_range.1 this
    | succ fuel ih =>
      intro listed w u L hs hL hin hanc hold hg hφ
      refine ⟨fun hr => fin u w hg fun p hp => hφ p.1 ?_ (all_listedX hord hs hr _), fun i hi => ?_⟩
      · have : p.1 ∈ D.map (·.1) := List.mem_map.2 ⟨p, hp, rfl⟩
        rw [hD1] at this
        exact List.mem_range.1 this
      · obtain ⟨h1, h2, o, ho, h3⟩ := mem_ready.1 hi
        have hiD : i ∈ D.map (·.1) := by rw [hD1]; exact List.mem_range.2 h1
        obtain ⟨⟨i', d⟩, hp, rfl⟩ := List.mem_map.1 hiD
        have hst := step _ hp u w hg (fun o' ho' e he hb => by
          have heq : o' = o := Option.some.inj (ho'.symm.trans ho)
          subst heq
          have hl := h3 e he hb
          have hlt : e.on < ops.size := by
            rw [← hs]
            by_cases hl2 : e.on < listed.size
            · exact hl2
            · simp [Array.getD, hl2] at hl
          refine hφ e.on hlt ?_
          have hl2 : e.on < listed.size := by omega
          simpa [Array.getD, hl2] using hl) (fun p' hp' hr => by
            refine hold p' hp' ?_
            cases hl : listed.getD p'.1 false with
            | false => rfl
            | true =>
              have := reach_listed hanc ops.size p'.1 i' (fun o' ho' e he hb => hanc p'.1 o' ho' hl e he hb) hr
              have hii : i' < listed.size := by omega
              rw [← getD_tf' hii, h2] at this
              cases this)
        have hd3 := List.all_eq_true.1 hD3 _ hp
        have hd4 := List.all_eq_true.1 hD4 _ hp
        simp only [ho, Option.bind_some, beq_iff_eq] at hd3
        have hd5 : d < a.tmps.size := by simp [Nat.blt] at hd4; omega
        have hst2 := wpOp_value (R := fun v w' => φ i' v w' ∧ G w' ∧ R w w') ho hd3 (by rw [puts_size]; exact hd5) hst
        clear hst
        refine wpOp_mono ?_ hst2
        rintro a' w' ⟨v, rfl, hv, hg', hb'⟩
        rw [puts_put u i' d v D a hnd1 hD2 hp]
        refine ih _ w' (upd u i' v) (L.erase i') (by simpa using hs) ?_ ?_ ?_ ?_ hg' ?_
        · rw [List.length_erase_of_mem (hin i' h2)]
          omega
        · intro j hj
          have hji : j ≠ i' := fun e => by
            subst e
            have : j < listed.size := by omega
            simp [Array.getD, this] at hj
          refine (List.mem_erase_of_ne hji).2 (hin j ?_)
          simp only [Array.getD] at hj ⊢
          split at hj
          · rename_i hl
            rw [Array.size_setIfInBounds] at hl
            rw [dif_pos hl]
            rwa [Array.getInternal_eq_getElem, Array.getElem_setIfInBounds_ne (h := Ne.symm hji)] at hj
          · cases hj
        · intro j o' ho' hl e he hb
          by_cases ej : i' = j
          · subst ej
            obtain rfl := Option.some.inj (ho'.symm.trans ho)
            have := h3 e he hb
            by_cases e2 : i' = e.on
            · rw [← e2, getD_set_self (by omega)]
            · rw [getD_set_other e2]; exact this
          · rw [getD_set_other ej] at hl
            have := hanc j o' ho' hl e he hb
            by_cases e2 : i' = e.on
            · rw [← e2, getD_set_self (by omega)]
            · rw [getD_set_other e2]; exact this
        · intro p' hp' hl
          have hne : i' ≠ p'.1 := fun e => by
            rw [← e, getD_set_self (by omega)] at hl
            cases hl
          rw [getD_set_other hne] at hl
          have e1 : upd u i' v p'.1 = u p'.1 := by simp [upd, Ne.symm hne]
          rw [e1]
          exact hold p' hp' hl
        · intro j hj hl
          by_cases hji : j = i'
          · subst hji
            simpa [upd] using hv
          · have e1 : upd u i' v j = u j := by simp [upd, hji]
            rw [e1]
            refine hmono j _ w w' (hφ j hj ?_) hb'
            have hl2 : j < listed.size := by omega
            simp only [Array.getD, Array.size_setIfInBounds, hl2, dif_pos, Array.getInternal_eq_getElem] at hl ⊢
            rwa [Array.getElem_setIfInBounds_ne (h := Ne.symm hji)] at hl
  have hu : ∃ u : Nat → Value, (∀ p ∈ D, u p.1 = a.tmps.getD p.2 undef) ∧ puts D a u = a := by
    suffices hsf : ∃ u : Nat → Value, ∀ p ∈ D, u p.1 = a.tmps.getD p.2 undef by
      obtain ⟨u, hu⟩ := hsf
      exact ⟨u, hu, puts_self u a D hu⟩
    refine ⟨fun i => ((D.find? fun p => p.1 == i).map fun p => a.tmps.getD p.2 undef).getD undef, fun p hp => ?_⟩
    have : D.find? (fun q => q.1 == p.1) = some p := by
      clear fin step hD2 hD1 hD3 hD4 key
      induction D with
      | nil => cases hp
      | cons q D ih =>
        rw [List.map_cons, List.nodup_cons] at hnd1
        rcases List.mem_cons.1 hp with rfl | hp
        · simp
        · have hne : (q.1 == p.1) = false := by
            rw [beq_eq_false_iff_ne]
            intro e
            exact hnd1.1 (List.mem_map.2 ⟨p, hp, e.symm⟩)
          rw [List.find?_cons, hne]
          exact ih hnd1.2 hp
    simp only [this, Option.map_some, Option.getD_some]
  obtain ⟨u, hu0, hu⟩ := hu
  have := key ops.size (Array.replicate ops.size false) w.drew u (List.range ops.size) (by simp) (by simp) (fun i hi => by
    rw [List.mem_range]
    by_cases hl : i < ops.size
    · exact hl
    · simp [Array.getD, hl] at hi) (fun i o _ hl => by
    have hfF : ∀ i, (Array.replicate ops.size false).getD i false = false := fun i => by
      by_cases h : i < ops.size <;> simp [Array.getD, h]
    rw [hfF] at hl; cases hl) (fun p hp _ => hu0 p hp) hG (fun i hi hl => by simp [Array.getD, hi] at hl)
  rw [hu] at this
  exact this

end

end Go.Proofs.YtbnjenbhpaknbaaGreat

/- Contract of bytes.Repeat, of one byte. (gen_fla_rep.py) -/
namespace Go.Proofs.YtbnjenbhpaknbaaGreat
open Go.RowKit FlaMath
set_option linter.unusedVariables false
set_option maxRecDepth 100000

def rep (n : Nat) (x : Nat) : List Value := List.replicate n (.int .u8 (x : Int))
theorem rep_length (n x : Nat) : (rep n x).length = n := by simp [rep]
theorem rep_add (n m x : Nat) : rep (n + m) x = rep n x ++ rep m x := by simp [rep, List.replicate_append_replicate]
theorem rep_get (n x j : Nat) (h : j < n) : (rep n x)[j]? = some (.int .u8 (x : Int)) := by simp [rep, h]
theorem fone_byte : One Tryz.prog 5 := One.of (by kernel_rfl)
/-- A block of tot cells whose first k are x. -/
def St (g x tot k : Nat) (w : World) : Prop := ∃ z, Row w g 5 (rep k x ++ z) ∧ k + z.length = tot
theorem St.less {g x tot k m : Nat} {w : World} (h : St g x tot (k + m) w) : St g x tot k w := by
  obtain ⟨z, h1, h2⟩ := h
  exact ⟨rep m x ++ z, by rw [← List.append_assoc, ← rep_add]; exact h1, by rw [List.length_append, rep_length]; omega⟩
theorem St.step {g x tot k : Nat} {w w' : World} (h : St g x tot k w) (hb : Below w.heap.size w w') : St g x tot k w' := by
  obtain ⟨z, h1, h2⟩ := h
  exact ⟨z, h1.step hb, h2⟩
theorem copy_run (g x tot b c d m cap1 cap2 : Nat) (w : World) (h : St g x tot b w) (hm : m = Nat.min c d) (hcb : m ≤ b) (hbt : b + m ≤ tot) (ty : TypeId) :
    ∃ w', (Builtin.copy_ #[76, 76] ty #[.slice (some ⟨g, b, none⟩) d cap1, .slice (some ⟨g, 0, none⟩) c cap2]).run Tryz.prog w = .ok (.int .i64 (m : Int)) w' ∧ St g x tot (b + m) w' ∧ Only g w w' := by
  obtain ⟨z, h1, h2⟩ := h
  have hr := run_copy_row (P := Tryz.prog) w 76 76 ty 5 g b d cap1 ⟨g, 0, none⟩ c cap2 (rep b x ++ z).toArray 5 (rep m x) Tryz.underlying76 finfo_byte h1 (by rw [rep_length]; exact hm)
    (fun j v hj => by
      have hj2 : j < m := by
        rcases Nat.lt_or_ge j m with h | h
        · exact h
        · rw [List.getElem?_eq_none (by rw [rep_length]; exact h)] at hj; cases hj
      rw [rep_get m x j hj2] at hj
      rw [Addr.add_lit, Nat.zero_add, h1.cell, List.getElem?_append_left (by rw [rep_length]; omega), rep_get b x j (by omega)]
      exact hj) (by simp only [List.size_toArray, List.length_append, rep_length]; omega) (fun v hv => by simp [rep] at hv; rw [hv.2]; rfl)
  refine ⟨_, by rw [hr, rep_length]; rfl, ⟨z.drop m, ?_, by rw [List.length_drop]; omega⟩, (Only.refl g w).putRow g _ (Or.inl rfl)⟩
  have e : ((rep b x ++ z).toArray.toList.take b ++ rep m x ++ (rep b x ++ z).toArray.toList.drop (b + m)) = rep (b + m) x ++ z.drop m := by
    rw [rep_add]
    show (rep b x ++ z).take b ++ rep m x ++ (rep b x ++ z).drop (b + m) = _
    rw [List.take_left' (rep_length b x), ← List.drop_drop, List.drop_left' (rep_length b x)]
  rw [e]
  exact h1.put _
theorem made (n : Nat) (w : World) (hn : n ≤ 281474976710656) :
    ∃ cs w1, (callFunc 71 #[.int .i64 (n : Int)]).run Tryz.prog w = .ok (.value (.slice (some ⟨w.heap.size, 0, none⟩) n cs)) w1 ∧ (∃ l : List Value, Row w1 w.heap.size 5 l ∧ l.length = cs) ∧ Below w.heap.size w w1 ∧ n ≤ cs := by
  obtain ⟨cs, hrun, hle, _⟩ := Lib.run_makeNoZero (P := Tryz.prog) w #[3] 76 5 Tryz.underlying76 n hn
  have hb0 : Below w.heap.size w w.drew.drew := ((Below.refl w.heap.size w).drew).drew
  refine ⟨cs.size, w.drew.drew.alloc (.cells cs 5), ?_, ⟨cs.toList, ?_, by simp⟩, hb0.alloc (Nat.le_refl _) _, hle⟩
  · rw [run_callFunc_extern Tryz.func71 (by kernel_rfl) (by kernel_rfl) (by kernel_rfl) (e := Extern.BytealgMakeNoZero.makeNoZero #[3] #[76]) (by kernel_rfl), hrun]
    rfl
  · have := Row.new w.drew.drew 5 cs.toList
    simpa using this

set_option maxHeartbeats 1000000 in
theorem brepeat_small (q x n : Nat) (w : World) (h1 : 1 ≤ n) (hn : n ≤ 32768) (hcc : n ≤ 8192) (hs : Lies w w.heap.size (some ⟨q, 0, none⟩) [.int .u8 (x : Int)]) :
    Calls Tryz.prog 45 #[.slice (some ⟨q, 0, none⟩) 1 1, .int .i64 (n : Int)] w fun e w' => ∃ g tot, e = .returned (.slice (some ⟨g, 0, none⟩) n n) ∧ w.heap.size ≤ g ∧ St g x tot n w' ∧ Below w.heap.size w w' := by
  have hMul := Tryz.bits_Mul 1 n (by omega) (by omega) w
  rw [show 1 * n / 18446744073709551616 = 0 by omega, show 1 * n % 18446744073709551616 = n by omega] at hMul
  have HMU : Hid (Calls Tryz.prog 70 #[.int .u64 1, .int .u64 (n : Int)] w fun e w' => e = .returned (.tuple #[.int .u64 0, .int .u64 (n : Int)]) ∧ w = w') := Lib.hid (Calls.mono hMul fun e w' h => ⟨h.1, h.2.symm⟩)
  obtain ⟨cs, w1, hcall, ⟨l, hl1, hl2⟩, hb1, hle⟩ := made n w (by omega)
  obtain ⟨B, hB⟩ : ∃ B, w.heap.size = B := ⟨_, rfl⟩
  rw [hB] at hcall hl1
  have HB := Lib.hid hB
  clear hB
  obtain ⟨y, zl, rfl⟩ : ∃ y zl, l = y :: zl := by
    cases l with
    | nil => simp at hl2; omega
    | cons y zl => exact ⟨y, zl, rfl⟩
  have R1 : Hid (Row w1 B 5 ([] ++ [y] ++ zl)) := Lib.hid hl1
  have HS1 : Hid (Lies w1 w1.heap.size (some ⟨q, 0, none⟩) [.int .u8 (x : Int)]) := Lib.hid (hs.step hb1)
  have B1 := Lib.hid hb1
  have HL2 : Hid (1 + zl.length = cs) := Lib.hid (by rw [← hl2, List.length_cons]; omega)
  have k1 : (1 : Int) ≤ n := by omega
  have k2 : (n : Int) ≤ 32768 := by omega
  have k3 : (n : Int) ≤ cs := by omega
  have k4 : ((n : Int) == 0) = false := beq_eq_false_iff_ne.2 (by omega)
  have k5 : IntKind.u64.wrap (n : Int) = n := by rw [IntKind.wrap_u64]; omega
  have k6 : IntKind.u64.wrap 1 = 1 := by decide
  have k7 : wrap64 (n : Int) = n := by unfold wrap64; omega
  have k8 : ¬ (9223372036854775807 : Int) < n := by omega
  have k9 : ¬ (8192 : Int) < n := by omega
  have HA1 : Hid (([] : List Value).length = 0) := Lib.hid rfl
  have HA2 : Hid (([.int .u8 (x : Int)] : List Value).length = 1) := Lib.hid rfl
  have HA3 : Hid (0 < 1) := Lib.hid (by decide)
  have HA4 : Hid ([y].length = 1) := Lib.hid rfl
  have HA5 : Hid ([Value.int .u8 (x : Int)].all (·.oneCell') = true) := Lib.hid rfl
  have HN := Lib.hid hn
  have HH1 := Lib.hid h1
  have HCC := Lib.hid hcc
  clear hMul hs hl1 hl2 hb1 hn h1 hcc
  go_enter Tryz.func45, Tryz.ntmps45
  go_wp2_with (first
    | (go_at_call 70; (with_reducible refine HMU.out.mono ?_); rintro e u1 ⟨rfl, rfl⟩)
    | ((with_reducible refine R1.out.wpCopyLK HA1.out 76 n 1 Tryz.underlying76 fone_byte HS1.out HA2.out HA3.out HH1.out HA4.out HA5.out ?_ ?_); rfl; intro w2 r2 o2 s2; have R2 := Lib.hid r2; have O2 := Lib.hid o2; have S2 := Lib.hid s2; clear r2 o2 s2))
  have HST0 : Hid (St B x cs 1 w2) := Lib.hid ⟨zl, R2.out, HL2.out⟩
  have HO0 : Hid (Onl [] w w2) := Lib.hid ((Onl.of_below B1.out).only O2.out (Or.inr (Nat.le_of_eq HB.out)))
  clear R1 hcall
  go_loopw [10] (fun v wr => ∃ b : Nat, 1 ≤ b ∧ b ≤ n ∧ v = .int .i64 b ∧ St B x cs b wr ∧ Onl [] w wr) (fun v _ => n - (intOf v).toNat)
  case atStart => exact ⟨1, Nat.le_refl _, HH1.out, rfl, HST0.out, HO0.out⟩
  case round =>
    obtain ⟨b, hb1, hb2, rfl, hst, ho⟩ := hrel
    by_cases hlt : b < n
    · obtain ⟨c, hc⟩ : ∃ c, (if n < b then n else b) = c := ⟨_, rfl⟩
      have hc1 : 1 ≤ c ∧ c ≤ b := by
        have := HH1.out
        split at hc <;> omega
      have hmin : ∀ (ts : Array TypeId) (t : TypeId) (W : World), (Builtin.min_ ts t #[.int .i64 (b : Int), .int .i64 ((n : Int))]).run Tryz.prog W = .ok (.int .i64 (c : Int)) W := fun ts t W => by
        by_cases hq : n < b
        · have hcq : c = n := by rw [if_pos hq] at hc; exact hc.symm
          simp [Builtin.min_, Builtin.min2, hq, hcq]
        · have hcq : c = b := by rw [if_neg hq] at hc; exact hc.symm
          simp [Builtin.min_, Builtin.min2, hq, hcq]
      obtain ⟨m, hm⟩ : ∃ m, m = Nat.min c (n - b) := ⟨_, rfl⟩
      have hm1 : 1 ≤ m ∧ m ≤ c ∧ m ≤ n - b := by
        refine ⟨?_, by rw [hm]; exact Nat.min_le_left _ _, by rw [hm]; exact Nat.min_le_right _ _⟩
        rw [hm]
        exact Nat.le_min.2 ⟨hc1.1, by omega⟩
      have HMM := Lib.hid hm
      have HMB : Hid (m ≤ b) := Lib.hid (by omega)
      have HMB1 : Hid (1 ≤ m) := Lib.hid hm1.1
      have HMN : Hid (b + m ≤ n) := Lib.hid (by omega)
      have HMT : Hid (b + m ≤ cs) := Lib.hid (by omega)
      have HG : Hid (w.heap.size ≤ B) := Lib.hid (Nat.le_of_eq HB.out)
      have HST := Lib.hid hst
      have HO := Lib.hid ho
      have e1 : (b : Int) < n := by omega
      have e2 : (b : Int) ≤ n := by omega
      have e3 : ¬ n - b = 0 := by omega
      have e4 : ¬ (n : Int) - b = 0 := by omega
      have e5 : ¬ n = b := by omega
      have e6 : ¬ n ≤ b := by omega
      have e7 : (c : Int) ≤ n := by omega
      have e8 : 0 ≤ (c : Int) := by omega
      have e9 : b ≤ n := by omega
      have e10 : c ≤ n := by omega
      have ew : wrap64 ((b : Int) + m) = (b : Int) + m := by have := HN.out; unfold wrap64; omega
      have ew2 : IntKind.i64.wrap ((b : Int) + m) = (b : Int) + m := by rw [IntKind.wrap_i64]; unfold wrap64 at ew; exact ew
      clear hst ho hm hm1 hc hc1 hb1 hb2 k5 k6 k7 k8
      go_wp2
      refine region_invR (fun w1 w2 => St B x cs (b + m) w1 → St B x cs (b + m) w2) [(0, 67), (1, 68), (2, 69), (3, 70), (4, 71), (5, 72), (6, 73), (7, 74), (8, 75), (9, 10)]
        (fun i => [Is (.int .i64 (b : Int)), Is (.slice (some ⟨B, 0, none⟩) n n), Is (.int .i64 (b : Int)), Is (.slice (some ⟨B, b, none⟩) (n - b) (n - b)), Is (.slice (some ⟨B, 0, none⟩) n n), Is (.int .i64 (c : Int)), Is (.slice (some ⟨B, 0, none⟩) c n),
          (fun v wx => v = .int .i64 (m : Int) ∧ St B x cs (b + m) wx), Is (.int .i64 ((b : Int) + m)), Is (.int .i64 ((b : Int) + m))].getD i (Is undef))
        (fun wx => St B x cs b wx ∧ Onl [] w wx) (by kernel_rfl) (by kernel_rfl) (by decide) (by decide) (by kernel_rfl) rfl ?mono ⟨HST.out.step ((Below.refl _ _).drew), HO.out.step ((Below.refl _ _).drew)⟩ ?step ?fin
      case mono =>
        intro i
        match i with
        | 7 => exact fun v w1 w2 ⟨h1, h2⟩ hr => ⟨h1, hr h2⟩
        | 0 | 1 | 2 | 3 | 4 | 5 | 6 | 8 | 9 => exact fun v w1 w2 h _ => h
        | _ + 10 => exact fun v w1 w2 h _ => h
      case step =>
        refine List.forall_mem_cons.2 ⟨?s0, List.forall_mem_cons.2 ⟨?s1, List.forall_mem_cons.2 ⟨?s2, List.forall_mem_cons.2 ⟨?s3, List.forall_mem_cons.2 ⟨?s4, List.forall_mem_cons.2 ⟨?s5, List.forall_mem_cons.2 ⟨?s6, List.forall_mem_cons.2 ⟨?s7, List.forall_mem_cons.2 ⟨?s8, List.forall_mem_cons.2 ⟨?s9, (fun p hp => absurd hp (by simp))⟩⟩⟩⟩⟩⟩⟩⟩⟩⟩
        case s0 =>
          intro u wx hg hC hOld
          have hO9 : u 9 = .int .i64 (b : Int) := hOld (9, 10) (by decide) (by kernel_rfl)
          clear hC hOld
          refine wpOp_step rfl (fun K hK => ?_)
          simp only [puts, List.foldl]
          go_simp
          exact hK _ _ ⟨rfl, rfl, hg, id⟩
        case s1 =>
          intro u wx hg hC hOld
          clear hC hOld
          refine wpOp_step rfl (fun K hK => ?_)
          simp only [puts, List.foldl]
          go_simp
          exact hK _ _ ⟨rfl, rfl, hg, id⟩
        case s2 =>
          intro u wx hg hC hOld
          have hO9 : u 9 = .int .i64 (b : Int) := hOld (9, 10) (by decide) (by kernel_rfl)
          clear hC hOld
          refine wpOp_step rfl (fun K hK => ?_)
          simp only [puts, List.foldl]
          go_simp
          exact hK _ _ ⟨rfl, rfl, hg, id⟩
        case s3 =>
          intro u wx hg hC hOld
          have h1 : u 1 = .slice (some ⟨B, 0, none⟩) n n := hC.at 1 (by kernel_rfl)
          have h2 : u 2 = .int .i64 (b : Int) := hC.at 2 (by kernel_rfl)
          clear hC hOld
          refine wpOp_step rfl (fun K hK => ?_)
          simp only [puts, List.foldl]
          go_simp
          exact hK _ _ ⟨rfl, rfl, hg, id⟩
        case s4 =>
          intro u wx hg hC hOld
          clear hC hOld
          refine wpOp_step rfl (fun K hK => ?_)
          simp only [puts, List.foldl]
          go_simp
          exact hK _ _ ⟨rfl, rfl, hg, id⟩
        case s5 =>
          intro u wx hg hC hOld
          clear hC hOld
          refine wpOp_step rfl (fun K hK => ?_)
          simp only [puts, List.foldl]
          go_simp
          exact hK _ _ ⟨rfl, rfl, hg, id⟩
        case s6 =>
          intro u wx hg hC hOld
          have h4 : u 4 = .slice (some ⟨B, 0, none⟩) n n := hC.at 4 (by kernel_rfl)
          have h5 : u 5 = .int .i64 (c : Int) := hC.at 5 (by kernel_rfl)
          clear hC hOld
          refine wpOp_step rfl (fun K hK => ?_)
          simp only [puts, List.foldl]
          go_simp
          exact hK _ _ ⟨rfl, rfl, hg, id⟩
        case s7 =>
          intro u wx hg hC hOld
          have h3 : u 3 = .slice (some ⟨B, b, none⟩) (n - b) (n - b) := hC.at 3 (by kernel_rfl)
          have h6 : u 6 = .slice (some ⟨B, 0, none⟩) c n := hC.at 6 (by kernel_rfl)
          obtain ⟨wy, hrun, hst, hon⟩ := copy_run B x cs b c (n - b) m (n - b) n wx hg.1 HMM.out HMB.out HMT.out 3
          clear hC hOld
          refine wpOp_step rfl (fun K hK => ?_)
          simp only [puts, List.foldl]
          go_simp
          exact hK _ _ ⟨rfl, ⟨rfl, hst⟩, ⟨hst.less, hg.2.only hon (Or.inr HG.out)⟩, fun _ => hst⟩
        case s8 =>
          intro u wx hg hC hOld
          have h0 : u 0 = .int .i64 (b : Int) := hC.at 0 (by kernel_rfl)
          obtain ⟨h7, hst⟩ : u 7 = .int .i64 (m : Int) ∧ St B x cs (b + m) wx := hC.at 7 (by kernel_rfl)
          clear hC hOld
          refine wpOp_step rfl (fun K hK => ?_)
          simp only [puts, List.foldl]
          go_simp
          exact hK _ _ ⟨rfl, rfl, hg, id⟩
        case s9 =>
          intro u wx hg hC hOld
          have h8 : u 8 = .int .i64 ((b : Int) + m) := hC.at 8 (by kernel_rfl)
          clear hC hOld
          refine wpOp_step rfl (fun K hK => ?_)
          simp only [puts, List.foldl]
          go_simp
          exact hK _ _ ⟨rfl, rfl, hg, id⟩
      case fin =>
        intro u wx hg hφ
        have h9 : u 9 = .int .i64 ((b : Int) + m) := hφ (9, 10) (by decide)
        obtain ⟨h7, hst⟩ : u 7 = .int .i64 (m : Int) ∧ St B x cs (b + m) wx := hφ (7, 74) (by decide)
        have HST2 := Lib.hid hst
        have HO2 := Lib.hid hg.2
        clear hφ hst hg
        simp only [puts, List.foldl]
        go_simp
        go_wp2
        go_roundw
        case rel => exact ⟨b + m, by have := HMB1.out; omega, by have := HMN.out; omega, by simp, HST2.out, HO2.out⟩
        case measure => have := HMN.out; have := HMB1.out; simp [intOf]; omega
    · have eb : b = n := by omega
      subst eb
      have HST := Lib.hid hst
      have HO := Lib.hid ho
      clear hst ho
      go_wp2
      go_ret
      exact ⟨B, cs, rfl, Nat.le_of_eq HB.out, HST.out, HO.out.below (by simp) (Nat.le_refl _)⟩

set_option maxHeartbeats 1000000 in
theorem brepeat_great (q x n : Nat) (w : World) (h1 : 1 ≤ n) (hn : n ≤ 32768) (hcc : 8192 < n) (hs : Lies w w.heap.size (some ⟨q, 0, none⟩) [.int .u8 (x : Int)]) :
    Calls Tryz.prog 45 #[.slice (some ⟨q, 0, none⟩) 1 1, .int .i64 (n : Int)] w fun e w' => ∃ g tot, e = .returned (.slice (some ⟨g, 0, none⟩) n n) ∧ w.heap.size ≤ g ∧ St g x tot n w' ∧ Below w.heap.size w w' := by
  have hMul := Tryz.bits_Mul 1 n (by omega) (by omega) w
  rw [show 1 * n / 18446744073709551616 = 0 by omega, show 1 * n % 18446744073709551616 = n by omega] at hMul
  have HMU : Hid (Calls Tryz.prog 70 #[.int .u64 1, .int .u64 (n : Int)] w fun e w' => e = .returned (.tuple #[.int .u64 0, .int .u64 (n : Int)]) ∧ w = w') := Lib.hid (Calls.mono hMul fun e w' h => ⟨h.1, h.2.symm⟩)
  obtain ⟨cs, w1, hcall, ⟨l, hl1, hl2⟩, hb1, hle⟩ := made n w (by omega)
  obtain ⟨B, hB⟩ : ∃ B, w.heap.size = B := ⟨_, rfl⟩
  rw [hB] at hcall hl1
  have HB := Lib.hid hB
  clear hB
  obtain ⟨y, zl, rfl⟩ : ∃ y zl, l = y :: zl := by
    cases l with
    | nil => simp at hl2; omega
    | cons y zl => exact ⟨y, zl, rfl⟩
  have R1 : Hid (Row w1 B 5 ([] ++ [y] ++ zl)) := Lib.hid hl1
  have HS1 : Hid (Lies w1 w1.heap.size (some ⟨q, 0, none⟩) [.int .u8 (x : Int)]) := Lib.hid (hs.step hb1)
  have B1 := Lib.hid hb1
  have HL2 : Hid (1 + zl.length = cs) := Lib.hid (by rw [← hl2, List.length_cons]; omega)
  have k1 : (1 : Int) ≤ n := by omega
  have k2 : (n : Int) ≤ 32768 := by omega
  have k3 : (n : Int) ≤ cs := by omega
  have k4 : ((n : Int) == 0) = false := beq_eq_false_iff_ne.2 (by omega)
  have k5 : IntKind.u64.wrap (n : Int) = n := by rw [IntKind.wrap_u64]; omega
  have k6 : IntKind.u64.wrap 1 = 1 := by decide
  have k7 : wrap64 (n : Int) = n := by unfold wrap64; omega
  have k8 : ¬ (9223372036854775807 : Int) < n := by omega
  have k9 : (8192 : Int) < n := by omega
  have HA1 : Hid (([] : List Value).length = 0) := Lib.hid rfl
  have HA2 : Hid (([.int .u8 (x : Int)] : List Value).length = 1) := Lib.hid rfl
  have HA3 : Hid (0 < 1) := Lib.hid (by decide)
  have HA4 : Hid ([y].length = 1) := Lib.hid rfl
  have HA5 : Hid ([Value.int .u8 (x : Int)].all (·.oneCell') = true) := Lib.hid rfl
  have HN := Lib.hid hn
  have HH1 := Lib.hid h1
  have HCC := Lib.hid hcc
  clear hMul hs hl1 hl2 hb1 hn h1 hcc
  go_enter Tryz.func45, Tryz.ntmps45
  go_wp2_with (first
    | (go_at_call 70; (with_reducible refine HMU.out.mono ?_); rintro e u1 ⟨rfl, rfl⟩)
    | ((with_reducible refine R1.out.wpCopyLK HA1.out 76 n 1 Tryz.underlying76 fone_byte HS1.out HA2.out HA3.out HH1.out HA4.out HA5.out ?_ ?_); rfl; intro w2 r2 o2 s2; have R2 := Lib.hid r2; have O2 := Lib.hid o2; have S2 := Lib.hid s2; clear r2 o2 s2))
  have HST0 : Hid (St B x cs 1 w2) := Lib.hid ⟨zl, R2.out, HL2.out⟩
  have HO0 : Hid (Onl [] w w2) := Lib.hid ((Onl.of_below B1.out).only O2.out (Or.inr (Nat.le_of_eq HB.out)))
  clear R1 hcall
  go_loopw [10] (fun v wr => ∃ b : Nat, 1 ≤ b ∧ b ≤ n ∧ v = .int .i64 b ∧ St B x cs b wr ∧ Onl [] w wr) (fun v _ => n - (intOf v).toNat)
  case atStart => exact ⟨1, Nat.le_refl _, HH1.out, rfl, HST0.out, HO0.out⟩
  case round =>
    obtain ⟨b, hb1, hb2, rfl, hst, ho⟩ := hrel
    by_cases hlt : b < n
    · obtain ⟨c, hc⟩ : ∃ c, (if 8192 < b then 8192 else b) = c := ⟨_, rfl⟩
      have hc1 : 1 ≤ c ∧ c ≤ b := by
        have := HH1.out
        split at hc <;> omega
      have hmin : ∀ (ts : Array TypeId) (t : TypeId) (W : World), (Builtin.min_ ts t #[.int .i64 (b : Int), .int .i64 ((8192 : Int))]).run Tryz.prog W = .ok (.int .i64 (c : Int)) W := fun ts t W => by
        by_cases hq : 8192 < b
        · have hcq : c = 8192 := by rw [if_pos hq] at hc; exact hc.symm
          have hq2 : (8192 : Int) < (b : Int) := by omega
          simp [Builtin.min_, Builtin.min2, hq2, hcq]
        · have hcq : c = b := by rw [if_neg hq] at hc; exact hc.symm
          have hq2 : ¬ (8192 : Int) < (b : Int) := by omega
          simp [Builtin.min_, Builtin.min2, hq2, hcq]
      obtain ⟨m, hm⟩ : ∃ m, m = Nat.min c (n - b) := ⟨_, rfl⟩
      have hm1 : 1 ≤ m ∧ m ≤ c ∧ m ≤ n - b := by
        refine ⟨?_, by rw [hm]; exact Nat.min_le_left _ _, by rw [hm]; exact Nat.min_le_right _ _⟩
        rw [hm]
        exact Nat.le_min.2 ⟨hc1.1, by omega⟩
      have HMM := Lib.hid hm
      have HMB : Hid (m ≤ b) := Lib.hid (by omega)
      have HMB1 : Hid (1 ≤ m) := Lib.hid hm1.1
      have HMN : Hid (b + m ≤ n) := Lib.hid (by omega)
      have HMT : Hid (b + m ≤ cs) := Lib.hid (by omega)
      have HG : Hid (w.heap.size ≤ B) := Lib.hid (Nat.le_of_eq HB.out)
      have HST := Lib.hid hst
      have HO := Lib.hid ho
      have e1 : (b : Int) < n := by omega
      have e2 : (b : Int) ≤ n := by omega
      have e3 : ¬ n - b = 0 := by omega
      have e4 : ¬ (n : Int) - b = 0 := by omega
      have e5 : ¬ n = b := by omega
      have e6 : ¬ n ≤ b := by omega
      have e7 : (c : Int) ≤ n := by omega
      have e8 : 0 ≤ (c : Int) := by omega
      have e9 : b ≤ n := by omega
      have e10 : c ≤ n := by omega
      have ew : wrap64 ((b : Int) + m) = (b : Int) + m := by have := HN.out; unfold wrap64; omega
      have ew2 : IntKind.i64.wrap ((b : Int) + m) = (b : Int) + m := by rw [IntKind.wrap_i64]; unfold wrap64 at ew; exact ew
      clear hst ho hm hm1 hc hc1 hb1 hb2 k5 k6 k7 k8
      go_wp2
      refine region_invR (fun w1 w2 => St B x cs (b + m) w1 → St B x cs (b + m) w2) [(0, 67), (1, 68), (2, 69), (3, 70), (4, 71), (5, 72), (6, 73), (7, 74), (8, 75), (9, 10)]
        (fun i => [Is (.int .i64 (b : Int)), Is (.slice (some ⟨B, 0, none⟩) n n), Is (.int .i64 (b : Int)), Is (.slice (some ⟨B, b, none⟩) (n - b) (n - b)), Is (.slice (some ⟨B, 0, none⟩) n n), Is (.int .i64 (c : Int)), Is (.slice (some ⟨B, 0, none⟩) c n),
          (fun v wx => v = .int .i64 (m : Int) ∧ St B x cs (b + m) wx), Is (.int .i64 ((b : Int) + m)), Is (.int .i64 ((b : Int) + m))].getD i (Is undef))
        (fun wx => St B x cs b wx ∧ Onl [] w wx) (by kernel_rfl) (by kernel_rfl) (by decide) (by decide) (by kernel_rfl) rfl ?mono ⟨HST.out.step ((Below.refl _ _).drew), HO.out.step ((Below.refl _ _).drew)⟩ ?step ?fin
      case mono =>
        intro i
        match i with
        | 7 => exact fun v w1 w2 ⟨h1, h2⟩ hr => ⟨h1, hr h2⟩
        | 0 | 1 | 2 | 3 | 4 | 5 | 6 | 8 | 9 => exact fun v w1 w2 h _ => h
        | _ + 10 => exact fun v w1 w2 h _ => h
      case step =>
        refine List.forall_mem_cons.2 ⟨?s0, List.forall_mem_cons.2 ⟨?s1, List.forall_mem_cons.2 ⟨?s2, List.forall_mem_cons.2 ⟨?s3, List.forall_mem_cons.2 ⟨?s4, List.forall_mem_cons.2 ⟨?s5, List.forall_mem_cons.2 ⟨?s6, List.forall_mem_cons.2 ⟨?s7, List.forall_mem_cons.2 ⟨?s8, List.forall_mem_cons.2 ⟨?s9, (fun p hp => absurd hp (by simp))⟩⟩⟩⟩⟩⟩⟩⟩⟩⟩
        case s0 =>
          intro u wx hg hC hOld
          have hO9 : u 9 = .int .i64 (b : Int) := hOld (9, 10) (by decide) (by kernel_rfl)
          clear hC hOld
          refine wpOp_step rfl (fun K hK => ?_)
          simp only [puts, List.foldl]
          go_simp
          exact hK _ _ ⟨rfl, rfl, hg, id⟩
        case s1 =>
          intro u wx hg hC hOld
          clear hC hOld
          refine wpOp_step rfl (fun K hK => ?_)
          simp only [puts, List.foldl]
          go_simp
          exact hK _ _ ⟨rfl, rfl, hg, id⟩
        case s2 =>
          intro u wx hg hC hOld
          have hO9 : u 9 = .int .i64 (b : Int) := hOld (9, 10) (by decide) (by kernel_rfl)
          clear hC hOld
          refine wpOp_step rfl (fun K hK => ?_)
          simp only [puts, List.foldl]
          go_simp
          exact hK _ _ ⟨rfl, rfl, hg, id⟩
        case s3 =>
          intro u wx hg hC hOld
          have h1 : u 1 = .slice (some ⟨B, 0, none⟩) n n := hC.at 1 (by kernel_rfl)
          have h2 : u 2 = .int .i64 (b : Int) := hC.at 2 (by kernel_rfl)
          clear hC hOld
          refine wpOp_step rfl (fun K hK => ?_)
          simp only [puts, List.foldl]
          go_simp
          exact hK _ _ ⟨rfl, rfl, hg, id⟩
        case s4 =>
          intro u wx hg hC hOld
          clear hC hOld
          refine wpOp_step rfl (fun K hK => ?_)
          simp only [puts, List.foldl]
          go_simp
          exact hK _ _ ⟨rfl, rfl, hg, id⟩
        case s5 =>
          intro u wx hg hC hOld
          clear hC hOld
          refine wpOp_step rfl (fun K hK => ?_)
          simp only [puts, List.foldl]
          go_simp
          exact hK _ _ ⟨rfl, rfl, hg, id⟩
        case s6 =>
          intro u wx hg hC hOld
          have h4 : u 4 = .slice (some ⟨B, 0, none⟩) n n := hC.at 4 (by kernel_rfl)
          have h5 : u 5 = .int .i64 (c : Int) := hC.at 5 (by kernel_rfl)
          clear hC hOld
          refine wpOp_step rfl (fun K hK => ?_)
          simp only [puts, List.foldl]
          go_simp
          exact hK _ _ ⟨rfl, rfl, hg, id⟩
        case s7 =>
          intro u wx hg hC hOld
          have h3 : u 3 = .slice (some ⟨B, b, none⟩) (n - b) (n - b) := hC.at 3 (by kernel_rfl)
          have h6 : u 6 = .slice (some ⟨B, 0, none⟩) c n := hC.at 6 (by kernel_rfl)
          obtain ⟨wy, hrun, hst, hon⟩ := copy_run B x cs b c (n - b) m (n - b) n wx hg.1 HMM.out HMB.out HMT.out 3
          clear hC hOld
          refine wpOp_step rfl (fun K hK => ?_)
          simp only [puts, List.foldl]
          go_simp
          exact hK _ _ ⟨rfl, ⟨rfl, hst⟩, ⟨hst.less, hg.2.only hon (Or.inr HG.out)⟩, fun _ => hst⟩
        case s8 =>
          intro u wx hg hC hOld
          have h0 : u 0 = .int .i64 (b : Int) := hC.at 0 (by kernel_rfl)
          obtain ⟨h7, hst⟩ : u 7 = .int .i64 (m : Int) ∧ St B x cs (b + m) wx := hC.at 7 (by kernel_rfl)
          clear hC hOld
          refine wpOp_step rfl (fun K hK => ?_)
          simp only [puts, List.foldl]
          go_simp
          exact hK _ _ ⟨rfl, rfl, hg, id⟩
        case s9 =>
          intro u wx hg hC hOld
          have h8 : u 8 = .int .i64 ((b : Int) + m) := hC.at 8 (by kernel_rfl)
          clear hC hOld
          refine wpOp_step rfl (fun K hK => ?_)
          simp only [puts, List.foldl]
          go_simp
          exact hK _ _ ⟨rfl, rfl, hg, id⟩
      case fin =>
        intro u wx hg hφ
        have h9 : u 9 = .int .i64 ((b : Int) + m) := hφ (9, 10) (by decide)
        obtain ⟨h7, hst⟩ : u 7 = .int .i64 (m : Int) ∧ St B x cs (b + m) wx := hφ (7, 74) (by decide)
        have HST2 := Lib.hid hst
        have HO2 := Lib.hid hg.2
        clear hφ hst hg
        simp only [puts, List.foldl]
        go_simp
        go_wp2
        go_roundw
        case rel => exact ⟨b + m, by have := HMB1.out; omega, by have := HMN.out; omega, by simp, HST2.out, HO2.out⟩
        case measure => have := HMN.out; have := HMB1.out; simp [intOf]; omega
    · have eb : b = n := by omega
      subst eb
      have HST := Lib.hid hst
      have HO := Lib.hid ho
      clear hst ho
      go_wp2
      go_ret
      exact ⟨B, cs, rfl, Nat.le_of_eq HB.out, HST.out, HO.out.below (by simp) (Nat.le_refl _)⟩

theorem brepeat_any (q x n : Nat) (w : World) (h1 : 1 ≤ n) (hn : n ≤ 32768) (hs : Lies w w.heap.size (some ⟨q, 0, none⟩) [.int .u8 (x : Int)]) :
    Calls Tryz.prog 45 #[.slice (some ⟨q, 0, none⟩) 1 1, .int .i64 (n : Int)] w fun e w' => ∃ g tot, e = .returned (.slice (some ⟨g, 0, none⟩) n n) ∧ w.heap.size ≤ g ∧ St g x tot n w' ∧ Below w.heap.size w w' := by
  rcases Nat.lt_or_ge 8192 n with h | h
  · exact brepeat_great q x n w h1 hn h hs
  · exact brepeat_small q x n w h1 hn h hs
end Go.Proofs.YtbnjenbhpaknbaaGreat

/- A guarded operation whose guard holds, in a region that draws its order (for region_inv's steps). -/
namespace Go.Proofs.YtbnjenbhpaknbaaGreat
open Go.RowKit
section
variable {P : Program} {ops : Array Oper} {Q : Exit → Act → World → Prop}
theorem put_get (a : Act) (d : Nat) (v : Value) (hs : d < a.tmps.size) : (a.put (some d) v).tmps.getD d undef = v := by simp [Act.put, hs]
theorem put_get_ne (a : Act) (d e : Nat) (v : Value) (h : e ≠ d) : (a.put (some d) v).tmps.getD e undef = a.tmps.getD e undef := by
  simp only [Act.put, Array.getD_eq_getD_getElem?, Array.getElem?_setIfInBounds]
  rw [if_neg (fun e' => h e'.symm)]
theorem puts_get_out (u : Nat → Value) : ∀ (D : List (Nat × Nat)) (a : Act) (d : Nat), (∀ p ∈ D, p.2 ≠ d) → (puts D a u).tmps.getD d undef = a.tmps.getD d undef
  | [], _, _, _ => rfl
  | p :: D, a, d, h => by
    show (puts D (a.put (some p.2) (u p.1)) u).tmps.getD d undef = _
    rw [puts_get_out u D _ d fun q hq => h q (List.mem_cons_of_mem _ hq), put_get_ne _ _ _ _ (fun e => h p (List.mem_cons_self ..) e.symm)]
theorem puts_get (u : Nat → Value) (i d : Nat) : ∀ (D : List (Nat × Nat)) (a : Act), (D.map (·.2)).Nodup → (i, d) ∈ D → Nat.blt d a.tmps.size = true → (puts D a u).tmps.getD d undef = u i
  | p :: D, a, hn, hm, hs0 => by
    have hs : d < a.tmps.size := Nat.blt_eq ▸ hs0
    rw [List.map_cons, List.nodup_cons] at hn
    show (puts D (a.put (some p.2) (u p.1)) u).tmps.getD d undef = _
    rcases List.mem_cons.1 hm with rfl | hm
    · rw [puts_get_out u D _ d fun q hq e => hn.1 (List.mem_map.2 ⟨q, hq, e⟩), put_get _ _ _ hs]
    · exact puts_get u i d D _ hn.2 hm (by simpa [Act.put] using hs0)
theorem puts_room (u : Nat → Value) {D : List (Nat × Nat)} {a : Act} {d : Nat} (h : Nat.blt d a.tmps.size = true) : d < (puts D a u).tmps.size := by rw [puts_size]; exact Nat.blt_eq ▸ h
theorem wpOp_guard {i : Nat} {o : Oper} {a : Act} {w : World} {K : Act → World → Prop} (ho : ops[i]? = some o) (j d : Nat) (b : Bool) (hgd : o.guard = some (j, b)) (hd : (ops[j]?).bind (·.dst) = some d) (hs : d < a.tmps.size) (hv : a.tmps.getD d undef = .bool b)
    (h : ∀ K' : Act → World → Prop, (∀ a w, K a w → K' a w) → o.wp P a w K' Q) : wpOp P ops Q i K a w := by
  have hy : yielded ops a.tmps j = some b := by
    unfold yielded
    rw [hd]
    have : a.tmps[d]? = some (.bool b) := by
      rw [Array.getD_eq_getD_getElem?] at hv
      rw [Array.getElem?_eq_getElem hs] at hv ⊢
      simpa using hv
    simp [this]
  unfold wpOp
  rw [ho]
  show if Region.wanted o (yielded ops a.tmps) = true then _ else _
  rw [if_pos (by unfold Region.wanted; rw [hgd]; simp [hy])]
  exact .inl (h K fun _ _ h => h)
theorem wpOp_skip {i : Nat} {o : Oper} {a : Act} {w : World} {K : Act → World → Prop} (ho : ops[i]? = some o) (j d : Nat) (b : Bool) (hgd : o.guard = some (j, b)) (hd : (ops[j]?).bind (·.dst) = some d) (hs : d < a.tmps.size) (hv : a.tmps.getD d undef = .bool !b)
    (h : K (a.put o.dst undef) w) : wpOp P ops Q i K a w := by
  have hy : yielded ops a.tmps j = some !b := by
    unfold yielded
    rw [hd]
    have : a.tmps[d]? = some (.bool !b) := by
      rw [Array.getD_eq_getD_getElem?] at hv
      rw [Array.getElem?_eq_getElem hs] at hv ⊢
      simpa using hv
    simp [this]
  unfold wpOp
  rw [ho]
  show if Region.wanted o (yielded ops a.tmps) = true then _ else _
  rw [if_neg (by unfold Region.wanted; rw [hgd]; cases b <;> simp [hy])]
  exact h
end
end Go.Proofs.YtbnjenbhpaknbaaGreat

/- make in a region that draws its order. -/
namespace Go.Proofs.YtbnjenbhpaknbaaGreat
open Go.RowKit
set_option linter.unusedVariables false
theorem opMake {P : Program} {o : Oper} {a : Act} {w : World} {K : Act → World → Prop} {Q : Exit → Act → World → Prop} (T e : TypeId) (zv : Value) (n c : Nat) (hT : P.underlying T = some (.slice e)) (hz : (P.info? e).map (fun i => (i.zero, i.size, i.bytes)) = some (some zv, 1, 8) ∨ (P.info? e).map (fun i => (i.zero, i.size, i.bytes)) = some (some zv, 1, 1)) (hzc : zv.cells = #[zv])
    (hn : n ≤ c) (hc : c ≤ 1099511627776) (ho : makeOf o a = some (T, .int .i64 (n : Int), .int .i64 (c : Int)))
    (k : ∀ w', Row w' w.heap.size e (List.replicate c zv) → Below w.heap.size w w' → w'.heap.size = w.heap.size + 1 → K (a.put o.dst (.slice (some ⟨w.heap.size, 0, none⟩) n c)) w') : o.wp P a w K Q := by
  obtain ⟨hg, x, y, hop, hx, hy⟩ := makeOf_spec ho
  cases hq : P.info? e with
  | none => rw [hq] at hz; rcases hz with h | h <;> cases h
  | some i =>
    rw [hq] at hz
    have hi : i.zero = some zv ∧ i.size = 1 ∧ i.bytes ≤ 8 := by
      rcases hz with h | h <;> simp only [Option.map_some, Option.some.injEq, Prod.mk.injEq] at h <;> exact ⟨h.1, h.2.1, by omega⟩
    have hb : (i.bytes : Int) * (c : Int) ≤ 281474976710656 := by
      have h1 : i.bytes * c ≤ 8 * 1099511627776 := Nat.mul_le_mul hi.2.2 hc
      have h2 : ((i.bytes * c : Nat) : Int) ≤ 281474976710656 := by omega
      rwa [Int.natCast_mul] at h2
    have hr := run_make (P := P) w T e i zv hT hq hi.1 .i64 .i64 (n : Int) (c : Int) (by omega) (by omega) hb (by omega)
    rw [Int.toNat_natCast, Int.toNat_natCast, hi.2.1, Nat.mul_one, hzc] at hr
    have hm : madeCells #[zv] c = (List.replicate c zv).toArray := by
      apply Array.ext'
      rw [toList_madeCells_one]
    rw [hm] at hr
    unfold Oper.wp execOp
    simp only [hop, hx, hy, Sem.run_bind, hr, Result.andThen_ok]
    exact k _ (Row.new w e _) ((Below.refl _ _).alloc (Nat.le_refl _) _) (by simp)
theorem opMakeK {P : Program} {o : Oper} {A : Act} {wx : World} {K : Act → World → Prop} {Q : Exit → Act → World → Prop} {φ : Value → World → Prop} {G : World → Prop} (d : Nat) (hd : o.dst = some d) (hs : d < A.tmps.size)
    (hK : ∀ a' w', (a'.defers = A.defers ∧ φ (a'.tmps.getD d undef) w' ∧ G w' ∧ Below wx.heap.size wx w') → K a' w')
    (T e : TypeId) (zv : Value) (n c : Nat) (hT : P.underlying T = some (.slice e)) (hz : (P.info? e).map (fun i => (i.zero, i.size, i.bytes)) = some (some zv, 1, 8) ∨ (P.info? e).map (fun i => (i.zero, i.size, i.bytes)) = some (some zv, 1, 1)) (hzc : zv.cells = #[zv])
    (hn : n ≤ c) (hc : c ≤ 1099511627776) (ho : makeOf o A = some (T, .int .i64 (n : Int), .int .i64 (c : Int)))
    (k : ∀ w', Row w' wx.heap.size e (List.replicate c zv) → Below wx.heap.size wx w' → φ (.slice (some ⟨wx.heap.size, 0, none⟩) n c) w' ∧ G w') : o.wp P A wx K Q :=
  opMake T e zv n c hT hz hzc hn hc ho fun w' h1 h2 _ => hK _ _ ⟨by rw [hd]; rfl, by rw [hd, put_get A d _ hs]; exact (k w' h1 h2).1, (k w' h1 h2).2, h2⟩
theorem makeOf_tmp {o : Oper} {a : Act} (T : TypeId) (k : Nat) {v : Value} (hg : o.guard = none) (hop : o.op = .makeSlice T (.tmp k) (.tmp k)) (h : a.tmps.getD k undef = v) : makeOf o a = some (T, v, v) := by
  unfold makeOf
  rw [hg, hop]
  show some (T, a.eval (.tmp k), a.eval (.tmp k)) = _
  rw [show a.eval (.tmp k) = a.tmps.getD k undef from rfl, h]
end Go.Proofs.YtbnjenbhpaknbaaGreat

/- Contract of flash.New. (gen_fla_new.py) -/
namespace Go.Proofs.YtbnjenbhpaknbaaGreat
open Go.RowKit FlaMath
set_option linter.unusedVariables false
set_option maxRecDepth 100000

/-- A new device. -/
def D0 (n : Nat) : Dv := ⟨0, 0, false, 0, List.replicate (n * 64) 255, List.replicate n false, List.replicate n 0, 0, false⟩
def Stv (B n : Nat) : Value → World → Prop := fun v w => ∃ g tot, v = .slice (some ⟨g, 0, none⟩) n n ∧ B ≤ g ∧ St g 255 tot n w
theorem Stv.monot (B n : Nat) : Monot (Stv B n) := fun _ _ _ ⟨g, t, h1, h2, h3⟩ hb => ⟨g, t, h1, h2, h3.step hb⟩
def Mk (B n : Nat) (t : TypeId) (z : Value) : Value → World → Prop := fun v w => ∃ g, v = .slice (some ⟨g, 0, none⟩) n n ∧ B ≤ g ∧ Row w g t (List.replicate n z)
theorem Mk.monot (B n : Nat) (t : TypeId) (z : Value) : Monot (Mk B n t z) := fun _ _ _ ⟨g, h1, h2, h3⟩ hb => ⟨g, h1, h2, h3.step hb⟩
theorem row_ne {w : World} {a b : Nat} {t t' : TypeId} {l l' : List Value} (h : Row w a t l) (h' : Row w b t' l') (hne : t ≠ t') : a ≠ b := by
  intro e
  subst e
  have : some (Obj.cells l.toArray t (0, 0)) = some (Obj.cells l'.toArray t' (0, 0)) := h.symm.trans h'
  injection this with this
  injection this with h1 h2 h3
  exact hne h2
theorem fmk_bool : (Tryz.prog.info? 4).map (fun i => (i.zero, i.size, i.bytes)) = some (some (.bool false), 1, 8) ∨ (Tryz.prog.info? 4).map (fun i => (i.zero, i.size, i.bytes)) = some (some (.bool false), 1, 1) := Or.inr (by kernel_rfl)
theorem fmk_int : (Tryz.prog.info? 3).map (fun i => (i.zero, i.size, i.bytes)) = some (some (.int .i64 0), 1, 8) ∨ (Tryz.prog.info? 3).map (fun i => (i.zero, i.size, i.bytes)) = some (some (.int .i64 0), 1, 1) := Or.inl (by kernel_rfl)
theorem D0_ok (n : Nat) (h1 : 1 ≤ n) (h2 : n ≤ 512) : (D0 n).Ok := ⟨by simp [D0]; omega, by simp [D0]; omega, by simp [D0]; omega, by simp [D0]⟩
theorem rep_bytes (n : Nat) : rep n 255 = bytes (List.replicate n 255) := by simp [rep, bytes]

theorem flnew_bad (n : Int) (w : World) (h : n < 1 ∨ 512 < n) : Calls Tryz.prog 21 #[.int .i64 n] w fun e w' => e = .returned (.tuple #[.pointer none, .int .i64 1]) ∧ w = w' := by
  by_cases h1 : n < 1
  · clear h
    go_enter Tryz.func21, Tryz.ntmps21
    go_wp2
    go_ret2
    exact ⟨rfl, rfl⟩
  · have h2 : 512 < n := by omega
    clear h
    go_enter Tryz.func21, Tryz.ntmps21
    go_wp2
    go_ret2
    exact ⟨rfl, rfl⟩

set_option maxHeartbeats 1000000 in
theorem flnew_any (n : Nat) (w : World) (h1 : 1 ≤ n) (h2 : n ≤ 512) :
    Calls Tryz.prog 21 #[.int .i64 (n : Int)] w fun e w' => ∃ s : Sh, e = .returned (.tuple #[.pointer (some ⟨s.b, 0, none⟩), .int .i64 0]) ∧ Dev w' s (D0 n) ∧ (∀ k ∈ s.S, w.heap.size ≤ k) ∧ Below w.heap.size w w' := by
  obtain ⟨N, hN⟩ : ∃ N, n * 64 = N := ⟨_, rfl⟩
  have HN := Lib.hid hN
  have H1 := Lib.hid h1
  have H2 := Lib.hid h2
  have HR : Hid (∀ wx q, Lies wx wx.heap.size (some ⟨q, 0, none⟩) [.int .u8 255] → Calls Tryz.prog 45 #[.slice (some ⟨q, 0, none⟩) 1 1, .int .i64 (N : Int)] wx fun e w' => ∃ g tot, e = .returned (.slice (some ⟨g, 0, none⟩) N N) ∧ wx.heap.size ≤ g ∧ St g 255 tot N w' ∧ Below wx.heap.size wx w') := Lib.hid fun wx q h => brepeat_any q 255 N wx (by omega) (by omega) h
  have k1 : (n : Int) ≤ 512 := by omega
  have k2 : 1 ≤ (n : Int) := by omega
  have ew2 : IntKind.i64.wrap ((n : Int) * 64) = (N : Int) := by rw [IntKind.wrap_i64]; omega
  have ew : wrap64 ((n : Int) * 64) = (N : Int) := by rw [← hN]; unfold wrap64; omega
  clear hN h1 h2
  go_enter Tryz.func21, Tryz.ntmps21
  go_wp2
  refine region_tail 8 [(0, 10), (1, 11), (2, 12), (3, 13), (4, 14), (5, 15), (6, 16), (7, 17)]
    (fun ii => [New [.int .u8 255], Is (.int .i64 (n : Int)), Is (.int .i64 (N : Int)), Stv w.heap.size N, Is (.int .i64 (n : Int)), Mk w.heap.size n 4 (.bool false), Is (.int .i64 (n : Int)), Mk w.heap.size n 3 (.int .i64 0)].getD ii (Is undef))
    (fun w' => Below w.heap.size w w') (by kernel_rfl) (by decide) (by kernel_rfl) (by kernel_rfl) (by kernel_rfl) (by decide) (by decide) (by kernel_rfl) rfl ?mono ((Below.refl _ _).drew) ?step ?fin
  case mono =>
    intro i
    match i with
    | 0 => exact New.monot _
    | 3 => exact Stv.monot _ _
    | 5 | 7 => exact Mk.monot _ _ _ _
    | 1 | 2 | 4 | 6 => exact Is.monot _
    | _ + 8 => exact Is.monot _
  case step =>
    refine List.forall_mem_cons.2 ⟨?s0, List.forall_mem_cons.2 ⟨?s1, List.forall_mem_cons.2 ⟨?s2, List.forall_mem_cons.2 ⟨?s3, List.forall_mem_cons.2 ⟨?s4, List.forall_mem_cons.2 ⟨?s5, List.forall_mem_cons.2 ⟨?s6, List.forall_mem_cons.2 ⟨?s7, List.forall_mem_nil _⟩⟩⟩⟩⟩⟩⟩⟩
    case s0 =>
      intro u wx hg hC
      clear hC
      refine wpOp_step rfl (fun K hK => ?_)
      simp only [puts, List.foldl]
      go_simp
      exact hK _ _ ⟨rfl, ⟨wx.heap.size, rfl, Lies.new [_] _ _⟩, hg.alloc hg.size _, alloc_below _ _⟩
    case s1 =>
      intro u wx hg hC
      clear hC
      refine wpOp_step rfl (fun K hK => ?_)
      simp only [puts, List.foldl]
      go_simp
      exact hK _ _ ⟨rfl, rfl, hg, Below.refl _ _⟩
    case s2 =>
      intro u wx hg hC
      have h1 : u 1 = .int .i64 (n : Int) := hC.at 1 (by kernel_rfl)
      clear hC
      refine wpOp_step rfl (fun K hK => ?_)
      simp only [puts, List.foldl]
      go_simp
      exact hK _ _ ⟨rfl, rfl, hg, Below.refl _ _⟩
    case s3 =>
      intro u wx hg hC
      obtain ⟨q, h0, hl⟩ : New [.int .u8 255] (u 0) wx := hC.at 0 (by kernel_rfl)
      simp only [List.length_singleton] at h0
      have h2 : u 2 = .int .i64 (N : Int) := hC.at 2 (by kernel_rfl)
      clear hC
      refine wpOp_step rfl (fun K hK => ?_)
      simp only [puts, List.foldl]
      go_simp
      refine (HR.out wx q hl).mono ?_
      rintro e w' ⟨g, tot, rfl, hg1, hst, hb'⟩
      exact hK _ _ ⟨rfl, ⟨g, tot, rfl, Nat.le_trans hg.size hg1, hst⟩, hg.next hb', hb'⟩
    case s4 =>
      intro u wx hg hC
      clear hC
      refine wpOp_step rfl (fun K hK => ?_)
      simp only [puts, List.foldl]
      go_simp
      exact hK _ _ ⟨rfl, rfl, hg, Below.refl _ _⟩
    case s5 =>
      intro u wx hg hC
      have hJ : u 4 = .int .i64 (n : Int) := hC.at 4 (by kernel_rfl)
      clear hC
      refine wpOp_step rfl (fun K hK => ?_)
      generalize hA : puts [(0, 10), (1, 11), (2, 12), (3, 13), (4, 14), (5, 15), (6, 16), (7, 17)] _ u = A at hK ⊢
      have hs : A.tmps.getD 14 undef = .int .i64 (n : Int) := by rw [← hA, ← hJ]; exact puts_get u 4 14 _ _ (by decide) (by decide) (by kernel_rfl)
      have hsz : 15 < A.tmps.size := by rw [← hA]; exact puts_room u (by kernel_rfl)
      clear hA hJ
      refine opMakeK (φ := Mk w.heap.size n 4 (.bool false)) (G := fun w' => Below w.heap.size w w') 15 ?_ ?_ ?_ 82 4 (.bool false) n n ?_ ?_ ?_ ?_ ?_ ?_ ?_
      · rfl
      · exact hsz
      · exact hK
      · exact Tryz.underlying82
      · exact fmk_bool
      · rfl
      · exact Nat.le_refl _
      · have := H2.out; omega
      · exact makeOf_tmp 82 14 rfl rfl hs
      · exact fun w' r' b' => ⟨⟨wx.heap.size, rfl, hg.size, r'⟩, hg.next b'⟩
    case s6 =>
      intro u wx hg hC
      clear hC
      refine wpOp_step rfl (fun K hK => ?_)
      simp only [puts, List.foldl]
      go_simp
      exact hK _ _ ⟨rfl, rfl, hg, Below.refl _ _⟩
    case s7 =>
      intro u wx hg hC
      have hJ : u 6 = .int .i64 (n : Int) := hC.at 6 (by kernel_rfl)
      clear hC
      refine wpOp_step rfl (fun K hK => ?_)
      generalize hA : puts [(0, 10), (1, 11), (2, 12), (3, 13), (4, 14), (5, 15), (6, 16), (7, 17)] _ u = A at hK ⊢
      have hs : A.tmps.getD 16 undef = .int .i64 (n : Int) := by rw [← hA, ← hJ]; exact puts_get u 6 16 _ _ (by decide) (by decide) (by kernel_rfl)
      have hsz : 17 < A.tmps.size := by rw [← hA]; exact puts_room u (by kernel_rfl)
      clear hA hJ
      refine opMakeK (φ := Mk w.heap.size n 3 (.int .i64 0)) (G := fun w' => Below w.heap.size w w') 17 ?_ ?_ ?_ 83 3 (.int .i64 0) n n ?_ ?_ ?_ ?_ ?_ ?_ ?_
      · rfl
      · exact hsz
      · exact hK
      · exact Tryz.underlying83
      · exact fmk_int
      · rfl
      · exact Nat.le_refl _
      · have := H2.out; omega
      · exact makeOf_tmp 83 16 rfl rfl hs
      · exact fun w' r' b' => ⟨⟨wx.heap.size, rfl, hg.size, r'⟩, hg.next b'⟩
  case fin =>
    intro u w4 hb4 hφ
    obtain ⟨g1, tot, e3, hg1, z, hr1, ht1⟩ : Stv w.heap.size N (u 3) w4 := hφ (3, 13) (by decide)
    obtain ⟨g2, e5, hg2, hr2⟩ : Mk w.heap.size n 4 (.bool false) (u 5) w4 := hφ (5, 15) (by decide)
    obtain ⟨g3, e7, hg3, hr3⟩ : Mk w.heap.size n 3 (.int .i64 0) (u 7) w4 := hφ (7, 17) (by decide)
    clear hφ
    have n12 := row_ne hr1 hr2 (by decide)
    have n13 := row_ne hr1 hr3 (by decide)
    have n23 := row_ne hr2 hr3 (by decide)
    have R1 := Lib.hid hr1
    have R2 := Lib.hid hr2
    have R3 := Lib.hid hr3
    have B4 := Lib.hid hb4
    have HG := Lib.hid (And.intro hg1 (And.intro hg2 hg3))
    have HNE := Lib.hid (And.intro n12 (And.intro n13 n23))
    simp only [puts, List.foldl]
    go_simp
    clear hb4 hr1 hr2 hr3 hg1 hg2 hg3 n12 n13 n23 ht1 e3 e5 e7
    go_wp2_with ((with_reducible refine wpBoxK [Value.int .i64 0, .int .u8 0, .bool false, .int .i64 0, .slice (some ⟨g1, 0, none⟩) N N, .slice (some ⟨g2, 0, none⟩) n n, .slice (some ⟨g3, 0, none⟩) n n, .int .i64 0, .bool false] 85 ?_ ?_); rfl; intro w5 r5 b5 s5; have R5 := Lib.hid r5; have B5 := Lib.hid b5; clear r5 b5 s5)
    go_ret2
    refine ⟨⟨w4.heap.size, g1, N, z, g2, n, [], g3, n, []⟩, rfl, ⟨?_, ?_, ?_, ?_, ?_, ?_, ?_, D0_ok n H1.out H2.out⟩, ?_, B4.out.next B5.out⟩
    · have e : devL ⟨w4.heap.size, g1, N, z, g2, n, [], g3, n, []⟩ (D0 n) = [Value.int .i64 0, .int .u8 0, .bool false, .int .i64 0, .slice (some ⟨g1, 0, none⟩) N N, .slice (some ⟨g2, 0, none⟩) n n, .slice (some ⟨g3, 0, none⟩) n n, .int .i64 0, .bool false] := by
        simp [devL, D0, HN.out]
      rw [e]; exact R5.out
    · have e : bytes (D0 n).C = rep N 255 := by rw [rep_bytes, ← HN.out]; rfl
      show Row _ g1 _ (bytes (D0 n).C ++ z)
      rw [e]; exact R1.out.step B5.out
    · show Row _ g2 _ (fbools (List.replicate n false) ++ [])
      rw [List.append_nil, show fbools (List.replicate n false) = List.replicate n (.bool false) by simp [fbools]]; exact R2.out.step B5.out
    · show Row _ g3 _ (ints (List.replicate n 0) ++ [])
      rw [List.append_nil, show ints (List.replicate n 0) = List.replicate n (.int .i64 0) by simp [ints]]; exact R3.out.step B5.out
    · have q1 := R1.out.lt
      have q2 := R2.out.lt
      have q3 := R3.out.lt
      obtain ⟨a1, a2, a3⟩ := HNE.out
      simp only [Sh.S, List.nodup_cons, List.mem_cons, List.not_mem_nil, or_false, not_or, not_false_eq_true, List.nodup_nil, and_true]
      exact ⟨⟨by omega, by omega, by omega⟩, ⟨a1, a2⟩, a3⟩
    · show (List.replicate (n * 64) (255 : UInt8)).length ≤ N
      rw [List.length_replicate, HN.out]; exact Nat.le_refl _
    · show N ≤ _
      have := H2.out; have := HN.out; omega
    · intro k hk
      obtain ⟨a1, a2, a3⟩ := HG.out
      have := B4.out.size
      simp only [Sh.S, List.mem_cons, List.not_mem_nil, or_false] at hk
      rcases hk with rfl | rfl | rfl | rfl
      · exact this
      · exact a1
      · exact a2
      · exact a3
end Go.Proofs.YtbnjenbhpaknbaaGreat

/- The document's example: awake. -/
namespace Go.Proofs.YtbnjenbhpaknbaaGreat
open Go.RowKit FlaMath
set_option linter.unusedVariables false
set_option maxRecDepth 100000

theorem frep (c : UInt8) (w : World) : Calls Tryz.prog 99 #[.string { data := #[c] }, .int .i64 16] w fun e w' => e = .returned (.string (str (List.replicate 16 c))) ∧ Below w.heap.size w w' := by
  have := Tryz.strings_Repeat { data := #[c] } 16 w (by omega) (by show 1 * 16 ≤ _; omega)
  exact this
def l15 : List UInt8 := List.replicate 16 15
def l60 : List UInt8 := List.replicate 16 60
theorem aw1 : programE (D0 2) 16 l15 = 0 := by kernel_rfl
theorem aw2 : programE (programD (D0 2) 16 l15) 16 l60 = 0 := by kernel_rfl
theorem aw3 : readE (programD (programD (D0 2) 16 l15) 16 l60) 16 16 = 0 := by kernel_rfl
theorem aw4 : readS (programD (programD (D0 2) 16 l15) 16 l60) 16 16 = List.replicate 16 12 := by kernel_rfl
end Go.Proofs.YtbnjenbhpaknbaaGreat

/- Lists of calls that came in; great. -/
namespace Go.Proofs.YtbnjenbhpaknbaaGreat
open Go.RowKit FlaMath
set_option linter.unusedVariables false
set_option maxRecDepth 100000

structure OpV where
  k : Int
  at_ : Int
  n : Int
  s : ByteArray
  fb : Int
  fm : UInt8
def opL (o : OpV) : List Value := [.int .i64 o.k, .int .i64 o.at_, .int .i64 o.n, .string o.s, .int .i64 o.fb, .int .u8 (o.fm.toNat : Int)]
structure OpV.In (o : OpV) : Prop where
  hk : -9223372036854775808 ≤ o.k ∧ o.k < 9223372036854775808
  ha : -9223372036854775808 ≤ o.at_ ∧ o.at_ < 9223372036854775808
  hn : -9223372036854775808 ≤ o.n ∧ o.n < 9223372036854775808
  hs : o.s.size ≤ 140737488351232
def TT : Open.Ty := .pair (.int .i64) (.pair (.int .u8) .unit)
def TO : Open.Ty := .pair (.int .i64) (.pair (.int .i64) (.pair (.int .i64) (.pair .str (.pair TT .unit))))
theorem fwf_int {n : Int} (h : (Lit.int .i64 n).wf = true) : -9223372036854775808 ≤ n ∧ n < 9223372036854775808 := by
  have h2 := h
  simp [Lit.wf, IntKind.min, IntKind.max, IntKind.bits, IntKind.signed] at h2
  omega
theorem fwf_byte {n : Int} (h : (Lit.int .u8 n).wf = true) : ∃ b : UInt8, n = (b.toNat : Int) := by
  have h2 := h
  simp [Lit.wf, IntKind.min, IntKind.max, IntKind.bits, IntKind.signed] at h2
  refine ⟨UInt8.ofNat n.toNat, ?_⟩
  rw [UInt8.toNat_ofNat', Nat.mod_eq_of_lt (by omega)]
  omega
theorem reads_torn {w : World} {cs : List Value} {x : TT.den} (h : Open.Reads w TT cs x) : ∃ (fb : Int) (m : UInt8), cs = [.int .i64 fb, .int .u8 (m.toNat : Int)] := by
  have hl : cs.length = 2 := h.length
  match cs, hl with
  | [s, t], _ =>
    obtain ⟨⟨h1, _⟩, ⟨h2, h3⟩, _⟩ := h
    obtain ⟨b, hb⟩ := fwf_byte h3
    have e1 : s = .int .i64 x.1 := by simpa [Open.Ty.size] using h1
    have e2 : t = .int .u8 x.2.1 := by simpa [Open.Ty.size] using h2
    exact ⟨x.1, b, by rw [e1, e2, hb]⟩
theorem reads_op {w : World} {cs : List Value} {x : TO.den} (h : Open.Reads w TO cs x) : ∃ o : OpV, cs = opL o ∧ o.In := by
  have hl : cs.length = 6 := h.length
  match cs, hl with
  | [a, b, c, d, e, f], _ =>
    obtain ⟨⟨h1, g1⟩, ⟨h2, g2⟩, ⟨h3, g3⟩, ⟨h4, g4⟩, h5, _⟩ := h
    have e1 : a = .int .i64 x.1 := by simpa [Open.Ty.size] using h1
    have e2 : b = .int .i64 x.2.1 := by simpa [Open.Ty.size] using h2
    have e3 : c = .int .i64 x.2.2.1 := by simpa [Open.Ty.size] using h3
    have e4 : d = .string x.2.2.2.1 := by simpa [Open.Ty.size] using h4
    obtain ⟨fb, m, e5⟩ := reads_torn h5
    have e6 : e = .int .i64 fb ∧ f = .int .u8 (m.toNat : Int) := by simpa [Open.Ty.size, TT] using e5
    exact ⟨⟨x.1, x.2.1, x.2.2.1, x.2.2.2.1, fb, m⟩, by rw [e1, e2, e3, e4, e6.1, e6.2]; rfl, fwf_int g1, fwf_int g2, fwf_int g3, g4⟩
/-- The calls L lie at a. -/
def OpsAt (w : World) (a : Option Addr) (L : List OpV) : Prop :=
  0 < L.length → ∃ bl off, a = some ⟨bl, off, none⟩ ∧ bl < w.heap.size ∧ ∀ i (h : i < L.length), w.rangeAt bl (off + i * 6) (opL L[i])
theorem OpsAt.step {w w' : World} {a : Option Addr} {L : List OpV} (h : OpsAt w a L) (hb : Below w.heap.size w w') : OpsAt w' a L := by
  intro hp
  obtain ⟨bl, off, e, hl, hc⟩ := h hp
  exact ⟨bl, off, e, Nat.lt_of_lt_of_le hl hb.size, fun i hi j v hj => (hb.cell (p := ⟨bl, off + i * 6 + j, none⟩) hl).trans (hc i hi j v hj)⟩
theorem reads_ops {w : World} {by_ : Nat} {a : Option Addr} {cap : Nat} {l : List TO.den} (h : Open.Reads w (.sl by_ TO) [.slice a l.length cap] l) :
    ∃ L : List OpV, L.length = l.length ∧ (∀ o ∈ L, o.In) ∧ OpsAt w a L ∧ L.length ≤ 9223372036854775807 := by
  obtain ⟨a', cap', e, h1, h2, h3, h4⟩ := h
  have ea : a = a' := by simp only [List.cons.injEq, Value.slice.injEq] at e; exact e.1.1
  subst ea
  by_cases hp : 0 < l.length
  · obtain ⟨bl, off, e1, e2, e3⟩ := h4 hp
    obtain ⟨L, hL, hc⟩ := Open.choose_list (fun i (o : OpV) => w.rangeAt bl (off + i * 6) (opL o) ∧ o.In) l.length (fun i hi => by
      obtain ⟨cs', l1, l2, l3⟩ := e3 i hi
      obtain ⟨o, e4, e5⟩ := reads_op l3
      refine ⟨o, fun j v hj => ?_, e5⟩
      have hj6 : j < TO.size := by
        rw [← l1, e4]
        exact (List.getElem?_eq_some_iff.1 hj).1
      have := l2 j hj6
      rw [e4, hj] at this
      rw [← this, show off + i * 6 + j = off + (i * TO.size + j) from by show off + i * 6 + j = off + (i * 6 + j); omega]) ()
    exact ⟨L, hL, fun o ho => by
      obtain ⟨i, hi, rfl⟩ := List.mem_iff_getElem.1 ho
      exact (hc i hi).2, fun _ => ⟨bl, off, e1, e2, fun i hi => (hc i hi).1⟩, by omega⟩
  · exact ⟨[], by simp; omega, by simp, fun h => absurd h (by simp), by simp⟩

section
variable {P : Program}
theorem wpLoadAtK {ops : Array Oper} {rest : List Oper} {o : Oper} {a : Act} {w : World} {Q : Exit → Act → World → Prop} {g i : Nat} {y : List Value} (hy : w.rangeAt g i y) (ty : TypeId) {n : Nat} (hf : Fits P ty n) (hl : y.length = n)
    (ho : loadOf o a = some (ty, .pointer (some ⟨g, i, none⟩))) (k : wpList P ops Q rest (a.put o.dst (.agg y.toArray)) w) : wpList P ops Q (o :: rest) a w := by
  obtain ⟨hg, x, ho, hx⟩ := loadOf_spec ho
  obtain ⟨d, hu, hd⟩ := hf.row
  exact wpList_load_mid hg ty x ho g i hx y d hy hu hd (by rw [hl]; exact hf.size) k
end
def op0 : List Value := [.int .i64 0, .int .i64 0, .int .i64 0, .string { data := #[] }, .int .i64 0, .int .u8 0]
def gr (L : List OpV) : Bool := decide (150 < L.length) || L.any fun o => decide (1000 < o.s.size)
end Go.Proofs.YtbnjenbhpaknbaaGreat

/- FlashNone's walk. -/
namespace Go.Proofs.YtbnjenbhpaknbaaGreat
open Go.RowKit FlaMath
set_option linter.unusedVariables false
set_option maxRecDepth 100000

theorem OpsAt.one (o : OpV) (w : World) (t : TypeId) : OpsAt (w.alloc (.cells (opL o).toArray t)) (some ⟨w.heap.size, 0, none⟩) [o] := by
  intro _
  refine ⟨_, _, rfl, by simp, fun i hi => ?_⟩
  have h0 : i = 0 := by simp at hi; exact hi
  subst h0
  intro j v hj
  have := (Row.new w t (opL o)).cell j
  rw [show (opL o)[j]? = some v from hj] at this
  simpa using this
end Go.Proofs.YtbnjenbhpaknbaaGreat

/- What calls leave of a device: FlashKeeps' mathematics. -/
namespace Go.Proofs.YtbnjenbhpaknbaaGreat
open Go.RowKit FlaMath
set_option linter.unusedVariables false
set_option maxRecDepth 100000

theorem FlaMath_dump_eq (D : Dv) (a : Nat) (h : a < D.L.length) : dump D (a : Int) = sec D.C a := by
  rw [dump, if_pos (by omega), Int.toNat_natCast]
theorem sec_same {C C' : List UInt8} (h : C'.length = C.length) (i : Nat) (he : ∀ j (hj : j < C.length), i * 64 ≤ j → j < i * 64 + 64 → C'[j]'(by rw [h]; exact hj) = C[j]) : sec C' i = sec C i := by
  apply List.ext_getElem (by simp [sec, h])
  intro j h1 h2
  simp [sec] at h1 h2 ⊢
  exact he (i * 64 + j) (by omega) (by omega) (by omega)
theorem work_out (C : List UInt8) (o n r : Nat) (f g : Nat → UInt8 → UInt8) (hr : r ≤ n) (j : Nat) (hj : j < C.length) (ho : ¬ (o ≤ j ∧ j < o + n)) : (FlaMath.work C o n r f g)[j]'(by rw [work_length]; exact hj) = C[j] := by
  rw [work_get _ _ _ _ _ _ _ hj, if_neg (by omega), if_neg (by omega)]
theorem sec_work (C : List UInt8) (o n r : Nat) (f g : Nat → UInt8 → UInt8) (hr : r ≤ n) (i : Nat) (h : o + n ≤ i * 64 ∨ i * 64 + 64 ≤ o) : sec (FlaMath.work C o n r f g) i = sec C i :=
  sec_same (work_length _ _ _ _ _ _) i fun j hj h1 h2 => work_out C o n r f g hr j hj (by omega)
theorem done_le (b : Bool) (fb : Int) (n : Nat) : (if b then reach fb n else n) ≤ n := by
  split
  · exact reach_le _ _
  · exact Nat.le_refl _
theorem workD_C (D : Dv) (o n : Nat) (f g : Nat → UInt8 → UInt8) : ∃ r, r ≤ n ∧ (workD D o n f g).C = FlaMath.work D.C o n r f g := ⟨_, done_le _ _ _, rfl⟩
theorem workD_L (D : Dv) (o n : Nat) (f g : Nat → UInt8 → UInt8) : (workD D o n f g).L = D.L := burned_L D
theorem workD_E (D : Dv) (o n : Nat) (f g : Nat → UInt8 → UInt8) : (workD D o n f g).E = D.E := burned_E D
theorem eraseD_L (D : Dv) (i : Int) : (eraseD D i).L = D.L := by
  unfold eraseD
  split
  · rw [workD_L]; rfl
  · rfl
theorem programD_L (D : Dv) (x : Int) (l : List UInt8) : (programD D x l).L = D.L := by
  unfold programD
  split
  · rw [workD_L]
  · rfl
theorem programD_E (D : Dv) (x : Int) (l : List UInt8) : (programD D x l).E = D.E := by
  unfold programD
  split
  · rw [workD_E]
  · rfl
theorem readD_C (D : Dv) (x y op : Int) : (D.readD x y op).C = D.C ∧ (D.readD x y op).L = D.L ∧ (D.readD x y op).E = D.E := by
  unfold Dv.readD
  split <;> exact ⟨rfl, rfl, rfl⟩

/-- What FlashKeeps holds through its rounds. -/
structure Kept (n a : Nat) (W : List UInt8) (D : Dv) : Prop where
  len : D.L.length = n
  lk : D.L.getD a false = true
  sec : sec D.C a = W
theorem Kept.same {n a : Nat} {W : List UInt8} {D D' : Dv} (h : Kept n a W D) (hC : D'.C = D.C) (hL : D'.L = D.L) : Kept n a W D' := ⟨by rw [hL]; exact h.len, by rw [hL]; exact h.lk, by rw [hC]; exact h.sec⟩
theorem Kept.erase {n a : Nat} {W : List UInt8} {D : Dv} (h : Kept n a W D) (i : Int) : Kept n a W (eraseD D i) := by
  refine ⟨by rw [eraseD_L]; exact h.len, by rw [eraseD_L]; exact h.lk, ?_⟩
  cases hB : eraseB D i with
  | false => rw [eraseD, hB]; exact h.sec
  | true =>
    rw [eraseD, if_pos hB]
    obtain ⟨r, hr, hC⟩ := workD_C (worn D i.toNat) (i.toNat * 64) 64 fE (gE D.fm)
    rw [hC, sec_work _ _ _ _ _ _ hr]
    · exact h.sec
    · have hne : i.toNat ≠ a := by
        intro e
        simp only [eraseB, Bool.and_eq_true, Bool.not_eq_true'] at hB
        rw [e, h.lk] at hB
        exact absurd hB.2 (by simp)
      omega
theorem Kept.program {n a : Nat} {W : List UInt8} {D : Dv} (h : Kept n a W D) (x : Int) (l : List UInt8) : Kept n a W (programD D x l) := by
  refine ⟨by rw [programD_L]; exact h.len, by rw [programD_L]; exact h.lk, ?_⟩
  cases hB : programB D x l with
  | false => rw [programD, hB]; exact h.sec
  | true =>
    rw [programD, if_pos hB]
    obtain ⟨r, hr, hC⟩ := workD_C D x.toNat 16 (fP l) (gP l D.fm)
    rw [hC, sec_work _ _ _ _ _ _ hr]
    · exact h.sec
    · simp only [programB, Bool.and_eq_true, Bool.not_eq_true', decide_eq_false_iff_not, bey] at hB
      obtain ⟨⟨⟨_, h1⟩, h2⟩, h3⟩ := hB
      have hne : x.toNat / 64 ≠ a := by
        intro e
        rw [e, h.lk] at h3
        exact absurd h3 (by simp)
      have hm : x.tmod 16 = 0 := by omega
      have hx : 0 ≤ x := by omega
      rw [Int.tmod_eq_emod_of_nonneg hx] at hm
      omega
/-- The first k sectors' bytes. -/
def catd (D : Dv) (k : Nat) : List UInt8 := (List.range k).flatMap fun (i : Nat) => dump D (i : Int)
theorem catd_succ (D : Dv) (k : Nat) : catd D (k + 1) = catd D k ++ dump D k := by simp [catd, List.range_succ]
theorem dump_len (D : Dv) (i : Int) : (dump D i).length ≤ 64 := by
  unfold dump sec
  split
  · rw [List.length_take]; omega
  · exact Nat.zero_le _
theorem catd_len (D : Dv) (k : Nat) : (catd D k).length ≤ 64 * k := by
  induction k with
  | zero => simp [catd]
  | succ k ih =>
    rw [catd_succ, List.length_append]
    have := dump_len D k
    omega
theorem catd_same {D D' : Dv} (hC : D'.C = D.C) (hL : D'.L = D.L) (k : Nat) : catd D' k = catd D k := by
  unfold catd dump
  rw [hC, hL]
theorem Kept.dump {n a : Nat} {W : List UInt8} {D : Dv} (h : Kept n a W D) (ha : a < n) : dump D a = W := by
  rw [FlaMath_dump_eq D a (by rw [h.len]; exact ha)]
  exact h.sec
/-- The device as the rounds begin. -/
theorem kept0 (n a : Nat) (l : List UInt8) (ha : a < n) (hn : n ≤ 12) : Kept n a (dump (programD (D0 n) ((a * 64 : Nat) : Int) l) a) ((programD (D0 n) ((a * 64 : Nat) : Int) l).lock a ((a + 1 : Nat) : Int)) ∧
    lockE (programD (D0 n) ((a * 64 : Nat) : Int) l).L.length a ((a + 1 : Nat) : Int) = 0 := by
  have hL : (programD (D0 n) ((a * 64 : Nat) : Int) l).L = List.replicate n false := programD_L _ _ _
  have hlen : (programD (D0 n) ((a * 64 : Nat) : Int) l).L.length = n := by rw [hL, List.length_replicate]
  have hb : ¬ ((a : Int) < 0 ∨ ((a + 1 : Nat) : Int) < a ∨ (n : Int) < ((a + 1 : Nat) : Int)) := by omega
  refine ⟨?_, by rw [lockE, hlen, if_neg hb]⟩
  rw [Dv.lock, hlen, if_neg hb, Int.toNat_natCast, Int.toNat_natCast]
  refine ⟨by show (lockF _ _ _).length = n; rw [lockF_length, hlen], ?_, ?_⟩
  · show (lockF _ _ _).getD a false = true
    rw [hL, lockF, List.getD_eq_getElem?_getD, List.getElem?_mapIdx, List.getElem?_eq_getElem (by rw [List.length_replicate]; exact ha)]
    simp
  · show sec _ a = _
    rw [FlaMath_dump_eq _ a (by rw [hlen]; exact ha)]
end Go.Proofs.YtbnjenbhpaknbaaGreat

/- Erases and programs of a device, one behind the other, up to the first that errs (out of area's mathematics). -/
namespace Go.Proofs.YtbnjenbhpaknbaaGreat
open Go.RowKit FlaMath
set_option linter.unusedVariables false

/-- An erase (of a sector), or a program (of a place, with its page). -/
abbrev Fop := Int × Option (List UInt8)
def opE (o : Fop) (D : Dv) : Int := match o.2 with | none => eraseE D o.1 | some l => programE D o.1 l
def opD (o : Fop) (D : Dv) : Dv := match o.2 with | none => eraseD D o.1 | some l => programD D o.1 l
def runE : List Fop → Dv → Int
  | [], _ => 0
  | o :: r, D => if opE o D = 0 then runE r (opD o D) else opE o D
def runD : List Fop → Dv → Dv
  | [], D => D
  | o :: r, D => if opE o D = 0 then runD r (opD o D) else opD o D
theorem run_append : ∀ (a b : List Fop) (D : Dv), runE (a ++ b) D = (if runE a D = 0 then runE b (runD a D) else runE a D) ∧ runD (a ++ b) D = (if runE a D = 0 then runD b (runD a D) else runD a D)
  | [], b, D => ⟨by simp [runE, runD], by simp [runE, runD]⟩
  | o :: r, b, D => by
    have ih := run_append r b (opD o D)
    simp only [List.cons_append, runE, runD]
    by_cases h : opE o D = 0
    · simp only [if_pos h]; exact ih
    · simp only [if_neg h]; exact ⟨trivial, trivial⟩
theorem runE_one (o : Fop) (D : Dv) : runE [o] D = opE o D := by
  by_cases h : opE o D = 0
  · simp [runE, h]
  · simp [runE, h]
theorem runD_one (o : Fop) (D : Dv) : runD [o] D = opD o D := by
  by_cases h : opE o D = 0
  · simp [runD, h]
  · simp [runD, h]
theorem run_go {a b : List Fop} {D : Dv} (h : runE a D = 0) (h2 : runE b (runD a D) = 0) : runE (a ++ b) D = 0 ∧ runD (a ++ b) D = runD b (runD a D) := by
  obtain ⟨h3, h4⟩ := run_append a b D
  rw [if_pos h] at h3 h4
  exact ⟨h3.trans h2, h4⟩
theorem run_stop {a b : List Fop} {D : Dv} (r : List Fop) (h : runE a D = 0) (h2 : runE b (runD a D) ≠ 0) : runE (a ++ b ++ r) D = runE b (runD a D) ∧ runD (a ++ b ++ r) D = runD b (runD a D) := by
  obtain ⟨h3, h4⟩ := run_append a b D
  rw [if_pos h] at h3 h4
  obtain ⟨h5, h6⟩ := run_append (a ++ b) r D
  rw [if_neg (by rw [h3]; exact h2)] at h5 h6
  exact ⟨h5.trans h3, h6.trans h4⟩
/-- Parts one behind the other. -/
def seqF (n : Nat) (f : Nat → List Fop) : List Fop := (List.range n).flatMap f
theorem seqF_zero (f : Nat → List Fop) : seqF 0 f = [] := rfl
theorem seqF_succ (n : Nat) (f : Nat → List Fop) : seqF (n + 1) f = seqF n f ++ f n := by simp [seqF, List.range_succ]
theorem seqF_split {n i : Nat} (f : Nat → List Fop) (h : i < n) : ∃ r, seqF n f = seqF i f ++ f i ++ r := by
  induction n with
  | zero => omega
  | succ n ih =>
    rw [seqF_succ]
    by_cases e : i = n
    · subst e; exact ⟨[], by simp⟩
    · obtain ⟨r, hr⟩ := ih (by omega)
      exact ⟨r ++ f n, by rw [hr]; simp⟩
theorem seqF_congr {n : Nat} {f g : Nat → List Fop} (h : ∀ i, i < n → f i = g i) : seqF n f = seqF n g := by
  induction n with
  | zero => rfl
  | succ n ih => rw [seqF_succ, seqF_succ, ih fun i hi => h i (by omega), h n (by omega)]
/-- A part further; or it ends. -/
theorem seq_go {n i : Nat} {f : Nat → List Fop} {D : Dv} (h : runE (seqF i f) D = 0) (h2 : runE (f i) (runD (seqF i f) D) = 0) : runE (seqF (i + 1) f) D = 0 ∧ runD (seqF (i + 1) f) D = runD (f i) (runD (seqF i f) D) := by
  rw [seqF_succ]; exact run_go h h2
theorem seq_stop {n i : Nat} {f : Nat → List Fop} {D : Dv} (hi : i < n) (h : runE (seqF i f) D = 0) (h2 : runE (f i) (runD (seqF i f) D) ≠ 0) : runE (seqF n f) D = runE (f i) (runD (seqF i f) D) ∧ runD (seqF n f) D = runD (f i) (runD (seqF i f) D) := by
  obtain ⟨r, hr⟩ := seqF_split f hi
  rw [hr]; exact run_stop r h h2

theorem runE_other {o : List Fop} {D : Dv} : (runD o D).L = D.L := by
  induction o generalizing D with
  | nil => rfl
  | cons a r ih =>
    have h : (opD a D).L = D.L := by
      unfold opD
      split
      · exact eraseD_L D _
      · exact programD_L D _ _
    unfold runD
    split
    · rw [ih, h]
    · exact h

theorem Dev.below {w w' : World} {s : Sh} {D : Dv} {B : Nat} (h : Dev w s D) (hb : Below B w w') (hs : ∀ k ∈ s.S, k < B) : Dev w' s D :=
  ⟨h.row.below hb (hs _ (by simp [Sh.S])), h.c.below hb (hs _ (by simp [Sh.S])), h.l.below hb (hs _ (by simp [Sh.S])), h.e.below hb (hs _ (by simp [Sh.S])), h.ne, h.room, h.cap, h.ok⟩
theorem Onl.belowB {S : List Nat} {w wr w' : World} (h : Onl S w wr) (k : Below w.heap.size wr w') : Onl S w w' :=
  ⟨k.os.trans h.1, k.tape.trans h.2.1, k.output.trans h.2.2.1, Nat.le_trans h.size k.size, fun j hj hs => (k.block j hj).trans (h.2.2.2.2 j hj hs)⟩
/-- A device that is up, and whose fuse isn't lit. -/
structure Up (D : Dv) : Prop where
  dn : D.dn = false
  lit : D.lit = false
  ok : D.Ok
theorem Up.burnB {D : Dv} (h : Up D) : burnB D = false := by unfold Go.Proofs.YtbnjenbhpaknbaaGreat.burnB; rw [h.lit]; rfl
theorem Up.burned {D : Dv} (h : Up D) : burned D = D := by unfold Go.Proofs.YtbnjenbhpaknbaaGreat.burned; rw [h.lit]; rfl
theorem area_and255 (x : UInt8) : (255 : UInt8) &&& x = x := by
  refine UInt8.toNat_inj.1 ?_
  rw [UInt8.toNat_and]
  show 255 &&& x.toNat = x.toNat
  have h := Nat.and_two_pow_sub_one_eq_mod x.toNat 8
  have h2 := x.toNat_lt
  rw [Nat.and_comm]
  show x.toNat &&& (2 ^ 8 - 1) = x.toNat
  rw [h]
  exact Nat.mod_eq_of_lt h2
theorem workD_up {D : Dv} (h : Up D) (o n : Nat) (f g : Nat → UInt8 → UInt8) : workD D o n f g = { D with ops := wrap64 (D.ops + 1), C := prog D.C o n f } := by
  unfold workD
  rw [h.burnB, h.burned]
  have e : FlaMath.work D.C o n (if false = true then reach D.fb n else n) f g = prog D.C o n f := by
    rw [if_neg (by decide)]
    unfold FlaMath.work
    rw [if_neg (Nat.lt_irrefl n)]
  rw [e]
  have := h.dn
  cases D
  simp_all
end Go.Proofs.YtbnjenbhpaknbaaGreat

/- What the log's writes do with a device: lists of erases and programs. -/
namespace Go.Proofs.YtbnjenbhpaknbaaGreat
open Go.RowKit CrcMath NumMath FlaMath
set_option linter.unusedVariables false

def eraOp (L a j : Nat) : List Fop := [(((L + a * 8 + j : Nat) : Int), none)]
/-- To erase a half. -/
def wipeF (L a : Nat) : List Fop := seqF 8 (eraOp L a)
def layOp (L a n : Nat) (P : List UInt8) (c : Nat) : List Fop := [(((atF L a c + 16 * n : Nat) : Int), some P)]
/-- To lay a page. -/
def layP (L a n : Nat) (P : List UInt8) : List Fop := seqF 2 (layOp L a n P)
/-- To fill a half. -/
def fillP (L a : Nat) (l : List Rc) (i : Nat) : List Fop := layP L a i ((l.getD i r0).page i)
def fillF (L a : Nat) (l : List Rc) : List Fop := wipeF L a ++ seqF l.length (fillP L a l)
end Go.Proofs.YtbnjenbhpaknbaaGreat

/- As region_store, where operations stand behind the one that writes, too. -/
namespace Go.Proofs.YtbnjenbhpaknbaaGreat
open Go.RowKit

section
variable {P : Program} {ops : Array Oper} {Q : Exit → Act → World → Prop}

theorem region_storeT {id : Nat} {a : Act} {w : World} (s k : Nat) (X : List Nat) (hkX : k ∉ X) (D : List (Nat × Nat)) (φ : Nat → Value → World → Prop) (G : World → Prop) (H : Value → World → Prop) (hm : P.follows .mixedOrders = true)
    (hsz : s < ops.size) (hord : ordX ops = true) (hcl : ((List.range ops.size).all fun j => (j == s) || X.contains j || reachB ops ops.size s j) = true)
    (hD1 : D.map (·.1) = (List.range ops.size).filter fun j => j != s) (hD2 : (D.map (·.2)).Nodup) (hD3 : (D.all fun p => (ops[p.1]?.bind (·.dst)) == some p.2) = true) (hD4 : (D.all fun p => Nat.blt p.2 a.tmps.size) = true)
    (hS : (ops[s]?.map (·.dst)) = some none) (hmono : ∀ i v w w', φ i v w → Below w.heap.size w w' → φ i v w') (hG : G w.drew)
    (step : ∀ p ∈ D, waitsB ops p.1 s = false → ∀ u w, G w → Came ops φ u w p.1 →
      wpOp P ops Q p.1 (fun a' w' => a'.defers = (puts D a u).defers ∧ φ p.1 (a'.tmps.getD p.2 undef) w' ∧ G w' ∧ Below w.heap.size w w') (puts D a u) w)
    (stepX : ∀ p ∈ D, p.1 ∈ X → ∀ u w, H (u k) w → Came ops (fun i v _ => i ≠ s → ∃ w1, φ i v w1) u w p.1 →
      wpOp P ops Q p.1 (fun a' w' => a'.defers = (puts D a u).defers ∧ (∃ w1, φ p.1 (a'.tmps.getD p.2 undef) w1) ∧ H (u k) w') (puts D a u) w)
    (stepS : ∀ u w, G w → (∀ p ∈ D, p.1 ∉ X → φ p.1 (u p.1) w) → wpOp P ops Q s (fun a' w' => a'.defers = (puts D a u).defers ∧ H (u k) w') (puts D a u) w)
    (fin : ∀ u w, H (u k) w → (∀ p ∈ D, ∃ w1, φ p.1 (u p.1) w1) → Q .normal (puts D a u) w) : (Code.region id ops true).wp P Q a w := by
  refine wp_region_any hm ?_
  have hnd1 : (D.map (·.1)).Nodup := by rw [hD1]; exact List.nodup_range.filter _
  have hmemD : ∀ i, i < ops.size → i ≠ s → ∃ d, (i, d) ∈ D := fun i hi hne => by
    have : i ∈ D.map (·.1) := by rw [hD1]; exact List.mem_filter.2 ⟨List.mem_range.2 hi, by simpa using hne⟩
    obtain ⟨⟨i', d⟩, hp, rfl⟩ := List.mem_map.1 this
    exact ⟨d, hp⟩
  have hltD : ∀ p ∈ D, p.1 < ops.size ∧ p.1 ≠ s := fun p hp => by
    have : p.1 ∈ D.map (·.1) := List.mem_map.2 ⟨p, hp, rfl⟩
    rw [hD1] at this
    have h := List.mem_filter.1 this
    exact ⟨List.mem_range.1 h.1, by simpa using h.2⟩
  have hclX : ∀ j, j < ops.size → j ≠ s → j ∉ X → reachB ops ops.size s j = true := fun j hj hne hx => by
    have := List.all_eq_true.1 hcl j (List.mem_range.2 hj)
    rw [Bool.or_eq_true, Bool.or_eq_true] at this
    rcases this with (h | h) | h
    · exact absurd (by simpa using h) hne
    · exact absurd (by simpa using h) hx
    · exact h
  have hslot : ∀ p ∈ D, ∀ o, ops[p.1]? = some o → o.dst = some p.2 ∧ p.2 < a.tmps.size := fun p hp o ho => by
    have hd3 := List.all_eq_true.1 hD3 _ hp
    have hd4 := List.all_eq_true.1 hD4 _ hp
    simp only [ho, Option.bind_some, beq_iff_eq] at hd3
    exact ⟨hd3, by simp [Nat.blt] at hd4; omega⟩
  -- behind the write
  have keyB : ∀ (fuel : Nat) (listed : Array Bool) (w : World) (u : Nat → Value) (L : List Nat), listed.size = ops.size → L.length ≤ fuel → (∀ i, listed.getD i true = false → i ∈ L) → H (u k) w →
      (∀ i, listed.getD i true = false → i ≠ s ∧ i ∈ X) → (∀ i, i < ops.size → i ≠ s → listed.getD i true = true → ∃ w1, φ i (u i) w1) → wpAny P .any ops Q fuel listed (puts D a u) w := by
    intro fuel
    induction fuel with
    | zero =>
      intro listed w u L hs hL hin hh hX hφ
      have hall : ∀ i, listed.getD i true = true := fun i => by
        cases hi : listed.getD i true with
        | true => rfl
        | false => have := hin i hi; rw [List.length_eq_zero_iff.1 (Nat.le_zero.1 hL)] at this; cases this
      refine ⟨?_, fin u w hh fun p hp => hφ p.1 (hltD p hp).1 (hltD p hp).2 (hall _)⟩
      rw [List.eq_nil_iff_forall_not_mem]
      intro i hi
      have := (mem_ready.1 hi).2.1
      rw [hall i] at this
      cases this
    | succ fuel ih =>
      intro listed w u L hs hL hin hh hX hφ
      refine ⟨fun hr => fin u w hh fun p hp => hφ p.1 (hltD p hp).1 (hltD p hp).2 (all_listedX hord hs hr _), fun i hi => ?_⟩
      obtain ⟨h1, h2, o, ho, h3⟩ := mem_ready.1 hi
      obtain ⟨his, hiX⟩ := hX i h2
      obtain ⟨d, hp⟩ := hmemD i h1 his
      have hst := stepX _ hp hiX u w hh (fun o' ho' e he hb => by
        obtain rfl := Option.some.inj (ho'.symm.trans ho)
        have hl := h3 e he hb
        have hlt : e.on < ops.size := by
          rw [← hs]
          by_cases hl2 : e.on < listed.size
          · exact hl2
          · simp [Array.getD, hl2] at hl
        intro hes
        refine hφ e.on hlt hes ?_
        rw [getD_tf (by omega)]
        exact hl)
      obtain ⟨hd3, hd5⟩ := hslot _ hp o ho
      have hst2 := wpOp_value (R := fun v w' => (∃ w1, φ i v w1) ∧ H (u k) w') ho hd3 (by rw [puts_size]; exact hd5) hst
      refine wpOp_mono ?_ hst2
      rintro a' w' ⟨v, rfl, hv, hh'⟩
      rw [puts_put u i d v D a hnd1 hD2 hp]
      have eku : upd u i v k = u k := by simp [upd]; intro e; rw [e] at hkX; exact absurd hiX hkX
      refine ih _ w' (upd u i v) (L.erase i) (by simpa using hs) ?_ ?_ (by rw [eku]; exact hh') ?_ ?_
      · rw [List.length_erase_of_mem (hin i h2)]
        omega
      · intro j hj
        have hji : j ≠ i := fun e => by
          subst e
          have : j < listed.size := by omega
          simp [Array.getD, this] at hj
        rw [getD_set_other (Ne.symm hji)] at hj
        exact (List.mem_erase_of_ne hji).2 (hin j hj)
      · intro j hj
        have hji : j ≠ i := fun e => by
          subst e
          have : j < listed.size := by omega
          simp [Array.getD, this] at hj
        rw [getD_set_other (Ne.symm hji)] at hj
        exact hX j hj
      · intro j hj hjs hl
        by_cases hji : j = i
        · subst hji
          simpa [upd] using hv
        · have e1 : upd u i v j = u j := by simp [upd, hji]
          rw [e1]
          rw [getD_set_other (Ne.symm hji)] at hl
          exact hφ j hj hjs hl
  -- ahead of the write
  have keyA : ∀ (fuel : Nat) (listed : Array Bool) (w : World) (u : Nat → Value) (L : List Nat), listed.size = ops.size → L.length ≤ fuel → (∀ i, listed.getD i true = false → i ∈ L) → listed.getD s true = false → Anc ops listed → G w →
      (∀ i, i < ops.size → i ≠ s → listed.getD i true = true → φ i (u i) w) → wpAny P .any ops Q fuel listed (puts D a u) w := by
    intro fuel
    induction fuel with
    | zero =>
      intro listed w u L hs hL hin hns _ hg hφ
      have := hin s hns
      rw [List.length_eq_zero_iff.1 (Nat.le_zero.1 hL)] at this
      cases this
    | succ fuel ih =>
      intro listed w u L hs hL hin hns hanc hg hφ
      refine ⟨fun hr => ?_, fun i hi => ?_⟩
      · have := all_listedX hord hs hr s
        rw [hns] at this
        cases this
      · obtain ⟨h1, h2, o, ho, h3⟩ := mem_ready.1 hi
        have hancn : Anc ops (listed.setIfInBounds i true) := by
          intro j o' ho' hl e he hb
          by_cases ej : i = j
          · subst ej
            obtain rfl := Option.some.inj (ho'.symm.trans ho)
            have := h3 e he hb
            by_cases e2 : i = e.on
            · rw [← e2, getD_set_self (by omega)]
            · rw [getD_set_other e2]; exact this
          · rw [getD_set_other ej] at hl
            have := hanc j o' ho' hl e he hb
            by_cases e2 : i = e.on
            · rw [← e2, getD_set_self (by omega)]
            · rw [getD_set_other e2]; exact this
        by_cases his : i = s
        · subst his
          have hall : ∀ j, j < ops.size → j ≠ i → j ∉ X → listed.getD j false = true := fun j hj hne hx =>
            reach_listed hanc ops.size i j (fun o' ho' e he hb => by
              obtain rfl := Option.some.inj (ho'.symm.trans ho)
              exact h3 e he hb) (hclX j hj hne hx)
          have hod : o.dst = none := by
            rw [ho] at hS
            simpa using hS
          refine wpOp_mono ?_ (wpOp_none ho hod (stepS u w hg fun p hp hx => hφ p.1 (hltD p hp).1 (hltD p hp).2 (by rw [getD_tf (by have := (hltD p hp).1; omega)]; exact hall p.1 (hltD p hp).1 (hltD p hp).2 hx)))
          rintro a' w' ⟨rfl, hh⟩
          refine keyB fuel _ w' u (L.erase i) (by simpa using hs) ?_ ?_ hh ?_ ?_
          · rw [List.length_erase_of_mem (hin i h2)]
            omega
          · intro j hj
            have hji : j ≠ i := fun e => by
              subst e
              have : j < listed.size := by omega
              simp [Array.getD, this] at hj
            rw [getD_set_other (Ne.symm hji)] at hj
            exact (List.mem_erase_of_ne hji).2 (hin j hj)
          · intro j hj
            have hji : j ≠ i := fun e => by
              subst e
              have : j < listed.size := by omega
              simp [Array.getD, this] at hj
            rw [getD_set_other (Ne.symm hji)] at hj
            have hjl : j < listed.size := by
              by_cases hl : j < listed.size
              · exact hl
              · simp [Array.getD, hl] at hj
            refine ⟨hji, Classical.byContradiction fun hx => ?_⟩
            have := hall j (by omega) hji hx
            rw [← getD_tf hjl, hj] at this
            cases this
          · intro j hj hjs hl
            rw [getD_set_other (Ne.symm hjs)] at hl
            exact ⟨w, hφ j hj hjs hl⟩
        · obtain ⟨d, hp⟩ := hmemD i h1 his
          have hws : waitsB ops i s = false := by
            cases hw : waitsB ops i s with
            | false => rfl
            | true =>
              unfold waitsB at hw
              rw [ho] at hw
              simp only [Option.map_some, Option.getD_some, List.any_eq_true, Bool.and_eq_true, Nat.beq_eq] at hw
              obtain ⟨e, he, hb, rfl⟩ := hw
              have hl := h3 e he hb
              rw [← getD_tf (by omega), hns] at hl
              cases hl
          have hst := step _ hp hws u w hg (fun o' ho' e he hb => by
            obtain rfl := Option.some.inj (ho'.symm.trans ho)
            have hl := h3 e he hb
            have hlt : e.on < listed.size := by
              by_cases hl2 : e.on < listed.size
              · exact hl2
              · simp [Array.getD, hl2] at hl
            have hes : e.on ≠ s := fun e2 => by
              rw [e2] at hl
              rw [← getD_tf (by omega), hns] at hl
              cases hl
            refine hφ e.on (by omega) hes ?_
            rw [getD_tf hlt]
            exact hl)
          obtain ⟨hd3, hd5⟩ := hslot _ hp o ho
          have hst2 := wpOp_value (R := fun v w' => φ i v w' ∧ G w' ∧ Below w.heap.size w w') ho hd3 (by rw [puts_size]; exact hd5) hst
          refine wpOp_mono ?_ hst2
          rintro a' w' ⟨v, rfl, hv, hg', hb'⟩
          rw [puts_put u i d v D a hnd1 hD2 hp]
          refine ih _ w' (upd u i v) (L.erase i) (by simpa using hs) ?_ ?_ (by rw [getD_set_other his]; exact hns) hancn hg' ?_
          · rw [List.length_erase_of_mem (hin i h2)]
            omega
          · intro j hj
            have hji : j ≠ i := fun e => by
              subst e
              have : j < listed.size := by omega
              simp [Array.getD, this] at hj
            rw [getD_set_other (Ne.symm hji)] at hj
            exact (List.mem_erase_of_ne hji).2 (hin j hj)
          · intro j hj hjs hl
            by_cases hji : j = i
            · subst hji
              simpa [upd] using hv
            · have e1 : upd u i v j = u j := by simp [upd, hji]
              rw [e1]
              rw [getD_set_other (Ne.symm hji)] at hl
              exact hmono j _ w w' (hφ j hj hjs hl) hb'
  have hu : ∃ u : Nat → Value, puts D a u = a := by
    refine ⟨fun i => ((D.find? fun p => p.1 == i).map fun p => a.tmps.getD p.2 undef).getD undef, puts_self _ _ _ fun p hp => ?_⟩
    have : D.find? (fun q => q.1 == p.1) = some p := by
      clear fin step stepX stepS hD2 hD1 hD3 hD4 keyA keyB hmemD hltD hslot
      induction D with
      | nil => cases hp
      | cons q D ih =>
        rw [List.map_cons, List.nodup_cons] at hnd1
        rcases List.mem_cons.1 hp with rfl | hp
        · simp
        · have hne : (q.1 == p.1) = false := by
            rw [beq_eq_false_iff_ne]
            intro e
            exact hnd1.1 (List.mem_map.2 ⟨p, hp, e.symm⟩)
          rw [List.find?_cons, hne]
          exact ih hnd1.2 hp
    simp only [this, Option.map_some, Option.getD_some]
  obtain ⟨u, hu⟩ := hu
  have hfF : ∀ i, (Array.replicate ops.size false).getD i false = false := fun i => by
    by_cases h : i < ops.size <;> simp [Array.getD, h]
  have := keyA ops.size (Array.replicate ops.size false) w.drew u (List.range ops.size) (by simp) (by simp) (fun i hi => by
    rw [List.mem_range]
    by_cases hl : i < ops.size
    · exact hl
    · simp [Array.getD, hl] at hi) (by simp [Array.getD, hsz]) (fun i o _ hl => by rw [hfF] at hl; cases hl) hG (fun i hi _ hl => by
    simp [Array.getD, hi] at hl)
  rw [hu] at this
  exact this
end

end Go.Proofs.YtbnjenbhpaknbaaGreat
