/- Contracts of flash: what an erase and a program do with a byte. -/
import Derived.Test.YtgdfcfbccjdecaaFlaG
import Derived.StillTailTactics
namespace Go.Proofs.Ytgdfcfbccjdecaa
open Go.RowKit FlaMath
set_option linter.unusedVariables false
set_option maxRecDepth 100000

/-- What the functions that an erase makes have caught. -/
structure CapE (w : World) (s : Sh) (o n cp vb vd : Nat) : Prop where
  b : w.cell? ⟨vb, 0, none⟩ = some (.slice (some ⟨s.o1, o, none⟩) n cp)
  d : w.cell? ⟨vd, 0, none⟩ = some (.pointer (some ⟨s.b, 0, none⟩))
  lb : vb < w.heap.size
  ld : vd < w.heap.size
  nb : vb ∉ s.S
  nd : vd ∉ s.S
theorem cell_onl {w w' : World} {S : List Nat} {g : Nat} (o : Nat) (h : Onl S w w') (hg : g < w.heap.size) (hn : g ∉ S) : w'.cell? ⟨g, o, none⟩ = w.cell? ⟨g, o, none⟩ := World.cell?_of_block (a := ⟨g, o, none⟩) (h.2.2.2.2 g hg hn)
theorem CapE.onl {w w' : World} {s : Sh} {o n cp vb vd : Nat} (h : CapE w s o n cp vb vd) (ho : Onl s.S w w') : CapE w' s o n cp vb vd :=
  ⟨(cell_onl 0 ho h.lb h.nb).trans h.b, (cell_onl 0 ho h.ld h.nd).trans h.d, Nat.lt_of_lt_of_le h.lb ho.size, Nat.lt_of_lt_of_le h.ld ho.size, h.nb, h.nd⟩
structure CapP (w : World) (s : Sh) (o cp vb vp vd : Nat) (n : Nat) (t : ByteArray) : Prop where
  b : w.cell? ⟨vb, 0, none⟩ = some (.slice (some ⟨s.o1, o, none⟩) n cp)
  p : w.cell? ⟨vp, 0, none⟩ = some (.string t)
  d : w.cell? ⟨vd, 0, none⟩ = some (.pointer (some ⟨s.b, 0, none⟩))
  lb : vb < w.heap.size
  lp : vp < w.heap.size
  ld : vd < w.heap.size
  nb : vb ∉ s.S
  np : vp ∉ s.S
  nd : vd ∉ s.S
theorem CapP.onl {w w' : World} {s : Sh} {o cp vb vp vd n : Nat} {t : ByteArray} (h : CapP w s o cp vb vp vd n t) (ho : Onl s.S w w') : CapP w' s o cp vb vp vd n t :=
  ⟨(cell_onl 0 ho h.lb h.nb).trans h.b, (cell_onl 0 ho h.lp h.np).trans h.p, (cell_onl 0 ho h.ld h.nd).trans h.d, Nat.lt_of_lt_of_le h.lb ho.size, Nat.lt_of_lt_of_le h.lp ho.size, Nat.lt_of_lt_of_le h.ld ho.size, h.nb, h.np, h.nd⟩

theorem erase1_any (s : Sh) (D : Dv) (o n cp vb vd k : Nat) (w : World) (h : Dev w s D) (hv : CapE w s o n cp vb vd) (hk : k < n) (ho : o + k < D.C.length) :
    Calls Try.prog 40 #[.int .i64 (k : Int), .pointer (some ⟨vb, 0, none⟩)] w fun e w' => e = .returned (.tuple #[]) ∧ Dev w' s { D with C := D.C.set (o + k) (fE k D.C[o + k]) } ∧ Onl s.S w w' := by
  have hb := hv.b
  have e1 : (k : Int) < n := by omega
  have R0 : Hid (Row w s.o1 5 (bytes D.C ++ s.z1)) := Lib.hid h.c
  have HL : Hid (o + k < (bytes D.C ++ s.z1).length) := Lib.hid (by rw [List.length_append, bytes_length]; omega)
  have HD := Lib.hid h
  have HK := Lib.hid ho
  rw [show fE k D.C[o + k] = 255 from rfl]
  clear h hv ho
  go_enter Try.func40, Try.ntmps40
  go_wp2_with ((with_reducible refine R0.out.wpStore1K (o + k) 5 (.int .u8 255) finfo_byte HL.out (int_cells _ _) (int_one _ _) ?_ ?_); rfl; intro w1 r1 o1 s1; have D1 := Lib.hid (HD.out.setC (o + k) 255 HK.out r1 o1); have O1 := Lib.hid (Onl.of_only o1 s.o1_mem); clear r1 o1 s1)
  go_end0
  exact ⟨rfl, D1.out, O1.out⟩

theorem erase2_any (s : Sh) (D : Dv) (o n cp vb vd k : Nat) (w : World) (h : Dev w s D) (hv : CapE w s o n cp vb vd) (hk : k < n) (ho : o + k < D.C.length) :
    Calls Try.prog 41 #[.int .i64 (k : Int), .pointer (some ⟨vb, 0, none⟩), .pointer (some ⟨vd, 0, none⟩)] w fun e w' => e = .returned (.tuple #[]) ∧ Dev w' s { D with C := D.C.set (o + k) (gE D.fm k D.C[o + k]) } ∧ Onl s.S w w' := by
  have hb := hv.b
  have hd := hv.d
  have h1 := h.c1
  have hc := h.cc (o + k) ho
  have e1 : (k : Int) < n := by omega
  rw [show gE D.fm k D.C[o + k] = D.C[o + k] ||| D.fm from rfl]
  obtain ⟨x, hx⟩ : ∃ x, D.C[o + k] = x := ⟨_, rfl⟩
  obtain ⟨m, hm⟩ : ∃ m, D.fm = m := ⟨_, rfl⟩
  rw [hx] at hc ⊢
  rw [hm] at h1
  rw [show x ||| D.fm = x ||| m by rw [hm]]
  have hor := u8_or x m
  have R0 : Hid (Row w.drew s.o1 5 (bytes D.C ++ s.z1)) := Lib.hid h.c.drew
  have HL : Hid (o + k < (bytes D.C ++ s.z1).length) := Lib.hid (by rw [List.length_append, bytes_length]; omega)
  have HD : Hid (Dev w.drew s D) := Lib.hid (h.step ((Below.refl _ _).drew))
  have HO : Hid (Onl s.S w w.drew) := Lib.hid (Onl.of_below ((Below.refl _ _).drew))
  have HK := Lib.hid ho
  clear h hv ho hx hm
  go_enter Try.func41, Try.ntmps41
  go_wp2
  go_still_tail 12, (by kernel_rfl)
  change wpList _ _ _ _ _ w.drew
  generalize w.drew = wq at *
  go_wp2_with ((with_reducible refine R0.out.wpStore1K (o + k) 5 (.int .u8 ((x ||| m).toNat : Int)) finfo_byte HL.out (int_cells _ _) (int_one _ _) ?_ ?_); rfl; intro w1 r1 o1 s1; have D1 := Lib.hid (HD.out.setC (o + k) (x ||| m) HK.out r1 o1); have O1 := Lib.hid (HO.out.trans (Onl.of_only o1 s.o1_mem)); clear r1 o1 s1)
  go_end0
  exact ⟨rfl, D1.out, O1.out⟩

theorem prog1_any (s : Sh) (D : Dv) (o cp vb vp vd n : Nat) (t : ByteArray) (k : Nat) (w : World) (h : Dev w s D) (hv : CapP w s o cp vb vp vd n t) (hk : k < n) (hs : k < t.size) (ho : o + k < D.C.length) :
    Calls Try.prog 29 #[.int .i64 (k : Int), .pointer (some ⟨vb, 0, none⟩), .pointer (some ⟨vp, 0, none⟩)] w fun e w' => e = .returned (.tuple #[]) ∧ Dev w' s { D with C := D.C.set (o + k) (fP t.data.toList k D.C[o + k]) } ∧ Onl s.S w w' := by
  have hb := hv.b
  have hp := hv.p
  have hc := h.cc (o + k) ho
  have e1 : (k : Int) < n := by omega
  have e2 : (k : Int) < t.size := by omega
  have et : t.data.toList.getD k 0 = t[k] := by
    rw [List.getD_eq_getElem?_getD, List.getElem?_eq_getElem (by rw [size_list]; exact hs)]; rfl
  rw [show fP t.data.toList k D.C[o + k] = D.C[o + k] &&& t[k] by rw [fP, et]]
  obtain ⟨x, hx⟩ : ∃ x, D.C[o + k] = x := ⟨_, rfl⟩
  rw [hx] at hc ⊢
  have hor := u8_and x t[k]
  have R0 : Hid (Row w.drew s.o1 5 (bytes D.C ++ s.z1)) := Lib.hid h.c.drew
  have HL : Hid (o + k < (bytes D.C ++ s.z1).length) := Lib.hid (by rw [List.length_append, bytes_length]; omega)
  have HD : Hid (Dev w.drew s D) := Lib.hid (h.step ((Below.refl _ _).drew))
  have HO : Hid (Onl s.S w w.drew) := Lib.hid (Onl.of_below ((Below.refl _ _).drew))
  have HK := Lib.hid ho
  clear h hv ho hx et
  go_enter Try.func29, Try.ntmps29
  go_wp2
  go_still_tail 9, (by kernel_rfl)
  change wpList _ _ _ _ _ w.drew
  generalize w.drew = wq at *
  go_wp2_with ((with_reducible refine R0.out.wpStore1K (o + k) 5 (.int .u8 ((x &&& t[k]).toNat : Int)) finfo_byte HL.out (int_cells _ _) (int_one _ _) ?_ ?_); rfl; intro w1 r1 o1 s1; have D1 := Lib.hid (HD.out.setC (o + k) (x &&& t[k]) HK.out r1 o1); have O1 := Lib.hid (HO.out.trans (Onl.of_only o1 s.o1_mem)); clear r1 o1 s1)
  go_end0
  exact ⟨rfl, D1.out, O1.out⟩

theorem prog2_any (s : Sh) (D : Dv) (o cp vb vp vd n : Nat) (t : ByteArray) (k : Nat) (w : World) (h : Dev w s D) (hv : CapP w s o cp vb vp vd n t) (hk : k < n) (hs : k < t.size) (ho : o + k < D.C.length) :
    Calls Try.prog 30 #[.int .i64 (k : Int), .pointer (some ⟨vb, 0, none⟩), .pointer (some ⟨vp, 0, none⟩), .pointer (some ⟨vd, 0, none⟩)] w fun e w' => e = .returned (.tuple #[]) ∧ Dev w' s { D with C := D.C.set (o + k) (gP t.data.toList D.fm k D.C[o + k]) } ∧ Onl s.S w w' := by
  have hb := hv.b
  have hp := hv.p
  have hd := hv.d
  have h1 := h.c1
  have hc := h.cc (o + k) ho
  have e1 : (k : Int) < n := by omega
  have e2 : (k : Int) < t.size := by omega
  have et : t.data.toList.getD k 0 = t[k] := by
    rw [List.getD_eq_getElem?_getD, List.getElem?_eq_getElem (by rw [size_list]; exact hs)]; rfl
  rw [show gP t.data.toList D.fm k D.C[o + k] = D.C[o + k] &&& (t[k] ||| D.fm) by rw [gP, et]]
  obtain ⟨x, hx⟩ : ∃ x, D.C[o + k] = x := ⟨_, rfl⟩
  obtain ⟨m, hm⟩ : ∃ m, D.fm = m := ⟨_, rfl⟩
  rw [hx] at hc ⊢
  rw [hm] at h1
  rw [show x &&& (t[k] ||| D.fm) = x &&& (t[k] ||| m) by rw [hm]]
  have hor := u8_or t[k] m
  have han := u8_and x (t[k] ||| m)
  have han2 : bits .and .u8 (x.toNat : Int) ((t[k].toNat ||| m.toNat : Nat) : Int) = ((x &&& (t[k] ||| m)).toNat : Int) := by rw [← UInt8.toNat_or]; exact han
  obtain ⟨z, hz⟩ : ∃ z, x &&& (t[k] ||| m) = z := ⟨_, rfl⟩
  rw [hz] at han han2 ⊢
  have R0 : Hid (Row w.drew s.o1 5 (bytes D.C ++ s.z1)) := Lib.hid h.c.drew
  have HL : Hid (o + k < (bytes D.C ++ s.z1).length) := Lib.hid (by rw [List.length_append, bytes_length]; omega)
  have HD : Hid (Dev w.drew s D) := Lib.hid (h.step ((Below.refl _ _).drew))
  have HO : Hid (Onl s.S w w.drew) := Lib.hid (Onl.of_below ((Below.refl _ _).drew))
  have HK := Lib.hid ho
  clear h hv ho hx et hm hz
  go_enter Try.func30, Try.ntmps30
  go_wp2
  go_still_tail 16, (by kernel_rfl)
  change wpList _ _ _ _ _ w.drew
  generalize w.drew = wq at *
  go_wp2_with ((with_reducible refine R0.out.wpStore1K (o + k) 5 (.int .u8 (z.toNat : Int)) finfo_byte HL.out (int_cells _ _) (int_one _ _) ?_ ?_); rfl; intro w1 r1 o1 s1; have D1 := Lib.hid (HD.out.setC (o + k) z HK.out r1 o1); have O1 := Lib.hid (HO.out.trans (Onl.of_only o1 s.o1_mem)); clear r1 o1 s1)
  go_end0
  exact ⟨rfl, D1.out, O1.out⟩
end Go.Proofs.Ytgdfcfbccjdecaa
