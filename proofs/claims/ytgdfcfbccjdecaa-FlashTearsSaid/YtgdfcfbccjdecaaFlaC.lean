/- Contracts of flash: PowerOn, Fuse, burn, reach, Lock. -/
import Derived.Test.YtgdfcfbccjdecaaFlaB
namespace Go.Proofs.Ytgdfcfbccjdecaa
open Go.RowKit FlaMath
set_option linter.unusedVariables false
set_option maxRecDepth 100000

theorem Dv.Ok.same {D D' : Dv} (h : D.Ok) (hC : D'.C.length = D.C.length) (hL : D'.L.length = D.L.length) (hE : D'.E.length = D.E.length) : D'.Ok := ⟨by rw [hL]; exact h.one, by rw [hL]; exact h.top, by rw [hC, hL]; exact h.cells, by rw [hE, hL]; exact h.worn⟩
theorem Dev.put {w w' : World} {s : Sh} {D : Dv} (h : Dev w s D) (D' : Dv) (hr : Row w' s.b 58 (devL s D')) (ho : Only s.b w w') (hC : D'.C = D.C) (hL : D'.L = D.L) (hE : D'.E = D.E) : Dev w' s D' := by
  have hn := h.ne
  simp only [Sh.S, List.nodup_cons, List.mem_cons, not_or] at hn
  exact ⟨hr, by rw [hC]; exact h.c.only ho (Ne.symm hn.1.1), by rw [hL]; exact h.l.only ho (Ne.symm hn.1.2.1), by rw [hE]; exact h.e.only ho (Ne.symm hn.1.2.2.1), h.ne, by rw [hC]; exact h.room, h.cap, Dv.Ok.same h.ok (by rw [hC]) (by rw [hL]) (by rw [hE])⟩
theorem devL_c (s : Sh) (D : Dv) (C : List UInt8) (hC : C.length = D.C.length) : devL s { D with C := C } = devL s D := by simp [devL, hC]
theorem devL_l (s : Sh) (D : Dv) (L : List Bool) (hC : L.length = D.L.length) : devL s { D with L := L } = devL s D := by simp [devL, hC]
theorem devL_e (s : Sh) (D : Dv) (E : List Int) (hC : E.length = D.E.length) : devL s { D with E := E } = devL s D := by simp [devL, hC]
theorem Dev.putC {w w' : World} {s : Sh} {D : Dv} (h : Dev w s D) (C : List UInt8) (hr : Row w' s.o1 5 (bytes C ++ s.z1)) (ho : Only s.o1 w w') (hC : C.length = D.C.length) : Dev w' s { D with C := C } := by
  have hn := h.ne
  simp only [Sh.S, List.nodup_cons, List.mem_cons, not_or] at hn
  exact ⟨by rw [devL_c s D C hC]; exact h.row.only ho hn.1.1, hr, h.l.only ho (Ne.symm hn.2.1.1), h.e.only ho (Ne.symm hn.2.1.2.1), h.ne, by rw [show ({ D with C := C } : Dv).C = C from rfl, hC]; exact h.room, h.cap, Dv.Ok.same h.ok hC rfl rfl⟩
theorem Dev.putL {w w' : World} {s : Sh} {D : Dv} (h : Dev w s D) (L : List Bool) (hr : Row w' s.o2 4 (fbools L ++ s.z2)) (ho : Only s.o2 w w') (hC : L.length = D.L.length) : Dev w' s { D with L := L } := by
  have hn := h.ne
  simp only [Sh.S, List.nodup_cons, List.mem_cons, not_or] at hn
  exact ⟨by rw [devL_l s D L hC]; exact h.row.only ho hn.1.2.1, h.c.only ho hn.2.1.1, hr, h.e.only ho (Ne.symm hn.2.2.1.1), h.ne, h.room, h.cap, Dv.Ok.same h.ok rfl hC rfl⟩
theorem Dev.putE {w w' : World} {s : Sh} {D : Dv} (h : Dev w s D) (E : List Int) (hr : Row w' s.o3 3 (ints E ++ s.z3)) (ho : Only s.o3 w w') (hC : E.length = D.E.length) : Dev w' s { D with E := E } := by
  have hn := h.ne
  simp only [Sh.S, List.nodup_cons, List.mem_cons, not_or] at hn
  exact ⟨by rw [devL_e s D E hC]; exact h.row.only ho hn.1.2.2.1, h.c.only ho hn.2.1.2.1, h.l.only ho hn.2.2.1.1, hr, h.ne, h.room, h.cap, Dv.Ok.same h.ok rfl rfl hC⟩
theorem Sh.b_mem (s : Sh) : s.b ∈ s.S := by simp [Sh.S]
theorem Sh.o1_mem (s : Sh) : s.o1 ∈ s.S := by simp [Sh.S]
theorem Sh.o2_mem (s : Sh) : s.o2 ∈ s.S := by simp [Sh.S]
theorem Sh.o3_mem (s : Sh) : s.o3 ∈ s.S := by simp [Sh.S]
theorem finfo_byte : (Try.prog.info? 5).map (·.size) = some 1 := by kernel_rfl
theorem finfo_bool : (Try.prog.info? 4).map (·.size) = some 1 := by kernel_rfl
theorem finfo_int : (Try.prog.info? 3).map (·.size) = some 1 := by kernel_rfl
theorem int_cells (k : IntKind) (x : Int) : (Value.int k x).cells = #[.int k x] := rfl
theorem int_one (k : IntKind) (x : Int) : (Value.int k x).oneCell' = true := rfl
theorem bool_cells (x : Bool) : (Value.bool x).cells = #[.bool x] := rfl
theorem bool_one (x : Bool) : (Value.bool x).oneCell' = true := rfl

def buildOf (o : Oper) (a : Act) : Option (TypeId × List (Nat × Value)) := match o.guard, o.op with | none, .build t parts => some (t, (parts.map fun (i, x) => (i, a.eval x)).toList) | _, _ => none
theorem wpBuildK {P : Program} {ops : Array Oper} {rest : List Oper} {o : Oper} {a : Act} {w : World} {Q : Exit → Act → World → Prop} (l : List Value) (ty : TypeId) (ps : List (Nat × Value)) (hb : P.built ty ps = some l.toArray) (ho : buildOf o a = some (ty, ps))
    (k : wpList P ops Q rest (a.put o.dst (.agg l.toArray)) w) : wpList P ops Q (o :: rest) a w := by
  unfold buildOf at ho
  split at ho
  · rename_i t parts hg hop
    obtain ⟨rfl, e⟩ := Prod.mk.inj (Option.some.inj ho)
    refine wpList_build hg t parts hop (by rw [e, hb]; rfl) ?_
    rw [e, hb]
    exact k
  · cases ho
def fuse0 : List Value := [.int .i64 0, .int .u8 0, .bool false, .int .i64 0]
theorem built_fuse0 : Try.prog.built 56 [] = some fuse0.toArray := by kernel_rfl
theorem fits_fuse : Fits Try.prog 56 4 := ⟨⟨_, Try.underlying56, rfl⟩, by kernel_rfl⟩
theorem poweron_nil (w : World) : Calls Try.prog 17 #[.pointer none] w fun e w' => e = .returned (.tuple #[]) ∧ w = w' := by
  have HX := Lib.hid (none_nil w)
  go_enter Try.func17, Try.ntmps17
  go_wp2_with (go_at_call 39; (with_reducible refine HX.out.mono ?_); rintro e u1 ⟨rfl, rfl⟩)
  go_end0
  exact ⟨rfl, rfl⟩
theorem poweron_any (s : Sh) (D : Dv) (w : World) (h : Dev w s D) :
    Calls Try.prog 17 #[.pointer (some ⟨s.b, 0, none⟩)] w fun e w' => e = .returned (.tuple #[]) ∧ Dev w' s D.on ∧ Onl s.S w w' := by
  have HX := Lib.hid (none_any s D w h)
  have HD := Lib.hid h
  have HL : Hid (8 < (devL s D).length) := Lib.hid (by rw [devL_length]; decide)
  have R0 : Hid (Row w s.b 58 (devL s D)) := Lib.hid h.row
  obtain ⟨F, hF⟩ : ∃ F, F = fuse0 := ⟨_, rfl⟩
  have HF : Hid (Try.prog.built 56 [] = some F.toArray) := Lib.hid (by rw [hF]; exact built_fuse0)
  have HF4 : Hid (F.length = 4) := Lib.hid (by rw [hF]; rfl)
  have HF1 : Hid (F.all (·.oneCell') = true) := Lib.hid (by rw [hF]; rfl)
  have HFE := Lib.hid hF
  obtain ⟨Y, hY⟩ : ∃ Y, Y = [Value.int .i64 D.fb, .int .u8 (D.fm.toNat : Int), .bool D.lit, .int .i64 D.left] := ⟨_, rfl⟩
  obtain ⟨Z, hZ⟩ : ∃ Z, Z = [Value.slice (some ⟨s.o1, 0, none⟩) D.C.length s.k1, .slice (some ⟨s.o2, 0, none⟩) D.L.length s.k2, .slice (some ⟨s.o3, 0, none⟩) D.E.length s.k3, .int .i64 D.ops, .bool false] := ⟨_, rfl⟩
  have HYZ : Hid ((devL s D).set 8 (.bool false) = [] ++ Y ++ Z) := Lib.hid (by rw [hY, hZ]; rfl)
  have HY4 : Hid (Y.length = 4) := Lib.hid (by rw [hY]; rfl)
  have HE : Hid ([] ++ F ++ Z = devL s D.on) := Lib.hid (by rw [hF, hZ]; rfl)
  clear h hF hY hZ
  go_enter Try.func17, Try.ntmps17
  go_wp2_with (first
    | (go_at_call 39; (with_reducible refine HX.out.mono ?_); rintro e u1 ⟨rfl, rfl⟩)
    | ((with_reducible refine R0.out.wpStore1K 8 4 (.bool false) finfo_bool HL.out (bool_cells _) (bool_one _) ?_ ?_); rfl; intro w1 r1 o1 s1; have R1 : Hid (Row w1 s.b 58 ([] ++ Y ++ Z)) := Lib.hid (by rw [← HYZ.out]; exact r1); have O1 := Lib.hid o1; clear r1 o1 s1)
    | ((with_reducible refine wpBuildZeroK F 56 HF.out ?_ ?_); rfl)
    | ((with_reducible refine R1.out.wpStoreMidK 0 rfl 56 F fits_fuse HY4.out HF4.out HF1.out ?_ ?_); rfl; intro w2 r2 o2 s2; have R2 := Lib.hid r2; have O2 := Lib.hid (O1.out.trans o2); clear r2 o2 s2))
  go_end0
  exact ⟨rfl, HD.out.put _ (by rw [← HE.out]; exact R2.out) O2.out rfl rfl rfl, Onl.of_only O2.out s.b_mem⟩

theorem fits_torn : Fits Try.prog 34 2 := ⟨⟨_, Try.underlying34, rfl⟩, by kernel_rfl⟩
theorem fuse_nil (n fb : Int) (fm : UInt8) (w : World) : Calls Try.prog 16 #[.pointer none, .int .i64 n, .agg #[.int .i64 fb, .int .u8 (fm.toNat : Int)]] w fun e w' => e = .returned (.tuple #[]) ∧ Below w.heap.size w w' := by
  have HX := Lib.hid none_nil
  obtain ⟨T, hT⟩ : ∃ T, T = [Value.int .i64 fb, .int .u8 (fm.toNat : Int)] := ⟨_, rfl⟩
  have hTa : (#[.int .i64 fb, .int .u8 (fm.toNat : Int)] : Array Value) = T.toArray := by rw [hT]
  rw [hTa]
  clear hTa hT
  go_enter Try.func16, Try.ntmps16
  go_wp2_with (first
    | ((with_reducible refine wpBoxK T 34 ?_ ?_); rfl; intro w1 r1 b1 s1; have R1 := Lib.hid r1; have B1 := Lib.hid b1; clear r1 b1 s1)
    | (go_at_call 39; (with_reducible refine (HX.out w1).mono ?_); rintro e u1 ⟨rfl, rfl⟩))
  go_end0
  exact ⟨rfl, B1.out⟩
theorem fuse_any (s : Sh) (D : Dv) (n fb : Int) (fm : UInt8) (w : World) (h : Dev w s D) :
    Calls Try.prog 16 #[.pointer (some ⟨s.b, 0, none⟩), .int .i64 n, .agg #[.int .i64 fb, .int .u8 (fm.toNat : Int)]] w fun e w' => e = .returned (.tuple #[]) ∧ Dev w' s (D.fuse n fb fm) ∧ Onl s.S w w' := by
  have HX : Hid (∀ w1, Below w.heap.size w w1 → Calls Try.prog 39 #[.pointer (some ⟨s.b, 0, none⟩)] w1 fun e w' => e = .returned (.bool false) ∧ w1 = w') := Lib.hid fun w1 hb => none_any s D w1 (h.step hb)
  have HD := Lib.hid h
  have R0 : Hid (Row w s.b 58 (devL s D)) := Lib.hid h.row
  obtain ⟨m, hm⟩ : ∃ m : Int, (fm.toNat : Int) = m := ⟨_, rfl⟩
  have HF1 : Hid (([Value.int .i64 fb, .int .u8 m, .bool (decide (0 ≤ n)), .int .i64 n]).all (·.oneCell') = true) := Lib.hid rfl
  obtain ⟨Y, hY⟩ : ∃ Y, Y = [Value.int .i64 D.fb, .int .u8 (D.fm.toNat : Int), .bool D.lit, .int .i64 D.left] := ⟨_, rfl⟩
  obtain ⟨Z, hZ⟩ : ∃ Z, Z = [Value.slice (some ⟨s.o1, 0, none⟩) D.C.length s.k1, .slice (some ⟨s.o2, 0, none⟩) D.L.length s.k2, .slice (some ⟨s.o3, 0, none⟩) D.E.length s.k3, .int .i64 D.ops, .bool D.dn] := ⟨_, rfl⟩
  have HYZ : Hid (devL s D = [] ++ Y ++ Z) := Lib.hid (by rw [hY, hZ]; rfl)
  have HY4 : Hid (Y.length = 4) := Lib.hid (by rw [hY]; rfl)
  have HE : Hid ([] ++ [Value.int .i64 fb, .int .u8 m, .bool (decide (0 ≤ n)), .int .i64 n] ++ Z = devL s (D.fuse n fb fm)) := Lib.hid (by rw [hZ, ← hm]; rfl)
  have RY : Hid (∀ w1, Below w.heap.size w w1 → Row w1 s.b 58 ([] ++ Y ++ Z)) := Lib.hid fun w1 hb => by rw [← HYZ.out]; exact R0.out.step hb
  have HO : Hid (∀ w1 w2, Below w.heap.size w w1 → Only s.b w1 w2 → Onl s.S w w2) := Lib.hid fun w1 w2 hb ho => (Onl.of_below hb).trans (Onl.of_only ho s.b_mem)
  rw [hm]
  clear h hY hZ hm
  go_enter Try.func16, Try.ntmps16
  go_wp2_with (first
    | ((with_reducible refine wpBoxK [Value.int .i64 fb, .int .u8 m] 34 ?_ ?_); rfl; intro w1 r1 b1 s1; have RT := Lib.hid r1; have B1 := Lib.hid b1; have R1 := Lib.hid (RY.out w1 b1); clear r1 b1 s1)
    | (go_at_call 39; (with_reducible refine (HX.out w1 B1.out).mono ?_); rintro e u1 ⟨rfl, rfl⟩)
    | ((with_reducible refine RT.out.wpLoadK 34 fits_torn rfl ?_ ?_); rfl)
    | ((with_reducible refine R1.out.wpStoreMidK 0 rfl 56 [Value.int .i64 fb, .int .u8 m, .bool (decide (0 ≤ n)), .int .i64 n] fits_fuse HY4.out rfl HF1.out ?_ ?_); rfl; intro w2 r2 o2 s2; have R2 := Lib.hid r2; have O2 := Lib.hid o2; clear r2 o2 s2))
  go_end0
  exact ⟨rfl, (HD.out.step B1.out).put _ (by rw [← HE.out]; exact R2.out) O2.out rfl rfl rfl, HO.out _ _ B1.out O2.out⟩
end Go.Proofs.Ytgdfcfbccjdecaa
