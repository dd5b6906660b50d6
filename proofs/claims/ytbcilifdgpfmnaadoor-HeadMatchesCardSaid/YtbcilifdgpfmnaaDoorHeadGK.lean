/- The texts HeadG, HeadH, HeadI, HeadR, HeadJ, HeadK, one behind the other. -/
import Derived.Test.YtbcilifdgpfmnaaDoorHeadBF
import Derived.Test.YtbcilifdgpfmnaaDoorShaL
import Derived.Test.YtbcilifdgpfmnaaDoorLst
import Derived.Test.YtbcilifdgpfmnaaDoorShaM
import Derived.Test.YtbcilifdgpfmnaaDoorOpen
import Derived.Test.YtbcilifdgpfmnaaDoorReads
import Derived.Test.YtbcilifdgpfmnaaDoorShaX2
/- Heads held against themselves. -/
namespace Go.Proofs.YtbcilifdgpfmnaaDoor
open Go.RowKit HeadMath NumMath
set_option linter.unusedVariables false
set_option maxRecDepth 100000

theorem hd_part_agg {P : Program} {e : TypeId} {sz : Nat} (hg : ∀ w, (isAgg e).run P w = .ok true w) (hs : ∀ w, (sizeOf e).run P w = .ok sz w) (xs : Array Value) (i : Nat) (w : World) : (part e xs i).run P w = .ok (.agg (xs.extract i (i + sz))) w := by
  simp [part, hg, hs]
theorem hdv_ex0 (a b c n : Int) (H : List UInt8) : (hdv a b c n H).toArray.extract 0 3 = #[.int .i64 a, .int .i64 b, .int .i64 c] := by
  apply Array.ext'
  simp [hdv]
theorem hdv_ex4 (a b c n : Int) (H : List UInt8) (hH : H.length = 32) : (hdv a b c n H).toArray.extract 4 36 = (bytes H).toArray := by
  apply Array.ext'
  simp [hdv, List.take_of_length_le, bytes_length, hH]
theorem ver_same (a b c : Int) (u : World) : (Op.equalIn 9999 23 (.agg #[.int .i64 a, .int .i64 b, .int .i64 c]) (.agg #[.int .i64 a, .int .i64 b, .int .i64 c])).run Tryd.prog u = .ok true u := by
  have h := run_equal_ints (P := Tryd.prog) 9997 23 3 3 .i64 [a, b, c] [a, b, c] u Tryd.underlying23 Tryd.underlying3 hd_size_int hd_agg_int rfl rfl
  simpa using h
theorem hash_same (H : List UInt8) (hH : H.length = 32) (u : World) : (Op.equalIn 9999 25 (.agg (bytes H).toArray) (.agg (bytes H).toArray)).run Tryd.prog u = .ok true u := by
  have h := run_equal_ints (P := Tryd.prog) 9997 25 5 32 .u8 (H.map fun b => (b.toNat : Int)) (H.map fun b => (b.toNat : Int)) u Tryd.underlying25 Tryd.underlying5 size_byte agg_byte (by simpa using hH) (by simpa using hH)
  rw [← bytes_ints] at h
  simpa using h
theorem hd_agg_ver : ∀ w, (isAgg 23).run Tryd.prog w = .ok true w := fun w => by kernel_rfl
theorem hd_agg_hash : ∀ w, (isAgg 25).run Tryd.prog w = .ok true w := fun w => by kernel_rfl
theorem hd_size_ver : ∀ w, (sizeOf 23).run Tryd.prog w = .ok 3 w := fun w => by kernel_rfl
theorem hd_size_hash : ∀ w, (sizeOf 25).run Tryd.prog w = .ok 32 w := fun w => by kernel_rfl
theorem int_same (n : Int) (u : World) : (Op.equalIn 9999 3 (.int .i64 n) (.int .i64 n)).run Tryd.prog u = .ok true u :=
  (run_equalIn_int u 9998 3 .i64 .i64 n n Tryd.underlying3).trans (by rw [beq_self_eq_true])
theorem head_fields : ∃ f0 f1 f2 : Field, (Tryd.prog.fieldsOf 27).toList = [f0, f1, f2] ∧ (f0.name ≠ "_" ∧ f1.name ≠ "_" ∧ f2.name ≠ "_") ∧ (f0.type = 23 ∧ f1.type = 3 ∧ f2.type = 25) ∧ f0.offset = 0 ∧ f1.offset = 3 ∧ f2.offset = 4 := by
  have h : (Tryd.prog.fieldsOf 27).toList.map (fun f => (f.name, f.type, f.offset)) = [("Version", 23, 0), ("Length", 3, 3), ("Hash", 25, 4)] := by kernel_rfl
  revert h
  generalize (Tryd.prog.fieldsOf 27).toList = l
  intro h
  have hl : l.length = 3 := by simpa using congrArg List.length h
  match l, hl, h with
  | [f0, f1, f2], _, h =>
    simp only [List.map_cons, List.map_nil, List.cons.injEq, Prod.mk.injEq, and_true] at h
    obtain ⟨⟨a1, a2, a3⟩, ⟨b1, b2, b3⟩, c1, c2, c3⟩ := h
    exact ⟨f0, f1, f2, rfl, ⟨by rw [a1]; simp, by rw [b1]; simp, by rw [c1]; simp⟩, ⟨a2, b2, c2⟩, a3, b3, c3⟩
theorem head_eq (xs ys : Array Value) (u : World) (v0 v1 v2 v3 v4 v5 : Value) (p0 : (part 23 xs 0).run Tryd.prog u = .ok v0 u) (p1 : (part 3 xs 3).run Tryd.prog u = .ok v1 u) (p2 : (part 25 xs 4).run Tryd.prog u = .ok v2 u)
    (p3 : (part 23 ys 0).run Tryd.prog u = .ok v3 u) (p4 : (part 3 ys 3).run Tryd.prog u = .ok v4 u) (p5 : (part 25 ys 4).run Tryd.prog u = .ok v5 u)
    (e0 : (Op.equalIn 9999 23 v0 v3).run Tryd.prog u = .ok true u) (e1 : (Op.equalIn 9999 3 v1 v4).run Tryd.prog u = .ok true u) (e2 : (Op.equalIn 9999 25 v2 v5).run Tryd.prog u = .ok true u) :
    (Op.equalIn 10000 27 (.agg xs) (.agg ys)).run Tryd.prog u = .ok true u := by
  refine (run_equalIn_struct u 9999 27 xs ys (by kernel_rfl) (by kernel_rfl)).trans ?_
  obtain ⟨f0, f1, f2, hf, ⟨n0, n1, n2⟩, ⟨t0, t1, t2⟩, o0, o1, o2⟩ := head_fields
  rw [hf]
  generalize 9999 = D at *
  simp only [Op.eqFields, n0, n1, n2, ne_eq, not_false_eq_true, if_true, t0, t1, t2, o0, o1, o2, Sem.run_bind, p0, p1, p2, p3, p4, p5, Result.andThen_ok, e0, e1, e2, Bool.not_true, Bool.false_eq_true, if_false, Sem.run_pure]
theorem head_same (a b c n : Int) (H : List UInt8) (hH : H.length = 32) (u : World) : (Op.equalIn 10000 27 (.agg (hdv a b c n H).toArray) (.agg (hdv a b c n H).toArray)).run Tryd.prog u = .ok true u := by
  have p0 := hd_part_agg hd_agg_ver hd_size_ver (hdv a b c n H).toArray 0 u
  have p1 : (part 3 (hdv a b c n H).toArray 3).run Tryd.prog u = .ok (.int .i64 n) u := run_part_int hd_agg_int _ 3 _ (by simp [hdv]) u
  have p2 := hd_part_agg hd_agg_hash hd_size_hash (hdv a b c n H).toArray 4 u
  rw [hdv_ex0] at p0
  rw [hdv_ex4 a b c n H hH] at p2
  exact head_eq _ _ u _ _ _ _ _ _ p0 p1 p2 p0 p1 p2 (ver_same a b c u) (int_same n u) (hash_same H hH u)
theorem rhead_fields : ∃ f0 f1 f2 : Field, (Tryd.prog.fieldsOf 29).toList = [f0, f1, f2] ∧ (f0.name ≠ "_" ∧ f1.name ≠ "_" ∧ f2.name ≠ "_") ∧ (f0.type = 23 ∧ f1.type = 3 ∧ f2.type = 25) ∧ f0.offset = 0 ∧ f1.offset = 3 ∧ f2.offset = 4 := by
  have h : (Tryd.prog.fieldsOf 29).toList.map (fun f => (f.name, f.type, f.offset)) = [("Version", 23, 0), ("Length", 3, 3), ("Hash", 25, 4)] := by kernel_rfl
  revert h
  generalize (Tryd.prog.fieldsOf 29).toList = l
  intro h
  have hl : l.length = 3 := by simpa using congrArg List.length h
  match l, hl, h with
  | [f0, f1, f2], _, h =>
    simp only [List.map_cons, List.map_nil, List.cons.injEq, Prod.mk.injEq, and_true] at h
    obtain ⟨⟨a1, a2, a3⟩, ⟨b1, b2, b3⟩, c1, c2, c3⟩ := h
    exact ⟨f0, f1, f2, rfl, ⟨by rw [a1]; simp, by rw [b1]; simp, by rw [c1]; simp⟩, ⟨a2, b2, c2⟩, a3, b3, c3⟩
theorem rhead_eq (xs ys : Array Value) (u : World) (v0 v1 v2 v3 v4 v5 : Value) (p0 : (part 23 xs 0).run Tryd.prog u = .ok v0 u) (p1 : (part 3 xs 3).run Tryd.prog u = .ok v1 u) (p2 : (part 25 xs 4).run Tryd.prog u = .ok v2 u)
    (p3 : (part 23 ys 0).run Tryd.prog u = .ok v3 u) (p4 : (part 3 ys 3).run Tryd.prog u = .ok v4 u) (p5 : (part 25 ys 4).run Tryd.prog u = .ok v5 u)
    (e0 : (Op.equalIn 9999 23 v0 v3).run Tryd.prog u = .ok true u) (e1 : (Op.equalIn 9999 3 v1 v4).run Tryd.prog u = .ok true u) (e2 : (Op.equalIn 9999 25 v2 v5).run Tryd.prog u = .ok true u) :
    (Op.equalIn 10000 29 (.agg xs) (.agg ys)).run Tryd.prog u = .ok true u := by
  refine (run_equalIn_struct u 9999 29 xs ys (by kernel_rfl) (by kernel_rfl)).trans ?_
  obtain ⟨f0, f1, f2, hf, ⟨n0, n1, n2⟩, ⟨t0, t1, t2⟩, o0, o1, o2⟩ := rhead_fields
  rw [hf]
  generalize 9999 = D at *
  simp only [Op.eqFields, n0, n1, n2, ne_eq, not_false_eq_true, if_true, t0, t1, t2, o0, o1, o2, Sem.run_bind, p0, p1, p2, p3, p4, p5, Result.andThen_ok, e0, e1, e2, Bool.not_true, Bool.false_eq_true, if_false, Sem.run_pure]
theorem rhead_same (a b c n : Int) (H : List UInt8) (hH : H.length = 32) (u : World) : (Op.equalIn 10000 29 (.agg (hdv a b c n H).toArray) (.agg (hdv a b c n H).toArray)).run Tryd.prog u = .ok true u := by
  have p0 := hd_part_agg hd_agg_ver hd_size_ver (hdv a b c n H).toArray 0 u
  have p1 : (part 3 (hdv a b c n H).toArray 3).run Tryd.prog u = .ok (.int .i64 n) u := run_part_int hd_agg_int _ 3 _ (by simp [hdv]) u
  have p2 := hd_part_agg hd_agg_hash hd_size_hash (hdv a b c n H).toArray 4 u
  rw [hdv_ex0] at p0
  rw [hdv_ex4 a b c n H hH] at p2
  exact rhead_eq _ _ u _ _ _ _ _ _ p0 p1 p2 p0 p1 p2 (ver_same a b c u) (int_same n u) (hash_same H hH u)
end Go.Proofs.YtbcilifdgpfmnaaDoor

/- Of (gen_head_h.py). -/
namespace Go.Proofs.YtbcilifdgpfmnaaDoor
open Go.RowKit HeadMath NumMath
set_option linter.unusedVariables false
set_option maxRecDepth 100000

theorem built_head32 (a b c n : Int) (h0 h1 h2 h3 h4 h5 h6 h7 h8 h9 h10 h11 h12 h13 h14 h15 h16 h17 h18 h19 h20 h21 h22 h23 h24 h25 h26 h27 h28 h29 h30 h31 : UInt8) : Tryd.prog.built 27 [(0, .agg #[.int .i64 a, .int .i64 b, .int .i64 c]), (1, .int .i64 n), (2, .agg (bytes [h0, h1, h2, h3, h4, h5, h6, h7, h8, h9, h10, h11, h12, h13, h14, h15, h16, h17, h18, h19, h20, h21, h22, h23, h24, h25, h26, h27, h28, h29, h30, h31]).toArray)] = some (hdv a b c n [h0, h1, h2, h3, h4, h5, h6, h7, h8, h9, h10, h11, h12, h13, h14, h15, h16, h17, h18, h19, h20, h21, h22, h23, h24, h25, h26, h27, h28, h29, h30, h31]).toArray := by kernel_rfl
theorem built_head (a b c n : Int) (H : List UInt8) (hH : H.length = 32) : Tryd.prog.built 27 [(0, .agg #[.int .i64 a, .int .i64 b, .int .i64 c]), (1, .int .i64 n), (2, .agg (bytes H).toArray)] = some (hdv a b c n H).toArray :=
  match H, hH with
  | [h0, h1, h2, h3, h4, h5, h6, h7, h8, h9, h10, h11, h12, h13, h14, h15, h16, h17, h18, h19, h20, h21, h22, h23, h24, h25, h26, h27, h28, h29, h30, h31], _ => built_head32 a b c n h0 h1 h2 h3 h4 h5 h6 h7 h8 h9 h10 h11 h12 h13 h14 h15 h16 h17 h18 h19 h20 h21 h22 h23 h24 h25 h26 h27 h28 h29 h30 h31
theorem sum_lst (s : ByteArray) (D : List UInt8) (v : Value) (w : World) (hD : ShaMath.sha s.data.toList = D) (hg : Glob w) (ht : s.size ≤ 1000000) (hv : Lst [.string s] v w) :
    Calls Tryd.prog 23 #[v] w fun e w' => e = .returned (.agg (bytes D).toArray) ∧ Below w.heap.size w w' := by
  obtain ⟨g, n, rfl, hn, hl⟩ := hv
  obtain rfl : 1 = n := hn
  have e : cat [s] = s.data.toList := cat_one s
  exact sum_list (some ⟨g, 0, none⟩) 1 1 [s] D w rfl (by rw [e, hD]) hg ⟨by omega⟩ ⟨by rw [e, size_list]; omega⟩ hl

set_option maxHeartbeats 1000000 in
theorem head_of_any (a b c : Int) (s : ByteArray) (D : List UInt8) (w : World) (hD : ShaMath.sha s.data.toList = D) (hg : Glob w) (hs : s.size ≤ 1000000) :
    Calls Tryd.prog 13 #[.agg #[.int .i64 a, .int .i64 b, .int .i64 c], .string s] w fun e w' => e = .returned (.agg (hdv a b c (s.size : Int) D).toArray) ∧ Below w.heap.size w w' := by
  have lD : D.length = 32 := by rw [← hD, ShaMath.sha_length]
  have HSUM : Hid (∀ wx v, Glob wx → Lst [.string s] v wx → Calls Tryd.prog 23 #[v] wx fun e w' => e = .returned (.agg (bytes D).toArray) ∧ Below wx.heap.size wx w') := Lib.hid fun wx v g h => sum_lst s D v wx hD g hs h
  have HBU := Lib.hid (built_head a b c (s.size : Int) D lD)
  have LZ : Hid ((hdv 0 0 0 0 (List.replicate 32 0)).length = 36) := Lib.hid (hdv_length _ _ _ _ _ (by simp))
  obtain ⟨V, hV⟩ : ∃ V, hdv a b c (s.size : Int) D = V := ⟨_, rfl⟩
  have LV : Hid (V.length = 36) := Lib.hid (by rw [← hV]; exact hdv_length _ _ _ _ _ lD)
  have V1 : Hid (V.all (·.oneCell') = true) := Lib.hid (by rw [← hV]; exact hdv_one _ _ _ _ _)
  rw [hV] at HBU ⊢
  have HG := Lib.hid hg
  have hsz : (s.size : Int) ≤ 1000000 := by omega
  clear hD lD hV hg hs
  go_enter Tryd.func13, Tryd.ntmps13
  go_wp2_with (first
    | ((with_reducible refine wpBoxK (w := w) [Value.int .i64 a, .int .i64 b, .int .i64 c] 23 ?_ ?_); rfl; intro u1 r1 b1 s1; have R1 := Lib.hid r1; have B1 := Lib.hid b1; clear r1 b1 s1)
    | ((with_reducible refine wpAllocK (w := u1) (hdv 0 0 0 0 (List.replicate 32 0)) 27 zero_head ?_ ?_); rfl; intro u2 r2 b2 s2; have K2 := Lib.hid r2; have R2 := Lib.hid (R1.out.step b2); have B2 : Hid (Below w.heap.size w u2) := Lib.hid (B1.out.next b2); clear r2 b2 s2))
  refine region_storeT 7 0 [] (by decide) [(0, 5), (1, 6), (2, 7), (3, 8), (4, 9), (5, 10), (6, 11)]
    (fun ii => [Is (.agg ([Value.int .i64 a, .int .i64 b, .int .i64 c]).toArray), Is (.string s), Is (.int .i64 (s.size : Int)), Is (.string s), Lst [.string s], Is (.agg (bytes D).toArray), Is (.agg V.toArray), Is undef].getD ii (Is undef))
    (fun w' => Below u2.heap.size u2 w') (fun v w' => Row w' u1.heap.size 27 V ∧ Below w.heap.size w w') (by kernel_rfl) (by decide) (by kernel_rfl) (by kernel_rfl) (by decide) (by decide) (by kernel_rfl) rfl (by kernel_rfl) ?monoA ((Below.refl _ _).drew) ?stepA ?stepXA ?stepSA ?finA
  case monoA =>
    intro i
    match i with
    | 0 | 1 | 2 | 3 | 5 | 6 | 7 => exact Is.monot _
    | 4 => exact Lst.monot _
    | _ + 8 => exact Is.monot _
  case stepA =>
    refine List.forall_mem_cons.2 ⟨?As0, List.forall_mem_cons.2 ⟨?As1, List.forall_mem_cons.2 ⟨?As2, List.forall_mem_cons.2 ⟨?As3, List.forall_mem_cons.2 ⟨?As4, List.forall_mem_cons.2 ⟨?As5, List.forall_mem_cons.2 ⟨?As6, List.forall_mem_nil _⟩⟩⟩⟩⟩⟩⟩
    case As0 =>
      intro _
      intro u wx hg hC
      clear hC
      generalize hA : puts [(0, 5), (1, 6), (2, 7), (3, 8), (4, 9), (5, 10), (6, 11)] _ u = A
      have hp : A.tmps.getD 2 undef = (.pointer (some ⟨w.heap.size, 0, none⟩)) := by rw [← hA]; exact (puts_get_out u _ _ 2 (by decide)).trans (by rfl)
      have hsz : 5 < A.tmps.size := by rw [← hA]; exact puts_room u (by kernel_rfl)
      refine wpOp_step rfl (fun K hK => ?_)
      clear hA
      exact opLoadK (φ := Is (.agg ([Value.int .i64 a, .int .i64 b, .int .i64 c]).toArray)) (R2.out.step hg) _ (fits_ver) (rfl) 5 rfl hsz hK (.tmp 2) rfl hp rfl hg
    case As1 =>
      intro _
      intro u wx hg hC
      clear hC
      refine wpOp_step rfl (fun K hK => ?_)
      simp only [puts, List.foldl]
      go_simp
      exact hK _ _ ⟨rfl, rfl, hg, Below.refl _ _⟩
    case As2 =>
      intro _
      intro u wx hg hC
      have hJ1 : u 1 = (.string s) := hC.at 1 (by kernel_rfl)
      clear hC
      refine wpOp_step rfl (fun K hK => ?_)
      simp only [puts, List.foldl]
      go_simp
      exact hK _ _ ⟨rfl, rfl, hg, Below.refl _ _⟩
    case As3 =>
      intro _
      intro u wx hg hC
      clear hC
      refine wpOp_step rfl (fun K hK => ?_)
      simp only [puts, List.foldl]
      go_simp
      exact hK _ _ ⟨rfl, rfl, hg, Below.refl _ _⟩
    case As4 =>
      intro _
      intro u wx hg hC
      have hJ3 : u 3 = (.string s) := hC.at 3 (by kernel_rfl)
      clear hC
      refine wpOp_step rfl (fun K hK => ?_)
      simp only [puts, List.foldl]
      go_simp
      exact hK _ _ ⟨rfl, lst_new [.string s] wx 9 _ rfl, hg.next (alloc_below _ _), alloc_below _ _⟩
    case As5 =>
      intro _
      intro u wx hg hC
      have hJ4 : (Lst [.string s]) (u 4) wx := hC.at 4 (by kernel_rfl)
      clear hC
      refine wpOp_step rfl (fun K hK => ?_)
      simp only [puts, List.foldl]
      go_simp
      refine (HSUM.out wx _ ((HG.out.step B2.out).step hg) hJ4).mono ?_
      rintro e w' ⟨rfl, hb'⟩
      exact hK _ _ ⟨rfl, rfl, hg.next hb', hb'⟩
    case As6 =>
      intro _
      intro u wx hg hC
      have hJ0 : u 0 = (.agg ([Value.int .i64 a, .int .i64 b, .int .i64 c]).toArray) := hC.at 0 (by kernel_rfl)
      have hJ2 : u 2 = (.int .i64 (s.size : Int)) := hC.at 2 (by kernel_rfl)
      have hJ5 : u 5 = (.agg (bytes D).toArray) := hC.at 5 (by kernel_rfl)
      clear hC
      generalize hA : puts [(0, 5), (1, 6), (2, 7), (3, 8), (4, 9), (5, 10), (6, 11)] _ u = A
      have q0 : A.tmps.getD 5 undef = (.agg [Value.int .i64 a, .int .i64 b, .int .i64 c].toArray) := by rw [← hA]; exact (puts_get u 0 5 _ _ (by decide) (by decide) (by kernel_rfl)).trans hJ0
      have q1 : A.tmps.getD 7 undef = (.int .i64 (s.size : Int)) := by rw [← hA]; exact (puts_get u 2 7 _ _ (by decide) (by decide) (by kernel_rfl)).trans hJ2
      have q2 : A.tmps.getD 10 undef = (.agg (bytes D).toArray) := by rw [← hA]; exact (puts_get u 5 10 _ _ (by decide) (by decide) (by kernel_rfl)).trans hJ5
      have hsz : 11 < A.tmps.size := by rw [← hA]; exact puts_room u (by kernel_rfl)
      refine wpOp_step rfl (fun K hK => ?_)
      clear hA
      exact opBuildK (φ := Is (.agg V.toArray)) _ _ _ HBU.out 11 rfl hsz hK _ rfl (by rw [Array.toList_map]; show [(0, A.tmps.getD 5 undef), (1, A.tmps.getD 7 undef), (2, A.tmps.getD 10 undef)] = _; rw [q0, q1, q2]) rfl hg
  case stepXA =>
    refine List.forall_mem_cons.2 ⟨?Ax0, List.forall_mem_cons.2 ⟨?Ax1, List.forall_mem_cons.2 ⟨?Ax2, List.forall_mem_cons.2 ⟨?Ax3, List.forall_mem_cons.2 ⟨?Ax4, List.forall_mem_cons.2 ⟨?Ax5, List.forall_mem_cons.2 ⟨?Ax6, List.forall_mem_nil _⟩⟩⟩⟩⟩⟩⟩
    case Ax0 =>
      intro hx; exact absurd hx (by decide)
    case Ax1 =>
      intro hx; exact absurd hx (by decide)
    case Ax2 =>
      intro hx; exact absurd hx (by decide)
    case Ax3 =>
      intro hx; exact absurd hx (by decide)
    case Ax4 =>
      intro hx; exact absurd hx (by decide)
    case Ax5 =>
      intro hx; exact absurd hx (by decide)
    case Ax6 =>
      intro hx; exact absurd hx (by decide)
  case stepSA =>
    intro u wx hg hC
    have hJ6 : u 6 = .agg V.toArray := hC (6, 11) (by decide) (by decide)
    clear hC
    generalize hA : puts [(0, 5), (1, 6), (2, 7), (3, 8), (4, 9), (5, 10), (6, 11)] _ u = A
    have hp : A.tmps.getD 4 undef = .pointer (some ⟨u1.heap.size, 0, none⟩) := by rw [← hA]; exact (puts_get_out u _ _ 4 (by decide)).trans (by rfl)
    have hq : A.tmps.getD 11 undef = .agg V.toArray := by rw [← hA]; exact (puts_get u 6 11 _ _ (by decide) (by decide) (by kernel_rfl)).trans hJ6
    refine wpOp_step rfl (fun K hK => ?_)
    clear hA
    exact opStoreK (H := fun w' => Row w' u1.heap.size 27 V ∧ Below w.heap.size w w') (K2.out.step hg) _ V fits_head LZ.out LV.out V1.out hK (.tmp 4) (.tmp 11) rfl hp hq fun w' h1 h2 h3 => ⟨h1, (B2.out.next hg).trans (h2.below B1.out.size (B2.out.next hg).size)⟩
  case finA =>
    intro u u3 hh hφ
    obtain ⟨r3, b3⟩ := hh
    clear hφ
    simp only [puts, List.foldl]
    go_simp
    go_wp2
    exact bodyPost_ret (r3.result rfl _ _ rfl Tryd.underlying27 rfl (by rw [LV.out]; exact fits_head.size)) rfl ⟨rfl, b3⟩
end Go.Proofs.YtbcilifdgpfmnaaDoor

/- The document's example; HeadPuts. -/
namespace Go.Proofs.YtbcilifdgpfmnaaDoor
open Go.RowKit HeadMath NumMath
set_option linter.unusedVariables false
set_option maxRecDepth 100000

theorem abc_head (D : List UInt8) : (headB 1 2 3 3 D).take 14 = [84, 82, 73, 80, 0, 1, 0, 2, 0, 3, 0, 0, 0, 3] := rfl

set_option maxHeartbeats 1000000 in
theorem head_awake_any (w : World) (hg : Glob w) :
    Calls Tryd.prog 5 #[] w fun e w' => e = .returned (.bool true) ∧ Below w.heap.size w w' := by
  obtain ⟨D, hD⟩ : ∃ D, ShaMath.sha [97, 98, 99] = D := ⟨_, rfl⟩
  have lD : D.length = 32 := by rw [← hD, ShaMath.sha_length]
  have HO : Hid (∀ u, Glob u → Calls Tryd.prog 13 #[.agg #[.int .i64 1, .int .i64 2, .int .i64 3], .string { data := #[97, 98, 99] }] u fun e u' => e = .returned (.agg (hdv 1 2 3 3 D).toArray) ∧ Below u.heap.size u u') := Lib.hid fun u g => head_of_any 1 2 3 { data := #[97, 98, 99] } D u hD g (by decide)
  obtain ⟨T, hT⟩ : ∃ T, str (headB 1 2 3 3 D) = T := ⟨_, rfl⟩
  have HP : Hid (∀ u, Calls Tryd.prog 6 #[.agg (hdv 1 2 3 3 D).toArray] u fun e u' => e = .returned (.tuple #[.string T, .int .i64 0]) ∧ Below u.heap.size u u') := Lib.hid fun u => by rw [← hT]; exact head_put_yes 1 2 3 3 D u rfl lD
  have lT : T.size = 48 := by rw [← hT, str_size, headB_length _ _ _ _ _ lD]
  have h14 : (T.extract 0 14).data.toList = [84, 82, 73, 80, 0, 1, 0, 2, 0, 3, 0, 0, 0, 3] := by
    rw [num_take_extract, ← hT, str_list, abc_head]
  have hbe : ((T.extract 0 14).toList == [84, 82, 73, 80, 0, 1, 0, 2, 0, 3, 0, 0, 0, 3]) = true := by
    rw [ByteArray.toList_eq, h14]
    rfl
  have hsz : ((T.size : Int) == 48) = true := by rw [lT]; rfl
  have hle : 14 ≤ T.size := by omega
  have hle2 : (14 : Int) ≤ (T.size : Int) := by omega
  obtain ⟨V, hV⟩ : ∃ V, hdv 1 2 3 3 D = V := ⟨_, rfl⟩
  rw [hV] at HO HP
  have HG := Lib.hid hg
  clear hg hD hT lD lT h14 hV
  go_enter Tryd.func5, Tryd.ntmps5
  go_wp2_with (first
    | (go_at_call 13; (with_reducible refine (HO.out w HG.out).mono ?_); rintro e u1 ⟨rfl, b1⟩; have B1 := Lib.hid b1; clear b1)
    | (go_at_call 6; (with_reducible refine (HP.out u1).mono ?_); rintro e u2 ⟨rfl, b2⟩; have B2 : Hid (Below w.heap.size w u2) := Lib.hid (B1.out.next b2); clear b2))
  go_ret
  exact ⟨rfl, B2.out⟩

set_option maxHeartbeats 4000000 in
theorem headPuts_walk (a b c n : Int) (H : List UInt8) (s : ByteArray) (w : World) (hg : Glob w) (hH : H.length = 32) (hs : s.size ≤ 140737488351232) :
    Calls Tryd.prog 3 #[.agg (hdv a b c n H).toArray, .string s] w fun e w' => e = .returned (.bool true) ∧ Below w.heap.size w w' := by
  have HG := Lib.hid hg
  by_cases hbig : 1000 < s.size
  · have hb2 : 1000 < (s.size : Int) := by omega
    clear hbig hg
    go_enter Tryd.func3, Tryd.ntmps3
    go_wp2_with (first
      | ((with_reducible refine wpBoxK (w := w) (hdv a b c n H) 27 ?_ ?_); rfl; intro u1 r1 b1 s1; have B1 := Lib.hid b1; clear r1 b1 s1)
      | (go_at_call 5; (with_reducible refine (head_awake_any u1 (HG.out.step B1.out)).mono ?_); rintro e u2 ⟨rfl, b2⟩; have B2 : Hid (Below w.heap.size w u2) := Lib.hid (B1.out.next b2); clear b2))
    go_ret
    exact ⟨rfl, B2.out⟩
  · have hb2 : (s.size : Int) ≤ 1000 := by omega
    have hb3 : s.size ≤ 140737488355328 := by omega
    -- what Get tells of s alone
    obtain ⟨VS, ES, hVS⟩ := GetIs.one s.data.toList
    have LVS : Hid (VS.length = 36) := Lib.hid (by
      rcases hVS with ⟨_, rfl, _⟩ | ⟨h1, _, rfl, _⟩ | ⟨_, _, rfl, _⟩
      · exact hdv_length _ _ _ _ _ (by simp)
      · exact hdv_length _ _ _ _ _ (rH_length _ h1)
      · exact hdv_length _ _ _ _ _ (by simp))
    have VS1 : Hid (VS.all (·.oneCell') = true) := Lib.hid (by
      rcases hVS with ⟨_, rfl, _⟩ | ⟨h1, _, rfl, _⟩ | ⟨_, _, rfl, _⟩ <;> exact hdv_one _ _ _ _ _)
    have HSQ : Hid (∀ u : World, (Op.equalIn 10000 29 (.agg VS.toArray) (.agg VS.toArray)).run Tryd.prog u = .ok true u) := Lib.hid (by
      rcases hVS with ⟨_, rfl, _⟩ | ⟨h1, _, rfl, _⟩ | ⟨_, _, rfl, _⟩
      · exact rhead_same _ _ _ _ _ (by simp)
      · exact rhead_same _ _ _ _ _ (rH_length _ h1)
      · exact rhead_same _ _ _ _ _ (by simp))
    have HEI : Hid (IntKind.i64.wrap ES = ES) := Lib.hid (by rcases hVS with ⟨_, _, rfl⟩ | ⟨_, _, _, rfl⟩ | ⟨_, _, _, rfl⟩ <;> rfl)
    have HGS : Hid (∀ u, Calls Tryd.prog 9 #[.string s] u fun e u' => e = .returned (.tuple #[.agg VS.toArray, .int .i64 ES]) ∧ Below u.heap.size u u') := Lib.hid fun u => head_get_any s _ VS ES u rfl hb3 hVS
    have HRS : Hid (∀ u, Calls Tryd.prog 11 #[.string s] u fun e u' => e = .returned (.tuple #[.agg VS.toArray, .int .i64 ES]) ∧ Below u.heap.size u u') := Lib.hid fun u => rhead_get_any s _ VS ES u rfl hb3 hVS
    have LZ : Hid ((hdv 0 0 0 0 (List.replicate 32 0)).length = 36) := Lib.hid (hdv_length _ _ _ _ _ (by simp))
    have LV : Hid ((hdv a b c n H).length = 36) := Lib.hid (hdv_length _ _ _ _ _ hH)
    have V1 : Hid ((hdv a b c n H).all (·.oneCell') = true) := Lib.hid (hdv_one _ _ _ _ _)
    have HRT : Hid (∀ u, Calls Tryd.prog 8 #[.agg (hdv a b c n H).toArray] u fun e u' => e = .returned (.bool (hOk a b c n)) ∧ Below u.heap.size u u') := Lib.hid fun u => head_right_any a b c n H u
    have HRR : Hid (∀ u, Calls Tryd.prog 7 #[.agg (hdv a b c n H).toArray] u fun e u' => e = .returned (.bool (hOk a b c n)) ∧ Below u.heap.size u u') := Lib.hid fun u => rhead_right_any a b c n H u
    by_cases hok : hOk a b c n = true
    · obtain ⟨T, hT⟩ : ∃ T, str (headB a b c n H) = T := ⟨_, rfl⟩
      have zT : T.size = 48 := by rw [← hT, str_size, headB_length _ _ _ _ _ hH]
      have HP : Hid (∀ u, Calls Tryd.prog 6 #[.agg (hdv a b c n H).toArray] u fun e u' => e = .returned (.tuple #[.string T, .int .i64 0]) ∧ Below u.heap.size u u') := Lib.hid fun u => by rw [← hT]; exact head_put_yes a b c n H u hok hH
      have HRP : Hid (∀ u, Calls Tryd.prog 10 #[.agg (hdv a b c n H).toArray] u fun e u' => e = .returned (.string T) ∧ Below u.heap.size u u') := Lib.hid fun u => by rw [← hT]; exact rhead_put_any a b c n H u hok hH
      have hTs : (T ++ s).data.toList = headB a b c n H ++ s.data.toList := by rw [← hT]; simp [str]
      have hTz : (T ++ s).size ≤ 140737488355328 := by rw [ByteArray.size_append]; omega
      obtain ⟨q1, q2, q3, q4, q5, q6⟩ := head_back a b c n H s.data.toList hok hH
      have HGT : Hid (∀ u, Calls Tryd.prog 9 #[.string (T ++ s)] u fun e u' => e = .returned (.tuple #[.agg (hdv a b c n H).toArray, .int .i64 0]) ∧ Below u.heap.size u u') := Lib.hid fun u =>
        head_get_any (T ++ s) _ _ _ u hTs hTz (.inr (.inl ⟨by rw [List.length_append, headB_length _ _ _ _ _ hH]; omega, isH_back a b c n H _ hok hH, by rw [q1, q2, q3, q4, q5], rfl⟩))
      have HSM : Hid (∀ u : World, (Op.equalIn 10000 27 (.agg (hdv a b c n H).toArray) (.agg (hdv a b c n H).toArray)).run Tryd.prog u = .ok true u) := Lib.hid (head_same a b c n H hH)
      rw [hok] at HRT HRR
      have hTT : (T.toList == T.toList) = true := beq_yes rfl
      obtain ⟨V, hV⟩ : ∃ V, hdv a b c n H = V := ⟨_, rfl⟩
      rw [hV] at HP HRP HGT HSM HRT HRR LV V1 ⊢
      have hsm := HSM.out
      have hsq := HSQ.out
      clear hbig hg hs hb3 hVS hok hT hTs hTz q1 q2 q3 q4 q5 q6 hV hH
      go_enter Tryd.func3, Tryd.ntmps3
      go_wp2_with (first
        | ((with_reducible refine wpBoxK (w := w) V 27 ?_ ?_); rfl; intro u1 r1 b1 s1; have R1 := Lib.hid r1; have B1 := Lib.hid b1; clear r1 b1 s1)
        | (go_at_call 5; (with_reducible refine (head_awake_any u1 (HG.out.step B1.out)).mono ?_); rintro e u2 ⟨rfl, b2⟩; have R2 := Lib.hid (R1.out.step b2); have B2 : Hid (Below w.heap.size w u2) := Lib.hid (B1.out.next b2); clear b2)
        | ((with_reducible refine R2.out.wpLoadK 27 fits_head LV.out ?_ ?_); rfl)
        | ((with_reducible refine wpAllocK (w := u2) (hdv 0 0 0 0 (List.replicate 32 0)) 29 zero_rhead ?_ ?_); rfl; intro u3 r3 b3 s3; have K3 := Lib.hid r3; have R3 := Lib.hid (R2.out.step b3); have B3 : Hid (Below w.heap.size w u3) := Lib.hid (B2.out.next b3); clear r3 b3 s3)
        | ((with_reducible refine K3.out.wpStoreK 29 V fits_rhead LZ.out LV.out V1.out ?_ ?_); rfl; intro u4 r4 o4 s4; have K4 := Lib.hid r4; have R4 := Lib.hid (R3.out.only o4 (by have := R2.out.lt; omega)); have B4 : Hid (Below w.heap.size w u4) := Lib.hid (B3.out.trans (o4.below B2.out.size B3.out.size)); clear r4 o4 s4)
        | ((with_reducible refine R4.out.wpLoadK 27 fits_head LV.out ?_ ?_); rfl)
        | (go_at_call 6; (with_reducible refine (HP.out u4).mono ?_); rintro e u5 ⟨rfl, b5⟩; have R5 := Lib.hid (R4.out.step b5); have K5 := Lib.hid (K4.out.step b5); have B5 : Hid (Below w.heap.size w u5) := Lib.hid (B4.out.next b5); clear b5)
        | ((with_reducible refine K5.out.wpLoadK 29 fits_rhead LV.out ?_ ?_); rfl)
        | (go_at_call 7; (with_reducible refine (HRR.out u5).mono ?_); rintro e u6 ⟨rfl, b6⟩; have R6 := Lib.hid (R5.out.step b6); have K6 := Lib.hid (K5.out.step b6); have B6 : Hid (Below w.heap.size w u6) := Lib.hid (B5.out.next b6); clear b6)
        | ((with_reducible refine R6.out.wpLoadK 27 fits_head LV.out ?_ ?_); rfl)
        | (go_at_call 8; (with_reducible refine (HRT.out u6).mono ?_); rintro e u7 ⟨rfl, b7⟩; have R7 := Lib.hid (R6.out.step b7); have K7 := Lib.hid (K6.out.step b7); have B7 : Hid (Below w.heap.size w u7) := Lib.hid (B6.out.next b7); clear b7)
        | (go_at_call 9; (with_reducible refine (HGT.out u7).mono ?_); rintro e u8 ⟨rfl, b8⟩; have R8 := Lib.hid (R7.out.step b8); have K8 := Lib.hid (K7.out.step b8); have B8 : Hid (Below w.heap.size w u8) := Lib.hid (B7.out.next b8); clear b8)
        | ((with_reducible refine wpAllocK (w := u8) (hdv 0 0 0 0 (List.replicate 32 0)) 27 zero_head ?_ ?_); rfl; intro u9 r9 b9 s9; have G9 := Lib.hid r9; have R9 := Lib.hid (R8.out.step b9); have K9 := Lib.hid (K8.out.step b9); have B9 : Hid (Below w.heap.size w u9) := Lib.hid (B8.out.next b9); have LTR : Hid (w.heap.size < u8.heap.size) := Lib.hid R8.out.lt; have LTK : Hid (u2.heap.size < u8.heap.size) := Lib.hid K8.out.lt; clear r9 b9 s9)
        | ((with_reducible refine G9.out.wpStoreK 27 V fits_head LZ.out LV.out V1.out ?_ ?_); rfl; intro u10 r10 o10 s10; have G10 := Lib.hid r10; have R10 := Lib.hid (R9.out.only o10 (by have := LTR.out; omega)); have K10 := Lib.hid (K9.out.only o10 (by have := LTK.out; omega)); have B10 : Hid (Below w.heap.size w u10) := Lib.hid (B9.out.trans (o10.below B8.out.size B9.out.size)); clear r10 o10 s10)
        | ((with_reducible refine K10.out.wpLoadK 29 fits_rhead LV.out ?_ ?_); rfl)
        | (go_at_call 10; (with_reducible refine (HRP.out u10).mono ?_); rintro e u11 ⟨rfl, b11⟩; have R11 := Lib.hid (R10.out.step b11); have G11 := Lib.hid (G10.out.step b11); have B11 : Hid (Below w.heap.size w u11) := Lib.hid (B10.out.next b11); clear b11)
        | ((with_reducible refine G11.out.wpLoadG 27 fits_head LV.out ?_ ?_); rfl)
        | ((with_reducible refine R11.out.wpLoadG 27 fits_head LV.out ?_ ?_); rfl)
        | (go_at_call 9; (with_reducible refine (HGS.out u11).mono ?_); rintro e u12 ⟨rfl, b12⟩; have B12 : Hid (Below w.heap.size w u12) := Lib.hid (B11.out.next b12); clear b12)
        | ((with_reducible refine wpAllocK (w := u12) (hdv 0 0 0 0 (List.replicate 32 0)) 27 zero_head ?_ ?_); rfl; intro u13 r13 b13 s13; have G13 := Lib.hid r13; have B13 : Hid (Below w.heap.size w u13) := Lib.hid (B12.out.next b13); clear r13 b13 s13)
        | ((with_reducible refine G13.out.wpStoreK 27 VS fits_head LZ.out LVS.out VS1.out ?_ ?_); rfl; intro u14 r14 o14 s14; have G14 := Lib.hid r14; have B14 : Hid (Below w.heap.size w u14) := Lib.hid (B13.out.trans (o14.below B12.out.size B13.out.size)); clear r14 o14 s14)
        | (go_at_call 11; (with_reducible refine (HRS.out u14).mono ?_); rintro e u15 ⟨rfl, b15⟩; have G15 := Lib.hid (G14.out.step b15); have B15 : Hid (Below w.heap.size w u15) := Lib.hid (B14.out.next b15); clear b15)
        | ((with_reducible refine wpAllocK (w := u15) (hdv 0 0 0 0 (List.replicate 32 0)) 29 zero_rhead ?_ ?_); rfl; intro u16 r16 b16 s16; have K16 := Lib.hid r16; have G16 := Lib.hid (G15.out.step b16); have B16 : Hid (Below w.heap.size w u16) := Lib.hid (B15.out.next b16); have LTG : Hid (u12.heap.size < u15.heap.size) := Lib.hid G15.out.lt; clear r16 b16 s16)
        | ((with_reducible refine K16.out.wpStoreK 29 VS fits_rhead LZ.out LVS.out VS1.out ?_ ?_); rfl; intro u17 r17 o17 s17; have K17 := Lib.hid r17; have G17 := Lib.hid (G16.out.only o17 (by have := LTG.out; omega)); have B17 : Hid (Below w.heap.size w u17) := Lib.hid (B16.out.trans (o17.below B15.out.size B16.out.size)); clear r17 o17 s17)
        | ((with_reducible refine G17.out.wpLoadK 27 fits_head LVS.out ?_ ?_); rfl)
        | ((with_reducible refine K17.out.wpLoadK 29 fits_rhead LVS.out ?_ ?_); rfl))
      go_ret
      exact ⟨rfl, B17.out⟩
    · have hok : hOk a b c n = false := by simpa using hok
      have HP : Hid (∀ u, Calls Tryd.prog 6 #[.agg (hdv a b c n H).toArray] u fun e u' => e = .returned (.tuple #[.string ByteArray.empty, .int .i64 1]) ∧ Below u.heap.size u u') := Lib.hid fun u => head_put_no a b c n H u hok hH
      rw [hok] at HRT HRR
      have hEE : ((ByteArray.empty).toList == []) = true := by rw [ByteArray.toList_eq]; rfl
      obtain ⟨V, hV⟩ : ∃ V, hdv a b c n H = V := ⟨_, rfl⟩
      rw [hV] at HP HRT HRR LV V1 ⊢
      have hsq := HSQ.out
      clear hbig hg hs hb3 hVS hok hV hH
      go_enter Tryd.func3, Tryd.ntmps3
      go_wp2_with (first
        | ((with_reducible refine wpBoxK (w := w) V 27 ?_ ?_); rfl; intro u1 r1 b1 s1; have R1 := Lib.hid r1; have B1 := Lib.hid b1; clear r1 b1 s1)
        | (go_at_call 5; (with_reducible refine (head_awake_any u1 (HG.out.step B1.out)).mono ?_); rintro e u2 ⟨rfl, b2⟩; have R2 := Lib.hid (R1.out.step b2); have B2 : Hid (Below w.heap.size w u2) := Lib.hid (B1.out.next b2); clear b2)
        | ((with_reducible refine R2.out.wpLoadK 27 fits_head LV.out ?_ ?_); rfl)
        | ((with_reducible refine wpAllocK (w := u2) (hdv 0 0 0 0 (List.replicate 32 0)) 29 zero_rhead ?_ ?_); rfl; intro u3 r3 b3 s3; have K3 := Lib.hid r3; have R3 := Lib.hid (R2.out.step b3); have B3 : Hid (Below w.heap.size w u3) := Lib.hid (B2.out.next b3); clear r3 b3 s3)
        | ((with_reducible refine K3.out.wpStoreK 29 V fits_rhead LZ.out LV.out V1.out ?_ ?_); rfl; intro u4 r4 o4 s4; have K4 := Lib.hid r4; have R4 := Lib.hid (R3.out.only o4 (by have := R2.out.lt; omega)); have B4 : Hid (Below w.heap.size w u4) := Lib.hid (B3.out.trans (o4.below B2.out.size B3.out.size)); clear r4 o4 s4)
        | ((with_reducible refine R4.out.wpLoadK 27 fits_head LV.out ?_ ?_); rfl)
        | (go_at_call 6; (with_reducible refine (HP.out u4).mono ?_); rintro e u5 ⟨rfl, b5⟩; have R5 := Lib.hid (R4.out.step b5); have K5 := Lib.hid (K4.out.step b5); have B5 : Hid (Below w.heap.size w u5) := Lib.hid (B4.out.next b5); clear b5)
        | ((with_reducible refine K5.out.wpLoadK 29 fits_rhead LV.out ?_ ?_); rfl)
        | (go_at_call 7; (with_reducible refine (HRR.out u5).mono ?_); rintro e u6 ⟨rfl, b6⟩; have R6 := Lib.hid (R5.out.step b6); have B6 : Hid (Below w.heap.size w u6) := Lib.hid (B5.out.next b6); clear b6)
        | ((with_reducible refine R6.out.wpLoadK 27 fits_head LV.out ?_ ?_); rfl)
        | (go_at_call 8; (with_reducible refine (HRT.out u6).mono ?_); rintro e u7 ⟨rfl, b7⟩; have B7 : Hid (Below w.heap.size w u7) := Lib.hid (B6.out.next b7); clear b7)
        | (go_at_call 9; (with_reducible refine (HGS.out u7).mono ?_); rintro e u12 ⟨rfl, b12⟩; have B12 : Hid (Below w.heap.size w u12) := Lib.hid (B7.out.next b12); clear b12)
        | ((with_reducible refine wpAllocK (w := u12) (hdv 0 0 0 0 (List.replicate 32 0)) 27 zero_head ?_ ?_); rfl; intro u13 r13 b13 s13; have G13 := Lib.hid r13; have B13 : Hid (Below w.heap.size w u13) := Lib.hid (B12.out.next b13); clear r13 b13 s13)
        | ((with_reducible refine G13.out.wpStoreK 27 VS fits_head LZ.out LVS.out VS1.out ?_ ?_); rfl; intro u14 r14 o14 s14; have G14 := Lib.hid r14; have B14 : Hid (Below w.heap.size w u14) := Lib.hid (B13.out.trans (o14.below B12.out.size B13.out.size)); clear r14 o14 s14)
        | (go_at_call 11; (with_reducible refine (HRS.out u14).mono ?_); rintro e u15 ⟨rfl, b15⟩; have G15 := Lib.hid (G14.out.step b15); have B15 : Hid (Below w.heap.size w u15) := Lib.hid (B14.out.next b15); clear b15)
        | ((with_reducible refine wpAllocK (w := u15) (hdv 0 0 0 0 (List.replicate 32 0)) 29 zero_rhead ?_ ?_); rfl; intro u16 r16 b16 s16; have K16 := Lib.hid r16; have G16 := Lib.hid (G15.out.step b16); have B16 : Hid (Below w.heap.size w u16) := Lib.hid (B15.out.next b16); have LTG : Hid (u12.heap.size < u15.heap.size) := Lib.hid G15.out.lt; clear r16 b16 s16)
        | ((with_reducible refine K16.out.wpStoreK 29 VS fits_rhead LZ.out LVS.out VS1.out ?_ ?_); rfl; intro u17 r17 o17 s17; have K17 := Lib.hid r17; have G17 := Lib.hid (G16.out.only o17 (by have := LTG.out; omega)); have B17 : Hid (Below w.heap.size w u17) := Lib.hid (B16.out.trans (o17.below B15.out.size B16.out.size)); clear r17 o17 s17)
        | ((with_reducible refine G17.out.wpLoadK 27 fits_head LVS.out ?_ ?_); rfl)
        | ((with_reducible refine K17.out.wpLoadK 29 fits_rhead LVS.out ?_ ?_); rfl))
      go_ret
      exact ⟨rfl, B17.out⟩

end Go.Proofs.YtbcilifdgpfmnaaDoor

/- Heads and versions that came in; HeadPuts whole. -/
namespace Go.Proofs.YtbcilifdgpfmnaaDoor
open Go.RowKit HeadMath

theorem reads_ver {w : World} {cs : List Value} {x : List Int} (h : Open.Reads w (.arr 3 (.int .i64)) cs x) : ∃ a b c : Int, cs = [.int .i64 a, .int .i64 b, .int .i64 c] := by
  obtain ⟨h1, h2, h3⟩ := h
  have hl : cs.length = 3 := by simpa [Open.Ty.size] using h2
  match cs, hl with
  | [a, b, c], _ =>
    have e1 := (h3 0 (by omega)).1
    have e2 := (h3 1 (by omega)).1
    have e3 := (h3 2 (by omega)).1
    simp [Open.Ty.size] at e1 e2 e3
    exact ⟨_, _, _, by rw [e1, e2, e3]⟩
theorem reads_head {w : World} {cs : List Value} {x : (Open.Ty.pair (.arr 3 (.int .i64)) (.pair (.int .i64) (.pair (.arr 32 (.int .u8)) .unit))).den} (h : Open.Reads w (.pair (.arr 3 (.int .i64)) (.pair (.int .i64) (.pair (.arr 32 (.int .u8)) .unit))) cs x) : ∃ (a b c n : Int) (H : List UInt8), H.length = 32 ∧ cs = hdv a b c n H := by
  obtain ⟨h1, ⟨h2, g2⟩, h3, h4⟩ := h
  obtain ⟨a, b, c, e1⟩ := reads_ver h1
  obtain ⟨H, hH, e3⟩ := reads_bytes h3
  have e1' : cs.take 3 = [.int .i64 a, .int .i64 b, .int .i64 c] := e1
  have h2' : (cs.drop 3).take 1 = [.int .i64 x.2.1] := h2
  have e3' : ((cs.drop 3).drop 1).take 32 = bytes H := e3
  have h4' : ((cs.drop 3).drop 1).drop 32 = [] := h4
  refine ⟨a, b, c, x.2.1, H, hH, ?_⟩
  have h5 : cs = cs.take 3 ++ ((cs.drop 3).take 1 ++ (((cs.drop 3).drop 1).take 32 ++ ((cs.drop 3).drop 1).drop 32)) := by
    rw [List.take_append_drop, List.take_append_drop, List.take_append_drop]
  rw [e1', h2', e3', h4', List.append_nil] at h5
  rw [h5]
  rfl
end Go.Proofs.YtbcilifdgpfmnaaDoor

/- The document's Of; Matches (gen_head_j.py). -/
namespace Go.Proofs.YtbcilifdgpfmnaaDoor
open Go.RowKit HeadMath NumMath
set_option linter.unusedVariables false
set_option maxRecDepth 100000

theorem tIs_nats (l : List ShaMath.W) : sha_nats (l.map (·.toNat)) = tIs l := by
  simp [sha_nats, tIs]
  intro a _
  rfl
/-- The document's words, as its New makes them. -/
theorem refSum_wds (c : Value) (s : ByteArray) (T : List UInt8) (w : World) (hT : ShaMath.sha s.data.toList = T) (hs : s.size ≤ 100000) (hc : Wds w c) :
    Calls Tryd.prog 15 #[c, .string s] w fun e w' => e = .returned (.agg (bytes T).toArray) ∧ Below w.heap.size w w' := by
  obtain ⟨a, ca, b, cb, rfl, ha, hb⟩ := hc
  rw [← hT]
  exact refSum_any s a ca b cb w hs (by rw [← tIs_nats]; exact ha) (by rw [← tIs_nats]; exact hb)
theorem Wds.step {w w' : World} {c : Value} (h : Wds w c) (hb : Below w.heap.size w w') : Wds w' c := by
  obtain ⟨a, ca, b, cb, e, h1, h2⟩ := h
  exact ⟨a, ca, b, cb, e, h1.step hb, h2.step hb⟩
theorem built_rhead32 (a b c n : Int) (h0 h1 h2 h3 h4 h5 h6 h7 h8 h9 h10 h11 h12 h13 h14 h15 h16 h17 h18 h19 h20 h21 h22 h23 h24 h25 h26 h27 h28 h29 h30 h31 : UInt8) : Tryd.prog.built 29 [(0, .agg #[.int .i64 a, .int .i64 b, .int .i64 c]), (1, .int .i64 n), (2, .agg (bytes [h0, h1, h2, h3, h4, h5, h6, h7, h8, h9, h10, h11, h12, h13, h14, h15, h16, h17, h18, h19, h20, h21, h22, h23, h24, h25, h26, h27, h28, h29, h30, h31]).toArray)] = some (hdv a b c n [h0, h1, h2, h3, h4, h5, h6, h7, h8, h9, h10, h11, h12, h13, h14, h15, h16, h17, h18, h19, h20, h21, h22, h23, h24, h25, h26, h27, h28, h29, h30, h31]).toArray := by kernel_rfl
theorem built_rhead (a b c n : Int) (H : List UInt8) (hH : H.length = 32) : Tryd.prog.built 29 [(0, .agg #[.int .i64 a, .int .i64 b, .int .i64 c]), (1, .int .i64 n), (2, .agg (bytes H).toArray)] = some (hdv a b c n H).toArray :=
  match H, hH with
  | [h0, h1, h2, h3, h4, h5, h6, h7, h8, h9, h10, h11, h12, h13, h14, h15, h16, h17, h18, h19, h20, h21, h22, h23, h24, h25, h26, h27, h28, h29, h30, h31], _ => built_rhead32 a b c n h0 h1 h2 h3 h4 h5 h6 h7 h8 h9 h10 h11 h12 h13 h14 h15 h16 h17 h18 h19 h20 h21 h22 h23 h24 h25 h26 h27 h28 h29 h30 h31
theorem fits_words2 : Fits Tryd.prog 43 2 := ⟨⟨_, Tryd.underlying43, rfl⟩, by kernel_rfl⟩

set_option maxHeartbeats 1000000 in
theorem rhead_of_any (x y : Value) (a b c : Int) (s : ByteArray) (D : List UInt8) (w : World) (hD : ShaMath.sha s.data.toList = D) (hw : Wds w (.agg #[x, y])) (hs : s.size ≤ 100000) :
    Calls Tryd.prog 14 #[.agg #[x, y], .agg #[.int .i64 a, .int .i64 b, .int .i64 c], .string s] w fun e w' => e = .returned (.agg (hdv a b c (s.size : Int) D).toArray) ∧ Below w.heap.size w w' := by
  have lD : D.length = 32 := by rw [← hD, ShaMath.sha_length]
  have HSUM : Hid (∀ wx, Wds wx (.agg #[x, y]) → Calls Tryd.prog 15 #[.agg #[x, y], .string s] wx fun e w' => e = .returned (.agg (bytes D).toArray) ∧ Below wx.heap.size wx w') := Lib.hid fun wx h => refSum_wds _ s D wx hD hs h
  have HBU := Lib.hid (built_rhead a b c (s.size : Int) D lD)
  have LZ : Hid ((hdv 0 0 0 0 (List.replicate 32 0)).length = 36) := Lib.hid (hdv_length _ _ _ _ _ (by simp))
  obtain ⟨V, hV⟩ : ∃ V, hdv a b c (s.size : Int) D = V := ⟨_, rfl⟩
  have LV : Hid (V.length = 36) := Lib.hid (by rw [← hV]; exact hdv_length _ _ _ _ _ lD)
  have V1 : Hid (V.all (·.oneCell') = true) := Lib.hid (by rw [← hV]; exact hdv_one _ _ _ _ _)
  rw [hV] at HBU ⊢
  have HW := Lib.hid hw
  have hsz : (s.size : Int) ≤ 100000 := by omega
  clear hD lD hV hw hs
  go_enter Tryd.func14, Tryd.ntmps14
  go_wp2_with (first
    | ((with_reducible refine wpBoxK (w := w) [x, y] 43 ?_ ?_); rfl; intro u0 r0 b0 s0; have R0 := Lib.hid r0; have B0 := Lib.hid b0; clear r0 b0 s0)
    | ((with_reducible refine wpBoxK (w := u0) [Value.int .i64 a, .int .i64 b, .int .i64 c] 23 ?_ ?_); rfl; intro u1 r1 b1 s1; have R1 := Lib.hid r1; have Q1 := Lib.hid (R0.out.step b1); have B1 : Hid (Below w.heap.size w u1) := Lib.hid (B0.out.next b1); clear r1 b1 s1)
    | ((with_reducible refine wpAllocK (w := u1) (hdv 0 0 0 0 (List.replicate 32 0)) 29 zero_rhead ?_ ?_); rfl; intro u2 r2 b2 s2; have K2 := Lib.hid r2; have R2 := Lib.hid (R1.out.step b2); have Q2 := Lib.hid (Q1.out.step b2); have B2 : Hid (Below w.heap.size w u2) := Lib.hid (B1.out.next b2); clear r2 b2 s2))
  refine region_storeT 7 0 [] (by decide) [(0, 7), (1, 8), (2, 9), (3, 10), (4, 11), (5, 12), (6, 13)]
    (fun ii => [Is (.agg ([Value.int .i64 a, .int .i64 b, .int .i64 c]).toArray), Is (.string s), Is (.int .i64 (s.size : Int)), Is (.agg ([x, y]).toArray), Is (.string s), Is (.agg (bytes D).toArray), Is (.agg V.toArray), Is undef].getD ii (Is undef))
    (fun w' => Below u2.heap.size u2 w') (fun v w' => Row w' u1.heap.size 29 V ∧ Below w.heap.size w w') (by kernel_rfl) (by decide) (by kernel_rfl) (by kernel_rfl) (by decide) (by decide) (by kernel_rfl) rfl (by kernel_rfl) ?monoA ((Below.refl _ _).drew) ?stepA ?stepXA ?stepSA ?finA
  case monoA =>
    intro i
    match i with
    | 0 | 1 | 2 | 3 | 4 | 5 | 6 | 7 => exact Is.monot _
    | _ + 8 => exact Is.monot _
  case stepA =>
    refine List.forall_mem_cons.2 ⟨?As0, List.forall_mem_cons.2 ⟨?As1, List.forall_mem_cons.2 ⟨?As2, List.forall_mem_cons.2 ⟨?As3, List.forall_mem_cons.2 ⟨?As4, List.forall_mem_cons.2 ⟨?As5, List.forall_mem_cons.2 ⟨?As6, List.forall_mem_nil _⟩⟩⟩⟩⟩⟩⟩
    case As0 =>
      intro _
      intro u wx hg hC
      clear hC
      generalize hA : puts [(0, 7), (1, 8), (2, 9), (3, 10), (4, 11), (5, 12), (6, 13)] _ u = A
      have hp : A.tmps.getD 4 undef = (.pointer (some ⟨u0.heap.size, 0, none⟩)) := by rw [← hA]; exact (puts_get_out u _ _ 4 (by decide)).trans (by rfl)
      have hsz : 7 < A.tmps.size := by rw [← hA]; exact puts_room u (by kernel_rfl)
      refine wpOp_step rfl (fun K hK => ?_)
      clear hA
      exact opLoadK (φ := Is (.agg ([Value.int .i64 a, .int .i64 b, .int .i64 c]).toArray)) (R2.out.step hg) _ (fits_ver) (rfl) 7 rfl hsz hK (.tmp 4) rfl hp rfl hg
    case As1 =>
      intro _
      intro u wx hg hC
      clear hC
      refine wpOp_step rfl (fun K hK => ?_)
      simp only [puts, List.foldl]
      go_simp
      exact hK _ _ ⟨rfl, rfl, hg, Below.refl _ _⟩
    case As2 =>
      intro _
      intro u wx hg hC
      have hJ1 : u 1 = (.string s) := hC.at 1 (by kernel_rfl)
      clear hC
      refine wpOp_step rfl (fun K hK => ?_)
      simp only [puts, List.foldl]
      go_simp
      exact hK _ _ ⟨rfl, rfl, hg, Below.refl _ _⟩
    case As3 =>
      intro _
      intro u wx hg hC
      clear hC
      generalize hA : puts [(0, 7), (1, 8), (2, 9), (3, 10), (4, 11), (5, 12), (6, 13)] _ u = A
      have hp : A.tmps.getD 3 undef = (.pointer (some ⟨w.heap.size, 0, none⟩)) := by rw [← hA]; exact (puts_get_out u _ _ 3 (by decide)).trans (by rfl)
      have hsz : 10 < A.tmps.size := by rw [← hA]; exact puts_room u (by kernel_rfl)
      refine wpOp_step rfl (fun K hK => ?_)
      clear hA
      exact opLoadK (φ := Is (.agg ([x, y]).toArray)) (Q2.out.step hg) _ (fits_words2) (rfl) 10 rfl hsz hK (.tmp 3) rfl hp rfl hg
    case As4 =>
      intro _
      intro u wx hg hC
      clear hC
      refine wpOp_step rfl (fun K hK => ?_)
      simp only [puts, List.foldl]
      go_simp
      exact hK _ _ ⟨rfl, rfl, hg, Below.refl _ _⟩
    case As5 =>
      intro _
      intro u wx hg hC
      have hJ3 : u 3 = (.agg ([x, y]).toArray) := hC.at 3 (by kernel_rfl)
      have hJ4 : u 4 = (.string s) := hC.at 4 (by kernel_rfl)
      clear hC
      refine wpOp_step rfl (fun K hK => ?_)
      simp only [puts, List.foldl]
      go_simp
      refine (HSUM.out wx ((HW.out.step B2.out).step hg)).mono ?_
      rintro e w' ⟨rfl, hb'⟩
      exact hK _ _ ⟨rfl, rfl, hg.next hb', hb'⟩
    case As6 =>
      intro _
      intro u wx hg hC
      have hJ0 : u 0 = (.agg ([Value.int .i64 a, .int .i64 b, .int .i64 c]).toArray) := hC.at 0 (by kernel_rfl)
      have hJ2 : u 2 = (.int .i64 (s.size : Int)) := hC.at 2 (by kernel_rfl)
      have hJ5 : u 5 = (.agg (bytes D).toArray) := hC.at 5 (by kernel_rfl)
      clear hC
      generalize hA : puts [(0, 7), (1, 8), (2, 9), (3, 10), (4, 11), (5, 12), (6, 13)] _ u = A
      have q0 : A.tmps.getD 7 undef = (.agg [Value.int .i64 a, .int .i64 b, .int .i64 c].toArray) := by rw [← hA]; exact (puts_get u 0 7 _ _ (by decide) (by decide) (by kernel_rfl)).trans hJ0
      have q1 : A.tmps.getD 9 undef = (.int .i64 (s.size : Int)) := by rw [← hA]; exact (puts_get u 2 9 _ _ (by decide) (by decide) (by kernel_rfl)).trans hJ2
      have q2 : A.tmps.getD 12 undef = (.agg (bytes D).toArray) := by rw [← hA]; exact (puts_get u 5 12 _ _ (by decide) (by decide) (by kernel_rfl)).trans hJ5
      have hsz : 13 < A.tmps.size := by rw [← hA]; exact puts_room u (by kernel_rfl)
      refine wpOp_step rfl (fun K hK => ?_)
      clear hA
      exact opBuildK (φ := Is (.agg V.toArray)) _ _ _ HBU.out 13 rfl hsz hK _ rfl (by rw [Array.toList_map]; show [(0, A.tmps.getD 7 undef), (1, A.tmps.getD 9 undef), (2, A.tmps.getD 12 undef)] = _; rw [q0, q1, q2]) rfl hg
  case stepXA =>
    refine List.forall_mem_cons.2 ⟨?Ax0, List.forall_mem_cons.2 ⟨?Ax1, List.forall_mem_cons.2 ⟨?Ax2, List.forall_mem_cons.2 ⟨?Ax3, List.forall_mem_cons.2 ⟨?Ax4, List.forall_mem_cons.2 ⟨?Ax5, List.forall_mem_cons.2 ⟨?Ax6, List.forall_mem_nil _⟩⟩⟩⟩⟩⟩⟩
    case Ax0 =>
      intro hx; exact absurd hx (by decide)
    case Ax1 =>
      intro hx; exact absurd hx (by decide)
    case Ax2 =>
      intro hx; exact absurd hx (by decide)
    case Ax3 =>
      intro hx; exact absurd hx (by decide)
    case Ax4 =>
      intro hx; exact absurd hx (by decide)
    case Ax5 =>
      intro hx; exact absurd hx (by decide)
    case Ax6 =>
      intro hx; exact absurd hx (by decide)
  case stepSA =>
    intro u wx hg hC
    have hJ6 : u 6 = .agg V.toArray := hC (6, 13) (by decide) (by decide)
    clear hC
    generalize hA : puts [(0, 7), (1, 8), (2, 9), (3, 10), (4, 11), (5, 12), (6, 13)] _ u = A
    have hp : A.tmps.getD 6 undef = .pointer (some ⟨u1.heap.size, 0, none⟩) := by rw [← hA]; exact (puts_get_out u _ _ 6 (by decide)).trans (by rfl)
    have hq : A.tmps.getD 13 undef = .agg V.toArray := by rw [← hA]; exact (puts_get u 6 13 _ _ (by decide) (by decide) (by kernel_rfl)).trans hJ6
    refine wpOp_step rfl (fun K hK => ?_)
    clear hA
    exact opStoreK (H := fun w' => Row w' u1.heap.size 29 V ∧ Below w.heap.size w w') (K2.out.step hg) _ V fits_rhead LZ.out LV.out V1.out hK (.tmp 6) (.tmp 13) rfl hp hq fun w' h1 h2 h3 => ⟨h1, (B2.out.next hg).trans (h2.below B1.out.size (B2.out.next hg).size)⟩
  case finA =>
    intro u u3 hh hφ
    obtain ⟨r3, b3⟩ := hh
    clear hφ
    simp only [puts, List.foldl]
    go_simp
    go_wp2
    exact bodyPost_ret (r3.result rfl _ _ rfl Tryd.underlying29 rfl (by rw [LV.out]; exact fits_rhead.size)) rfl ⟨rfl, b3⟩

theorem eq_hash2 (D E : List UInt8) (hD : D.length = 32) (hE : E.length = 32) (r : Bool) (h : decide (D = E) = r) (u : World) : (Op.equalIn 10000 25 (.agg (bytes D).toArray) (.agg (bytes E).toArray)).run Tryd.prog u = .ok r u := by rw [eq_hash D E hD hE u, h]
set_option maxHeartbeats 1000000 in
theorem head_matches_any (a b c n : Int) (H : List UInt8) (s : ByteArray) (D : List UInt8) (r : Bool) (w : World) (hH : H.length = 32) (hD : ShaMath.sha s.data.toList = D) (hg : Glob w) (hs : s.size ≤ 1000000) (hr : (decide (n = (s.size : Int)) && decide (H = D)) = r) :
    Calls Tryd.prog 16 #[.agg (hdv a b c n H).toArray, .string s] w fun e w' => e = .returned (.bool r) ∧ Below w.heap.size w w' := by
  have lD : D.length = 32 := by rw [← hD, ShaMath.sha_length]
  have HSUM : Hid (∀ wx v, Glob wx → Lst [.string s] v wx → Calls Tryd.prog 23 #[v] wx fun e w' => e = .returned (.agg (bytes D).toArray) ∧ Below wx.heap.size wx w') := Lib.hid fun wx v g h => sum_lst s D v wx hD g hs h
  have LH : Hid ((bytes H).length = 32) := Lib.hid (by rw [bytes_length, hH])
  have HG := Lib.hid hg
  have hsz : (s.size : Int) ≤ 1000000 := by omega
  obtain ⟨r2, hr2⟩ : ∃ r2, decide (H = D) = r2 := ⟨_, rfl⟩
  rw [hr2] at hr
  have HEQ : Hid (∀ u : World, (Op.equalIn 10000 25 (.agg (bytes H).toArray) (.agg (bytes D).toArray)).run Tryd.prog u = .ok r2 u) := Lib.hid (eq_hash2 H D hH lD r2 hr2)
  have HV : Hid (hdv a b c n H = [Value.int .i64 a, .int .i64 b, .int .i64 c, .int .i64 n] ++ bytes H ++ []) := Lib.hid (by rw [List.append_nil]; rfl)
  have H3 : Hid ((hdv a b c n H)[3]? = some (.int .i64 n)) := Lib.hid rfl
  obtain ⟨V, hV⟩ : ∃ V, hdv a b c n H = V := ⟨_, rfl⟩
  rw [hV] at HV H3 ⊢
  clear hD lD hg hs hH hV hr2
  go_enter Tryd.func16, Tryd.ntmps16
  go_wp2_with (first
    | ((with_reducible refine wpBoxK (w := w) V 27 ?_ ?_); rfl; intro u1 r1 b1 s1; have R1 := Lib.hid r1; have RM : Hid (Row u1 w.heap.size 27 ([Value.int .i64 a, .int .i64 b, .int .i64 c, .int .i64 n] ++ bytes H ++ [])) := Lib.hid (by rw [← HV.out]; exact r1); have B1 := Lib.hid b1; clear r1 b1 s1))
  have HC3 : Hid (u1.cell? ⟨w.heap.size, 3, none⟩ = some (.int .i64 n)) := Lib.hid ((R1.out.cell 3).trans H3.out)
  have HLT : Hid (w.heap.size < u1.heap.size) := Lib.hid R1.out.lt
  by_cases hn : n = (s.size : Int)
  · have hnd : (n == (s.size : Int)) = true := by simpa using hn
    have hrr : r2 = r := by rw [← hr]; simp [hn]
    clear hr hn
    subst hrr
    cases r2 with
    | true =>
      refine region_invX [(0, 5), (1, 6), (2, 7), (3, 8), (4, 9), (5, 10), (6, 11), (7, 12), (8, 13), (9, 14), (10, 15), (11, 16), (12, 17), (13, 4)]
        (fun ii => [Is (.pointer (some ⟨w.heap.size, 3, none⟩)), Is (.int .i64 n), Is (.string s), Is (.int .i64 (s.size : Int)), Is (.bool true), Is (.bool true), Is (.pointer (some ⟨w.heap.size, 4, none⟩)), Is (.agg (bytes H).toArray), Is (.string s), Lst [.string s], Is (.agg (bytes D).toArray), Is (.bool true), Is (.bool true), Is (.bool true)].getD ii (Is undef))
        (fun w' => Below u1.heap.size u1 w') (by kernel_rfl) (by kernel_rfl) (by decide) (by decide) (by kernel_rfl) rfl ?monoM ((Below.refl _ _).drew) ?stepM ?finM
      case monoM =>
        intro i
        match i with
        | 0 | 1 | 2 | 3 | 4 | 5 | 6 | 7 | 8 | 10 | 11 | 12 | 13 => exact Is.monot _
        | 9 => exact Lst.monot _
        | _ + 14 => exact Is.monot _
      case stepM =>
        refine List.forall_mem_cons.2 ⟨?Ms0, List.forall_mem_cons.2 ⟨?Ms1, List.forall_mem_cons.2 ⟨?Ms2, List.forall_mem_cons.2 ⟨?Ms3, List.forall_mem_cons.2 ⟨?Ms4, List.forall_mem_cons.2 ⟨?Ms5, List.forall_mem_cons.2 ⟨?Ms6, List.forall_mem_cons.2 ⟨?Ms7, List.forall_mem_cons.2 ⟨?Ms8, List.forall_mem_cons.2 ⟨?Ms9, List.forall_mem_cons.2 ⟨?Ms10, List.forall_mem_cons.2 ⟨?Ms11, List.forall_mem_cons.2 ⟨?Ms12, List.forall_mem_cons.2 ⟨?Ms13, List.forall_mem_nil _⟩⟩⟩⟩⟩⟩⟩⟩⟩⟩⟩⟩⟩⟩
        case Ms0 =>
          intro u wx hg hC
          clear hC
          refine wpOp_step rfl (fun K hK => ?_)
          simp only [puts, List.foldl]
          go_simp
          exact hK _ _ ⟨rfl, rfl, hg, Below.refl _ _⟩
        case Ms1 =>
          intro u wx hg hC
          have hJ0 : u 0 = (.pointer (some ⟨w.heap.size, 3, none⟩)) := hC.at 0 (by kernel_rfl)
          clear hC
          have hcl : wx.cell? ⟨w.heap.size, 3, none⟩ = some (.int .i64 n) := (hg.cell (p := ⟨w.heap.size, 3, none⟩) HLT.out).trans HC3.out
          refine wpOp_step rfl (fun K hK => ?_)
          simp only [puts, List.foldl]
          go_simp
          exact hK _ _ ⟨rfl, rfl, hg, Below.refl _ _⟩
        case Ms2 =>
          intro u wx hg hC
          clear hC
          refine wpOp_step rfl (fun K hK => ?_)
          simp only [puts, List.foldl]
          go_simp
          exact hK _ _ ⟨rfl, rfl, hg, Below.refl _ _⟩
        case Ms3 =>
          intro u wx hg hC
          have hJ2 : u 2 = (.string s) := hC.at 2 (by kernel_rfl)
          clear hC
          refine wpOp_step rfl (fun K hK => ?_)
          simp only [puts, List.foldl]
          go_simp
          exact hK _ _ ⟨rfl, rfl, hg, Below.refl _ _⟩
        case Ms4 =>
          intro u wx hg hC
          have hJ1 : u 1 = (.int .i64 n) := hC.at 1 (by kernel_rfl)
          have hJ3 : u 3 = (.int .i64 (s.size : Int)) := hC.at 3 (by kernel_rfl)
          clear hC
          refine wpOp_step rfl (fun K hK => ?_)
          simp only [puts, List.foldl]
          go_simp
          exact hK _ _ ⟨rfl, rfl, hg, Below.refl _ _⟩
        case Ms5 =>
          intro u wx hg hC
          have hJ4 : u 4 = (.bool true) := hC.at 4 (by kernel_rfl)
          clear hC
          refine wpOp_step rfl (fun K hK => ?_)
          simp only [puts, List.foldl]
          go_simp
          exact hK _ _ ⟨rfl, rfl, hg, Below.refl _ _⟩
        case Ms6 =>
          intro u wx hg hC
          have hJ5 : u 5 = (.bool true) := hC.at 5 (by kernel_rfl)
          clear hC
          generalize hA : puts [(0, 5), (1, 6), (2, 7), (3, 8), (4, 9), (5, 10), (6, 11), (7, 12), (8, 13), (9, 14), (10, 15), (11, 16), (12, 17), (13, 4)] _ u = A
          have hgv : A.tmps.getD 10 undef = .bool true := by rw [← hA]; exact (puts_get u 5 10 _ _ (by decide) (by decide) (by kernel_rfl)).trans hJ5
          have hgs : 10 < A.tmps.size := by rw [← hA]; exact puts_room u (by kernel_rfl)
          refine wpOp_guard rfl 5 10 true rfl rfl hgs hgv (fun K hK => ?_)
          subst hA
          simp only [puts, List.foldl]
          go_simp
          exact hK _ _ ⟨rfl, rfl, hg, Below.refl _ _⟩
        case Ms7 =>
          intro u wx hg hC
          have hJ5 : u 5 = (.bool true) := hC.at 5 (by kernel_rfl)
          have hJ6 : u 6 = (.pointer (some ⟨w.heap.size, 4, none⟩)) := hC.at 6 (by kernel_rfl)
          clear hC
          generalize hA : puts [(0, 5), (1, 6), (2, 7), (3, 8), (4, 9), (5, 10), (6, 11), (7, 12), (8, 13), (9, 14), (10, 15), (11, 16), (12, 17), (13, 4)] _ u = A
          have hgv : A.tmps.getD 10 undef = .bool true := by rw [← hA]; exact (puts_get u 5 10 _ _ (by decide) (by decide) (by kernel_rfl)).trans hJ5
          have hgs : 10 < A.tmps.size := by rw [← hA]; exact puts_room u (by kernel_rfl)
          have hp : A.tmps.getD 11 undef = (.pointer (some ⟨w.heap.size, 4, none⟩)) := by rw [← hA]; exact (puts_get u 6 11 _ _ (by decide) (by decide) (by kernel_rfl)).trans hJ6
          have hsz : 12 < A.tmps.size := by rw [← hA]; exact puts_room u (by kernel_rfl)
          refine wpOp_guard rfl 5 10 true rfl rfl hgs hgv (fun K hK => ?_)
          clear hA
          exact opLoadRK (φ := Is (.agg (bytes H).toArray)) ((RM.out.step hg).mid 4 rfl) _ (fits_hash) (LH.out) 12 rfl hsz hK (.tmp 11) rfl hp rfl hg
        case Ms8 =>
          intro u wx hg hC
          have hJ5 : u 5 = (.bool true) := hC.at 5 (by kernel_rfl)
          clear hC
          generalize hA : puts [(0, 5), (1, 6), (2, 7), (3, 8), (4, 9), (5, 10), (6, 11), (7, 12), (8, 13), (9, 14), (10, 15), (11, 16), (12, 17), (13, 4)] _ u = A
          have hgv : A.tmps.getD 10 undef = .bool true := by rw [← hA]; exact (puts_get u 5 10 _ _ (by decide) (by decide) (by kernel_rfl)).trans hJ5
          have hgs : 10 < A.tmps.size := by rw [← hA]; exact puts_room u (by kernel_rfl)
          refine wpOp_guard rfl 5 10 true rfl rfl hgs hgv (fun K hK => ?_)
          subst hA
          simp only [puts, List.foldl]
          go_simp
          exact hK _ _ ⟨rfl, rfl, hg, Below.refl _ _⟩
        case Ms9 =>
          intro u wx hg hC
          have hJ5 : u 5 = (.bool true) := hC.at 5 (by kernel_rfl)
          have hJ8 : u 8 = (.string s) := hC.at 8 (by kernel_rfl)
          clear hC
          generalize hA : puts [(0, 5), (1, 6), (2, 7), (3, 8), (4, 9), (5, 10), (6, 11), (7, 12), (8, 13), (9, 14), (10, 15), (11, 16), (12, 17), (13, 4)] _ u = A
          have hgv : A.tmps.getD 10 undef = .bool true := by rw [← hA]; exact (puts_get u 5 10 _ _ (by decide) (by decide) (by kernel_rfl)).trans hJ5
          have hgs : 10 < A.tmps.size := by rw [← hA]; exact puts_room u (by kernel_rfl)
          refine wpOp_guard rfl 5 10 true rfl rfl hgs hgv (fun K hK => ?_)
          subst hA
          simp only [puts, List.foldl]
          go_simp
          exact hK _ _ ⟨rfl, lst_new [.string s] wx 9 _ rfl, hg.next (alloc_below _ _), alloc_below _ _⟩
        case Ms10 =>
          intro u wx hg hC
          have hJ5 : u 5 = (.bool true) := hC.at 5 (by kernel_rfl)
          have hJ9 : (Lst [.string s]) (u 9) wx := hC.at 9 (by kernel_rfl)
          clear hC
          generalize hA : puts [(0, 5), (1, 6), (2, 7), (3, 8), (4, 9), (5, 10), (6, 11), (7, 12), (8, 13), (9, 14), (10, 15), (11, 16), (12, 17), (13, 4)] _ u = A
          have hgv : A.tmps.getD 10 undef = .bool true := by rw [← hA]; exact (puts_get u 5 10 _ _ (by decide) (by decide) (by kernel_rfl)).trans hJ5
          have hgs : 10 < A.tmps.size := by rw [← hA]; exact puts_room u (by kernel_rfl)
          refine wpOp_guard rfl 5 10 true rfl rfl hgs hgv (fun K hK => ?_)
          subst hA
          simp only [puts, List.foldl]
          go_simp
          refine (HSUM.out wx _ ((HG.out.step B1.out).step hg) hJ9).mono ?_
          rintro e w' ⟨rfl, hb'⟩
          exact hK _ _ ⟨rfl, rfl, hg.next hb', hb'⟩
        case Ms11 =>
          intro u wx hg hC
          have hJ5 : u 5 = (.bool true) := hC.at 5 (by kernel_rfl)
          have hJ7 : u 7 = (.agg (bytes H).toArray) := hC.at 7 (by kernel_rfl)
          have hJ10 : u 10 = (.agg (bytes D).toArray) := hC.at 10 (by kernel_rfl)
          clear hC
          have heq := HEQ.out
          generalize hA : puts [(0, 5), (1, 6), (2, 7), (3, 8), (4, 9), (5, 10), (6, 11), (7, 12), (8, 13), (9, 14), (10, 15), (11, 16), (12, 17), (13, 4)] _ u = A
          have hgv : A.tmps.getD 10 undef = .bool true := by rw [← hA]; exact (puts_get u 5 10 _ _ (by decide) (by decide) (by kernel_rfl)).trans hJ5
          have hgs : 10 < A.tmps.size := by rw [← hA]; exact puts_room u (by kernel_rfl)
          refine wpOp_guard rfl 5 10 true rfl rfl hgs hgv (fun K hK => ?_)
          subst hA
          simp only [puts, List.foldl]
          go_simp
          exact hK _ _ ⟨rfl, rfl, hg, Below.refl _ _⟩
        case Ms12 =>
          intro u wx hg hC
          have hJ5 : u 5 = (.bool true) := hC.at 5 (by kernel_rfl)
          have hJ11 : u 11 = (.bool true) := hC.at 11 (by kernel_rfl)
          clear hC
          refine wpOp_step rfl (fun K hK => ?_)
          simp only [puts, List.foldl]
          go_simp
          exact hK _ _ ⟨rfl, rfl, hg, Below.refl _ _⟩
        case Ms13 =>
          intro u wx hg hC
          have hJ12 : u 12 = (.bool true) := hC.at 12 (by kernel_rfl)
          clear hC
          refine wpOp_step rfl (fun K hK => ?_)
          simp only [puts, List.foldl]
          go_simp
          exact hK _ _ ⟨rfl, rfl, hg, Below.refl _ _⟩
      case finM =>
        intro u wx hg hC
        have hC13 : u 13 = .bool true := hC (13, 4) (by decide)
        have B10 : Hid (Below w.heap.size w wx) := Lib.hid (B1.out.next hg)
        clear hg hC
        simp only [puts, List.foldl]
        rw [hC13]
        go_simp
        go_wp2
        go_ret
        exact ⟨rfl, B10.out⟩
    | false =>
      refine region_invX [(0, 5), (1, 6), (2, 7), (3, 8), (4, 9), (5, 10), (6, 11), (7, 12), (8, 13), (9, 14), (10, 15), (11, 16), (12, 17), (13, 4)]
        (fun ii => [Is (.pointer (some ⟨w.heap.size, 3, none⟩)), Is (.int .i64 n), Is (.string s), Is (.int .i64 (s.size : Int)), Is (.bool true), Is (.bool true), Is (.pointer (some ⟨w.heap.size, 4, none⟩)), Is (.agg (bytes H).toArray), Is (.string s), Lst [.string s], Is (.agg (bytes D).toArray), Is (.bool false), Is (.bool false), Is (.bool false)].getD ii (Is undef))
        (fun w' => Below u1.heap.size u1 w') (by kernel_rfl) (by kernel_rfl) (by decide) (by decide) (by kernel_rfl) rfl ?monoN ((Below.refl _ _).drew) ?stepN ?finN
      case monoN =>
        intro i
        match i with
        | 0 | 1 | 2 | 3 | 4 | 5 | 6 | 7 | 8 | 10 | 11 | 12 | 13 => exact Is.monot _
        | 9 => exact Lst.monot _
        | _ + 14 => exact Is.monot _
      case stepN =>
        refine List.forall_mem_cons.2 ⟨?Ns0, List.forall_mem_cons.2 ⟨?Ns1, List.forall_mem_cons.2 ⟨?Ns2, List.forall_mem_cons.2 ⟨?Ns3, List.forall_mem_cons.2 ⟨?Ns4, List.forall_mem_cons.2 ⟨?Ns5, List.forall_mem_cons.2 ⟨?Ns6, List.forall_mem_cons.2 ⟨?Ns7, List.forall_mem_cons.2 ⟨?Ns8, List.forall_mem_cons.2 ⟨?Ns9, List.forall_mem_cons.2 ⟨?Ns10, List.forall_mem_cons.2 ⟨?Ns11, List.forall_mem_cons.2 ⟨?Ns12, List.forall_mem_cons.2 ⟨?Ns13, List.forall_mem_nil _⟩⟩⟩⟩⟩⟩⟩⟩⟩⟩⟩⟩⟩⟩
        case Ns0 =>
          intro u wx hg hC
          clear hC
          refine wpOp_step rfl (fun K hK => ?_)
          simp only [puts, List.foldl]
          go_simp
          exact hK _ _ ⟨rfl, rfl, hg, Below.refl _ _⟩
        case Ns1 =>
          intro u wx hg hC
          have hJ0 : u 0 = (.pointer (some ⟨w.heap.size, 3, none⟩)) := hC.at 0 (by kernel_rfl)
          clear hC
          have hcl : wx.cell? ⟨w.heap.size, 3, none⟩ = some (.int .i64 n) := (hg.cell (p := ⟨w.heap.size, 3, none⟩) HLT.out).trans HC3.out
          refine wpOp_step rfl (fun K hK => ?_)
          simp only [puts, List.foldl]
          go_simp
          exact hK _ _ ⟨rfl, rfl, hg, Below.refl _ _⟩
        case Ns2 =>
          intro u wx hg hC
          clear hC
          refine wpOp_step rfl (fun K hK => ?_)
          simp only [puts, List.foldl]
          go_simp
          exact hK _ _ ⟨rfl, rfl, hg, Below.refl _ _⟩
        case Ns3 =>
          intro u wx hg hC
          have hJ2 : u 2 = (.string s) := hC.at 2 (by kernel_rfl)
          clear hC
          refine wpOp_step rfl (fun K hK => ?_)
          simp only [puts, List.foldl]
          go_simp
          exact hK _ _ ⟨rfl, rfl, hg, Below.refl _ _⟩
        case Ns4 =>
          intro u wx hg hC
          have hJ1 : u 1 = (.int .i64 n) := hC.at 1 (by kernel_rfl)
          have hJ3 : u 3 = (.int .i64 (s.size : Int)) := hC.at 3 (by kernel_rfl)
          clear hC
          refine wpOp_step rfl (fun K hK => ?_)
          simp only [puts, List.foldl]
          go_simp
          exact hK _ _ ⟨rfl, rfl, hg, Below.refl _ _⟩
        case Ns5 =>
          intro u wx hg hC
          have hJ4 : u 4 = (.bool true) := hC.at 4 (by kernel_rfl)
          clear hC
          refine wpOp_step rfl (fun K hK => ?_)
          simp only [puts, List.foldl]
          go_simp
          exact hK _ _ ⟨rfl, rfl, hg, Below.refl _ _⟩
        case Ns6 =>
          intro u wx hg hC
          have hJ5 : u 5 = (.bool true) := hC.at 5 (by kernel_rfl)
          clear hC
          generalize hA : puts [(0, 5), (1, 6), (2, 7), (3, 8), (4, 9), (5, 10), (6, 11), (7, 12), (8, 13), (9, 14), (10, 15), (11, 16), (12, 17), (13, 4)] _ u = A
          have hgv : A.tmps.getD 10 undef = .bool true := by rw [← hA]; exact (puts_get u 5 10 _ _ (by decide) (by decide) (by kernel_rfl)).trans hJ5
          have hgs : 10 < A.tmps.size := by rw [← hA]; exact puts_room u (by kernel_rfl)
          refine wpOp_guard rfl 5 10 true rfl rfl hgs hgv (fun K hK => ?_)
          subst hA
          simp only [puts, List.foldl]
          go_simp
          exact hK _ _ ⟨rfl, rfl, hg, Below.refl _ _⟩
        case Ns7 =>
          intro u wx hg hC
          have hJ5 : u 5 = (.bool true) := hC.at 5 (by kernel_rfl)
          have hJ6 : u 6 = (.pointer (some ⟨w.heap.size, 4, none⟩)) := hC.at 6 (by kernel_rfl)
          clear hC
          generalize hA : puts [(0, 5), (1, 6), (2, 7), (3, 8), (4, 9), (5, 10), (6, 11), (7, 12), (8, 13), (9, 14), (10, 15), (11, 16), (12, 17), (13, 4)] _ u = A
          have hgv : A.tmps.getD 10 undef = .bool true := by rw [← hA]; exact (puts_get u 5 10 _ _ (by decide) (by decide) (by kernel_rfl)).trans hJ5
          have hgs : 10 < A.tmps.size := by rw [← hA]; exact puts_room u (by kernel_rfl)
          have hp : A.tmps.getD 11 undef = (.pointer (some ⟨w.heap.size, 4, none⟩)) := by rw [← hA]; exact (puts_get u 6 11 _ _ (by decide) (by decide) (by kernel_rfl)).trans hJ6
          have hsz : 12 < A.tmps.size := by rw [← hA]; exact puts_room u (by kernel_rfl)
          refine wpOp_guard rfl 5 10 true rfl rfl hgs hgv (fun K hK => ?_)
          clear hA
          exact opLoadRK (φ := Is (.agg (bytes H).toArray)) ((RM.out.step hg).mid 4 rfl) _ (fits_hash) (LH.out) 12 rfl hsz hK (.tmp 11) rfl hp rfl hg
        case Ns8 =>
          intro u wx hg hC
          have hJ5 : u 5 = (.bool true) := hC.at 5 (by kernel_rfl)
          clear hC
          generalize hA : puts [(0, 5), (1, 6), (2, 7), (3, 8), (4, 9), (5, 10), (6, 11), (7, 12), (8, 13), (9, 14), (10, 15), (11, 16), (12, 17), (13, 4)] _ u = A
          have hgv : A.tmps.getD 10 undef = .bool true := by rw [← hA]; exact (puts_get u 5 10 _ _ (by decide) (by decide) (by kernel_rfl)).trans hJ5
          have hgs : 10 < A.tmps.size := by rw [← hA]; exact puts_room u (by kernel_rfl)
          refine wpOp_guard rfl 5 10 true rfl rfl hgs hgv (fun K hK => ?_)
          subst hA
          simp only [puts, List.foldl]
          go_simp
          exact hK _ _ ⟨rfl, rfl, hg, Below.refl _ _⟩
        case Ns9 =>
          intro u wx hg hC
          have hJ5 : u 5 = (.bool true) := hC.at 5 (by kernel_rfl)
          have hJ8 : u 8 = (.string s) := hC.at 8 (by kernel_rfl)
          clear hC
          generalize hA : puts [(0, 5), (1, 6), (2, 7), (3, 8), (4, 9), (5, 10), (6, 11), (7, 12), (8, 13), (9, 14), (10, 15), (11, 16), (12, 17), (13, 4)] _ u = A
          have hgv : A.tmps.getD 10 undef = .bool true := by rw [← hA]; exact (puts_get u 5 10 _ _ (by decide) (by decide) (by kernel_rfl)).trans hJ5
          have hgs : 10 < A.tmps.size := by rw [← hA]; exact puts_room u (by kernel_rfl)
          refine wpOp_guard rfl 5 10 true rfl rfl hgs hgv (fun K hK => ?_)
          subst hA
          simp only [puts, List.foldl]
          go_simp
          exact hK _ _ ⟨rfl, lst_new [.string s] wx 9 _ rfl, hg.next (alloc_below _ _), alloc_below _ _⟩
        case Ns10 =>
          intro u wx hg hC
          have hJ5 : u 5 = (.bool true) := hC.at 5 (by kernel_rfl)
          have hJ9 : (Lst [.string s]) (u 9) wx := hC.at 9 (by kernel_rfl)
          clear hC
          generalize hA : puts [(0, 5), (1, 6), (2, 7), (3, 8), (4, 9), (5, 10), (6, 11), (7, 12), (8, 13), (9, 14), (10, 15), (11, 16), (12, 17), (13, 4)] _ u = A
          have hgv : A.tmps.getD 10 undef = .bool true := by rw [← hA]; exact (puts_get u 5 10 _ _ (by decide) (by decide) (by kernel_rfl)).trans hJ5
          have hgs : 10 < A.tmps.size := by rw [← hA]; exact puts_room u (by kernel_rfl)
          refine wpOp_guard rfl 5 10 true rfl rfl hgs hgv (fun K hK => ?_)
          subst hA
          simp only [puts, List.foldl]
          go_simp
          refine (HSUM.out wx _ ((HG.out.step B1.out).step hg) hJ9).mono ?_
          rintro e w' ⟨rfl, hb'⟩
          exact hK _ _ ⟨rfl, rfl, hg.next hb', hb'⟩
        case Ns11 =>
          intro u wx hg hC
          have hJ5 : u 5 = (.bool true) := hC.at 5 (by kernel_rfl)
          have hJ7 : u 7 = (.agg (bytes H).toArray) := hC.at 7 (by kernel_rfl)
          have hJ10 : u 10 = (.agg (bytes D).toArray) := hC.at 10 (by kernel_rfl)
          clear hC
          have heq := HEQ.out
          generalize hA : puts [(0, 5), (1, 6), (2, 7), (3, 8), (4, 9), (5, 10), (6, 11), (7, 12), (8, 13), (9, 14), (10, 15), (11, 16), (12, 17), (13, 4)] _ u = A
          have hgv : A.tmps.getD 10 undef = .bool true := by rw [← hA]; exact (puts_get u 5 10 _ _ (by decide) (by decide) (by kernel_rfl)).trans hJ5
          have hgs : 10 < A.tmps.size := by rw [← hA]; exact puts_room u (by kernel_rfl)
          refine wpOp_guard rfl 5 10 true rfl rfl hgs hgv (fun K hK => ?_)
          subst hA
          simp only [puts, List.foldl]
          go_simp
          exact hK _ _ ⟨rfl, rfl, hg, Below.refl _ _⟩
        case Ns12 =>
          intro u wx hg hC
          have hJ5 : u 5 = (.bool true) := hC.at 5 (by kernel_rfl)
          have hJ11 : u 11 = (.bool false) := hC.at 11 (by kernel_rfl)
          clear hC
          refine wpOp_step rfl (fun K hK => ?_)
          simp only [puts, List.foldl]
          go_simp
          exact hK _ _ ⟨rfl, rfl, hg, Below.refl _ _⟩
        case Ns13 =>
          intro u wx hg hC
          have hJ12 : u 12 = (.bool false) := hC.at 12 (by kernel_rfl)
          clear hC
          refine wpOp_step rfl (fun K hK => ?_)
          simp only [puts, List.foldl]
          go_simp
          exact hK _ _ ⟨rfl, rfl, hg, Below.refl _ _⟩
      case finN =>
        intro u wx hg hC
        have hC13 : u 13 = .bool false := hC (13, 4) (by decide)
        have B10 : Hid (Below w.heap.size w wx) := Lib.hid (B1.out.next hg)
        clear hg hC
        simp only [puts, List.foldl]
        rw [hC13]
        go_simp
        go_wp2
        go_ret
        exact ⟨rfl, B10.out⟩
  · have hnd : (n == (s.size : Int)) = false := by simpa using hn
    have hrr : r = false := by rw [← hr]; simp [hn]
    clear hr hn
    subst hrr
    refine region_invX [(0, 5), (1, 6), (2, 7), (3, 8), (4, 9), (5, 10), (6, 11), (7, 12), (8, 13), (9, 14), (10, 15), (11, 16), (12, 17), (13, 4)]
      (fun ii => [Is (.pointer (some ⟨w.heap.size, 3, none⟩)), Is (.int .i64 n), Is (.string s), Is (.int .i64 (s.size : Int)), Is (.bool false), Is (.bool false), Is undef, Is undef, Is undef, Is undef, Is undef, Is undef, Is (.bool false), Is (.bool false)].getD ii (Is undef))
      (fun w' => Below u1.heap.size u1 w') (by kernel_rfl) (by kernel_rfl) (by decide) (by decide) (by kernel_rfl) rfl ?monoO ((Below.refl _ _).drew) ?stepO ?finO
    case monoO =>
      intro i
      match i with
      | 0 | 1 | 2 | 3 | 4 | 5 | 6 | 7 | 8 | 9 | 10 | 11 | 12 | 13 => exact Is.monot _
      | _ + 14 => exact Is.monot _
    case stepO =>
      refine List.forall_mem_cons.2 ⟨?Os0, List.forall_mem_cons.2 ⟨?Os1, List.forall_mem_cons.2 ⟨?Os2, List.forall_mem_cons.2 ⟨?Os3, List.forall_mem_cons.2 ⟨?Os4, List.forall_mem_cons.2 ⟨?Os5, List.forall_mem_cons.2 ⟨?Os6, List.forall_mem_cons.2 ⟨?Os7, List.forall_mem_cons.2 ⟨?Os8, List.forall_mem_cons.2 ⟨?Os9, List.forall_mem_cons.2 ⟨?Os10, List.forall_mem_cons.2 ⟨?Os11, List.forall_mem_cons.2 ⟨?Os12, List.forall_mem_cons.2 ⟨?Os13, List.forall_mem_nil _⟩⟩⟩⟩⟩⟩⟩⟩⟩⟩⟩⟩⟩⟩
      case Os0 =>
        intro u wx hg hC
        clear hC
        refine wpOp_step rfl (fun K hK => ?_)
        simp only [puts, List.foldl]
        go_simp
        exact hK _ _ ⟨rfl, rfl, hg, Below.refl _ _⟩
      case Os1 =>
        intro u wx hg hC
        have hJ0 : u 0 = (.pointer (some ⟨w.heap.size, 3, none⟩)) := hC.at 0 (by kernel_rfl)
        clear hC
        have hcl : wx.cell? ⟨w.heap.size, 3, none⟩ = some (.int .i64 n) := (hg.cell (p := ⟨w.heap.size, 3, none⟩) HLT.out).trans HC3.out
        refine wpOp_step rfl (fun K hK => ?_)
        simp only [puts, List.foldl]
        go_simp
        exact hK _ _ ⟨rfl, rfl, hg, Below.refl _ _⟩
      case Os2 =>
        intro u wx hg hC
        clear hC
        refine wpOp_step rfl (fun K hK => ?_)
        simp only [puts, List.foldl]
        go_simp
        exact hK _ _ ⟨rfl, rfl, hg, Below.refl _ _⟩
      case Os3 =>
        intro u wx hg hC
        have hJ2 : u 2 = (.string s) := hC.at 2 (by kernel_rfl)
        clear hC
        refine wpOp_step rfl (fun K hK => ?_)
        simp only [puts, List.foldl]
        go_simp
        exact hK _ _ ⟨rfl, rfl, hg, Below.refl _ _⟩
      case Os4 =>
        intro u wx hg hC
        have hJ1 : u 1 = (.int .i64 n) := hC.at 1 (by kernel_rfl)
        have hJ3 : u 3 = (.int .i64 (s.size : Int)) := hC.at 3 (by kernel_rfl)
        clear hC
        refine wpOp_step rfl (fun K hK => ?_)
        simp only [puts, List.foldl]
        go_simp
        exact hK _ _ ⟨rfl, rfl, hg, Below.refl _ _⟩
      case Os5 =>
        intro u wx hg hC
        have hJ4 : u 4 = (.bool false) := hC.at 4 (by kernel_rfl)
        clear hC
        refine wpOp_step rfl (fun K hK => ?_)
        simp only [puts, List.foldl]
        go_simp
        exact hK _ _ ⟨rfl, rfl, hg, Below.refl _ _⟩
      case Os6 =>
        intro u wx hg hC
        have hJ5 : u 5 = (.bool false) := hC.at 5 (by kernel_rfl)
        clear hC
        generalize hA : puts [(0, 5), (1, 6), (2, 7), (3, 8), (4, 9), (5, 10), (6, 11), (7, 12), (8, 13), (9, 14), (10, 15), (11, 16), (12, 17), (13, 4)] _ u = A
        have hgv : A.tmps.getD 10 undef = .bool false := by rw [← hA]; exact (puts_get u 5 10 _ _ (by decide) (by decide) (by kernel_rfl)).trans hJ5
        have hgs : 10 < A.tmps.size := by rw [← hA]; exact puts_room u (by kernel_rfl)
        refine wpOp_skip rfl 5 10 true rfl rfl hgs hgv ?_
        subst hA
        simp only [puts, List.foldl]
        go_simp
        first | exact ⟨rfl, hg, Below.refl _ _⟩ | exact ⟨rfl, hg⟩ | exact ⟨rfl, Below.refl _ _⟩ | exact ⟨rfl, rfl, hg, Below.refl _ _⟩ | exact ⟨hg, Below.refl _ _⟩
      case Os7 =>
        intro u wx hg hC
        have hJ5 : u 5 = (.bool false) := hC.at 5 (by kernel_rfl)
        clear hC
        generalize hA : puts [(0, 5), (1, 6), (2, 7), (3, 8), (4, 9), (5, 10), (6, 11), (7, 12), (8, 13), (9, 14), (10, 15), (11, 16), (12, 17), (13, 4)] _ u = A
        have hgv : A.tmps.getD 10 undef = .bool false := by rw [← hA]; exact (puts_get u 5 10 _ _ (by decide) (by decide) (by kernel_rfl)).trans hJ5
        have hgs : 10 < A.tmps.size := by rw [← hA]; exact puts_room u (by kernel_rfl)
        refine wpOp_skip rfl 5 10 true rfl rfl hgs hgv ?_
        subst hA
        simp only [puts, List.foldl]
        go_simp
        first | exact ⟨rfl, hg, Below.refl _ _⟩ | exact ⟨rfl, hg⟩ | exact ⟨rfl, Below.refl _ _⟩ | exact ⟨rfl, rfl, hg, Below.refl _ _⟩ | exact ⟨hg, Below.refl _ _⟩
      case Os8 =>
        intro u wx hg hC
        have hJ5 : u 5 = (.bool false) := hC.at 5 (by kernel_rfl)
        clear hC
        generalize hA : puts [(0, 5), (1, 6), (2, 7), (3, 8), (4, 9), (5, 10), (6, 11), (7, 12), (8, 13), (9, 14), (10, 15), (11, 16), (12, 17), (13, 4)] _ u = A
        have hgv : A.tmps.getD 10 undef = .bool false := by rw [← hA]; exact (puts_get u 5 10 _ _ (by decide) (by decide) (by kernel_rfl)).trans hJ5
        have hgs : 10 < A.tmps.size := by rw [← hA]; exact puts_room u (by kernel_rfl)
        refine wpOp_skip rfl 5 10 true rfl rfl hgs hgv ?_
        subst hA
        simp only [puts, List.foldl]
        go_simp
        first | exact ⟨rfl, hg, Below.refl _ _⟩ | exact ⟨rfl, hg⟩ | exact ⟨rfl, Below.refl _ _⟩ | exact ⟨rfl, rfl, hg, Below.refl _ _⟩ | exact ⟨hg, Below.refl _ _⟩
      case Os9 =>
        intro u wx hg hC
        have hJ5 : u 5 = (.bool false) := hC.at 5 (by kernel_rfl)
        clear hC
        generalize hA : puts [(0, 5), (1, 6), (2, 7), (3, 8), (4, 9), (5, 10), (6, 11), (7, 12), (8, 13), (9, 14), (10, 15), (11, 16), (12, 17), (13, 4)] _ u = A
        have hgv : A.tmps.getD 10 undef = .bool false := by rw [← hA]; exact (puts_get u 5 10 _ _ (by decide) (by decide) (by kernel_rfl)).trans hJ5
        have hgs : 10 < A.tmps.size := by rw [← hA]; exact puts_room u (by kernel_rfl)
        refine wpOp_skip rfl 5 10 true rfl rfl hgs hgv ?_
        subst hA
        simp only [puts, List.foldl]
        go_simp
        first | exact ⟨rfl, hg, Below.refl _ _⟩ | exact ⟨rfl, hg⟩ | exact ⟨rfl, Below.refl _ _⟩ | exact ⟨rfl, rfl, hg, Below.refl _ _⟩ | exact ⟨hg, Below.refl _ _⟩
      case Os10 =>
        intro u wx hg hC
        have hJ5 : u 5 = (.bool false) := hC.at 5 (by kernel_rfl)
        clear hC
        generalize hA : puts [(0, 5), (1, 6), (2, 7), (3, 8), (4, 9), (5, 10), (6, 11), (7, 12), (8, 13), (9, 14), (10, 15), (11, 16), (12, 17), (13, 4)] _ u = A
        have hgv : A.tmps.getD 10 undef = .bool false := by rw [← hA]; exact (puts_get u 5 10 _ _ (by decide) (by decide) (by kernel_rfl)).trans hJ5
        have hgs : 10 < A.tmps.size := by rw [← hA]; exact puts_room u (by kernel_rfl)
        refine wpOp_skip rfl 5 10 true rfl rfl hgs hgv ?_
        subst hA
        simp only [puts, List.foldl]
        go_simp
        first | exact ⟨rfl, hg, Below.refl _ _⟩ | exact ⟨rfl, hg⟩ | exact ⟨rfl, Below.refl _ _⟩ | exact ⟨rfl, rfl, hg, Below.refl _ _⟩ | exact ⟨hg, Below.refl _ _⟩
      case Os11 =>
        intro u wx hg hC
        have hJ5 : u 5 = (.bool false) := hC.at 5 (by kernel_rfl)
        clear hC
        generalize hA : puts [(0, 5), (1, 6), (2, 7), (3, 8), (4, 9), (5, 10), (6, 11), (7, 12), (8, 13), (9, 14), (10, 15), (11, 16), (12, 17), (13, 4)] _ u = A
        have hgv : A.tmps.getD 10 undef = .bool false := by rw [← hA]; exact (puts_get u 5 10 _ _ (by decide) (by decide) (by kernel_rfl)).trans hJ5
        have hgs : 10 < A.tmps.size := by rw [← hA]; exact puts_room u (by kernel_rfl)
        refine wpOp_skip rfl 5 10 true rfl rfl hgs hgv ?_
        subst hA
        simp only [puts, List.foldl]
        go_simp
        first | exact ⟨rfl, hg, Below.refl _ _⟩ | exact ⟨rfl, hg⟩ | exact ⟨rfl, Below.refl _ _⟩ | exact ⟨rfl, rfl, hg, Below.refl _ _⟩ | exact ⟨hg, Below.refl _ _⟩
      case Os12 =>
        intro u wx hg hC
        have hJ5 : u 5 = (.bool false) := hC.at 5 (by kernel_rfl)
        have hJ11 : u 11 = undef := hC.at 11 (by kernel_rfl)
        clear hC
        refine wpOp_step rfl (fun K hK => ?_)
        simp only [puts, List.foldl]
        go_simp
        exact hK _ _ ⟨rfl, rfl, hg, Below.refl _ _⟩
      case Os13 =>
        intro u wx hg hC
        have hJ12 : u 12 = (.bool false) := hC.at 12 (by kernel_rfl)
        clear hC
        refine wpOp_step rfl (fun K hK => ?_)
        simp only [puts, List.foldl]
        go_simp
        exact hK _ _ ⟨rfl, rfl, hg, Below.refl _ _⟩
    case finO =>
      intro u wx hg hC
      have hC13 : u 13 = .bool false := hC (13, 4) (by decide)
      have B10 : Hid (Below w.heap.size w wx) := Lib.hid (B1.out.next hg)
      clear hg hC
      simp only [puts, List.foldl]
      rw [hC13]
      go_simp
      go_wp2
      go_ret
      exact ⟨rfl, B10.out⟩

end Go.Proofs.YtbcilifdgpfmnaaDoor

/- HeadMatches (gen_head_k.py). -/
namespace Go.Proofs.YtbcilifdgpfmnaaDoor
open Go.RowKit HeadMath NumMath
set_option linter.unusedVariables false
set_option maxRecDepth 100000

set_option maxHeartbeats 1000000 in
theorem headMatches_big (a b c : Int) (s o : ByteArray) (w : World) (hg : Glob w) (h : 1000 < s.size ∨ 1000 < o.size) :
    Calls Tryd.prog 4 #[.agg #[.int .i64 a, .int .i64 b, .int .i64 c], .string s, .string o] w fun e w' => e = .returned (.bool true) ∧ Below w.heap.size w w' := by
  have HG := Lib.hid hg
  clear hg
  by_cases h1 : 1000 < s.size
  · have hb : 1000 < (s.size : Int) := by omega
    have hd : decide (1000 < (s.size : Int)) = true := by simpa using hb
    clear h h1
    go_enter Tryd.func4, Tryd.ntmps4
    go_wp2_with (first
      | ((with_reducible refine wpBoxK (w := w) [Value.int .i64 a, .int .i64 b, .int .i64 c] 23 ?_ ?_); rfl; intro u1 r1 b1 s1; have R1 := Lib.hid r1; have B1 := Lib.hid b1; clear r1 b1 s1)
      | (go_at_call 5; (with_reducible refine (head_awake_any u1 (HG.out.step B1.out)).mono ?_); rintro e u2 ⟨rfl, b2⟩; have R2 := Lib.hid (R1.out.step b2); have B2 : Hid (Below w.heap.size w u2) := Lib.hid (B1.out.next b2); clear b2))
    go_ret
    exact ⟨rfl, B2.out⟩
  · have hb : ¬ 1000 < (s.size : Int) := by omega
    have hd : decide (1000 < (s.size : Int)) = false := by simpa using hb
    have hb2 : 1000 < (o.size : Int) := by omega
    have hd2 : decide (1000 < (o.size : Int)) = true := by simpa using hb2
    clear h h1
    go_enter Tryd.func4, Tryd.ntmps4
    go_wp2_with (first
      | ((with_reducible refine wpBoxK (w := w) [Value.int .i64 a, .int .i64 b, .int .i64 c] 23 ?_ ?_); rfl; intro u1 r1 b1 s1; have R1 := Lib.hid r1; have B1 := Lib.hid b1; clear r1 b1 s1)
      | (go_at_call 5; (with_reducible refine (head_awake_any u1 (HG.out.step B1.out)).mono ?_); rintro e u2 ⟨rfl, b2⟩; have R2 := Lib.hid (R1.out.step b2); have B2 : Hid (Below w.heap.size w u2) := Lib.hid (B1.out.next b2); clear b2))
    go_ret
    exact ⟨rfl, B2.out⟩

set_option maxHeartbeats 4000000 in
theorem headMatches_small (a b c : Int) (s o : ByteArray) (w : World) (hg : Glob w) (hs : s.size ≤ 1000) (ho : o.size ≤ 1000) :
    Calls Tryd.prog 4 #[.agg #[.int .i64 a, .int .i64 b, .int .i64 c], .string s, .string o] w fun e w' => e = .returned (.bool true) ∧ Below w.heap.size w w' := by
  obtain ⟨D, hD⟩ : ∃ D, ShaMath.sha s.data.toList = D := ⟨_, rfl⟩
  obtain ⟨E, hE⟩ : ∃ E, ShaMath.sha o.data.toList = E := ⟨_, rfl⟩
  have lD : D.length = 32 := by rw [← hD, ShaMath.sha_length]
  have lE : E.length = 32 := by rw [← hE, ShaMath.sha_length]
  have HOF : Hid (∀ u, Glob u → Calls Tryd.prog 13 #[.agg #[.int .i64 a, .int .i64 b, .int .i64 c], .string s] u fun e u' => e = .returned (.agg (hdv a b c (s.size : Int) D).toArray) ∧ Below u.heap.size u u') := Lib.hid fun u g => head_of_any a b c s D u hD g (by omega)
  have HRO : Hid (∀ u x y, Wds u (.agg #[x, y]) → Calls Tryd.prog 14 #[.agg #[x, y], .agg #[.int .i64 a, .int .i64 b, .int .i64 c], .string s] u fun e u' => e = .returned (.agg (hdv a b c (s.size : Int) D).toArray) ∧ Below u.heap.size u u') := Lib.hid fun u x y h => rhead_of_any x y a b c s D u hD h (by omega)
  obtain ⟨sm, hsm⟩ : ∃ sm, (decide ((s.size : Int) = (o.size : Int)) && decide (D = E)) = sm := ⟨_, rfl⟩
  have HM1 : Hid (∀ u, Glob u → Calls Tryd.prog 16 #[.agg (hdv a b c (s.size : Int) D).toArray, .string s] u fun e u' => e = .returned (.bool true) ∧ Below u.heap.size u u') := Lib.hid fun u g => head_matches_any a b c _ D s D true u lD hD g (by omega) (by simp)
  have HM2 : Hid (∀ u, Glob u → Calls Tryd.prog 16 #[.agg (hdv a b c (s.size : Int) D).toArray, .string o] u fun e u' => e = .returned (.bool sm) ∧ Below u.heap.size u u') := Lib.hid fun u g => head_matches_any a b c _ D o E sm u lD hE g (by omega) hsm
  have HSU : Hid (∀ u c, Wds u c → Calls Tryd.prog 15 #[c, .string o] u fun e u' => e = .returned (.agg (bytes E).toArray) ∧ Below u.heap.size u u') := Lib.hid fun u c h => refSum_wds c o E u hE (by omega) h
  obtain ⟨r2, hr2⟩ : ∃ r2, decide (E = D) = r2 := ⟨_, rfl⟩
  have HEQ : Hid (∀ u : World, (Op.equalIn 10000 25 (.agg (bytes E).toArray) (.agg (bytes D).toArray)).run Tryd.prog u = .ok r2 u) := Lib.hid (eq_hash2 E D lE lD r2 hr2)
  have hr3 : decide (D = E) = r2 := by rw [← hr2]; exact decide_eq_decide.2 ⟨Eq.symm, Eq.symm⟩
  rw [hr3] at hsm
  have HSM : Hid (∀ u : World, (Op.equalIn 10000 29 (.agg (hdv a b c (s.size : Int) D).toArray) (.agg (hdv a b c (s.size : Int) D).toArray)).run Tryd.prog u = .ok true u) := Lib.hid (rhead_same a b c _ D lD)
  have LZ : Hid ((hdv 0 0 0 0 (List.replicate 32 0)).length = 36) := Lib.hid (hdv_length _ _ _ _ _ (by simp))
  obtain ⟨V, hV⟩ : ∃ V, hdv a b c (s.size : Int) D = V := ⟨_, rfl⟩
  have LV : Hid (V.length = 36) := Lib.hid (by rw [← hV]; exact hdv_length _ _ _ _ _ lD)
  have V1 : Hid (V.all (·.oneCell') = true) := Lib.hid (by rw [← hV]; exact hdv_one _ _ _ _ _)
  have HVM : Hid (V = [Value.int .i64 a, .int .i64 b, .int .i64 c, .int .i64 (s.size : Int)] ++ bytes D ++ []) := Lib.hid (by rw [← hV, List.append_nil]; rfl)
  have LH : Hid ((bytes D).length = 32) := Lib.hid (by rw [bytes_length, lD])
  rw [hV] at HOF HRO HM1 HM2 HSM
  have HZW : Hid (∀ u, (zeroValue 43).run Tryd.prog u = .ok (.agg ([.slice none 0 0, .slice none 0 0] : List Value).toArray) u) := Lib.hid fun u => by kernel_rfl
  have HG := Lib.hid hg
  have hb : (s.size : Int) ≤ 1000 := by omega
  have hb2 : (o.size : Int) ≤ 1000 := by omega
  have hd : decide (1000 < (s.size : Int)) = false := by simpa using hb
  have hd2 : decide (1000 < (o.size : Int)) = false := by simpa using hb2
  clear hg hs ho hD hE lD lE hr2 hr3 hV
  go_enter Tryd.func4, Tryd.ntmps4
  go_wp2_with (first
    | ((with_reducible refine wpBoxK (w := w) [Value.int .i64 a, .int .i64 b, .int .i64 c] 23 ?_ ?_); rfl; intro u1 r1 b1 s1; have R1 := Lib.hid r1; have B1 := Lib.hid b1; clear r1 b1 s1)
    | (go_at_call 5; (with_reducible refine (head_awake_any u1 (HG.out.step B1.out)).mono ?_); rintro e u2 ⟨rfl, b2⟩; have R2 := Lib.hid (R1.out.step b2); have B2 : Hid (Below w.heap.size w u2) := Lib.hid (B1.out.next b2); clear b2)
    | (go_at_call 12; (with_reducible refine (refNew_any u2).mono ?_); rintro e u3 ⟨cv, rfl, hcv, b3⟩; obtain ⟨ap, ac, bp, bc, rfl, wa, wb⟩ := hcv; have W3 : Hid (Wds u3 (.agg #[.slice ap 8 ac, .slice bp 64 bc])) := Lib.hid ⟨ap, ac, bp, bc, rfl, wa, wb⟩; have R3 := Lib.hid (R2.out.step b3); have B3 : Hid (Below w.heap.size w u3) := Lib.hid (B2.out.next b3); clear b3 wa wb)
    | ((with_reducible refine wpAllocK (w := u3) [.slice none 0 0, .slice none 0 0] 43 HZW.out ?_ ?_); rfl; intro u4 r4 b4 s4; have C4 := Lib.hid r4; have R4 := Lib.hid (R3.out.step b4); have B34 := Lib.hid b4; have B4 : Hid (Below w.heap.size w u4) := Lib.hid (B3.out.next b4); clear r4 b4 s4)
    | ((with_reducible refine C4.out.wpStoreK 43 [.slice ap 8 ac, .slice bp 64 bc] fits_words2 rfl rfl rfl ?_ ?_); rfl; intro u5 r5 o5 s5; have C5 := Lib.hid r5; have R5 := Lib.hid (R4.out.only o5 (by have := R3.out.lt; omega)); have W5 := Lib.hid (W3.out.step (B34.out.trans (o5.below (Nat.le_refl _) B34.out.size))); have B5 : Hid (Below w.heap.size w u5) := Lib.hid (B4.out.trans (o5.below B3.out.size B4.out.size)); clear r5 o5 s5)
    | ((with_reducible refine R5.out.wpLoadK 23 fits_ver rfl ?_ ?_); rfl)
    | (go_at_call 13; (with_reducible refine (HOF.out u5 (HG.out.step B5.out)).mono ?_); rintro e u6 ⟨rfl, b6⟩; have R6 := Lib.hid (R5.out.step b6); have C6 := Lib.hid (C5.out.step b6); have W6 := Lib.hid (W5.out.step b6); have B6 : Hid (Below w.heap.size w u6) := Lib.hid (B5.out.next b6); clear b6)
    | ((with_reducible refine wpAllocK (w := u6) (hdv 0 0 0 0 (List.replicate 32 0)) 27 zero_head ?_ ?_); rfl; intro u7 r7 b7 s7; have G7 := Lib.hid r7; have R7 := Lib.hid (R6.out.step b7); have C7 := Lib.hid (C6.out.step b7); have B67 := Lib.hid b7; have B7 : Hid (Below w.heap.size w u7) := Lib.hid (B6.out.next b7); clear r7 b7 s7)
    | ((with_reducible refine G7.out.wpStoreK 27 V fits_head LZ.out LV.out V1.out ?_ ?_); rfl; intro u8 r8 o8 s8; have G8 := Lib.hid r8; have q8 : Below u6.heap.size u6 u8 := B67.out.trans (o8.below (Nat.le_refl _) B67.out.size); have R8 := Lib.hid (R6.out.step q8); have C8 := Lib.hid (C6.out.step q8); have W8 := Lib.hid (W6.out.step q8); have B8 : Hid (Below w.heap.size w u8) := Lib.hid (B6.out.next q8); clear r8 o8 s8 q8)
    | ((with_reducible refine C8.out.wpLoadK 43 fits_words2 rfl ?_ ?_); rfl)
    | ((with_reducible refine R8.out.wpLoadK 23 fits_ver rfl ?_ ?_); rfl)
    | (go_at_call 14; (with_reducible refine (HRO.out u8 _ _ W8.out).mono ?_); rintro e u9 ⟨rfl, b9⟩; have G9 := Lib.hid (G8.out.step b9); have C9 := Lib.hid (C8.out.step b9); have W9 := Lib.hid (W8.out.step b9); have B9 : Hid (Below w.heap.size w u9) := Lib.hid (B8.out.next b9); clear b9)
    | ((with_reducible refine wpAllocK (w := u9) (hdv 0 0 0 0 (List.replicate 32 0)) 29 zero_rhead ?_ ?_); rfl; intro u10 r10 b10 s10; have K10 := Lib.hid r10; have B910 := Lib.hid b10; clear r10 b10 s10)
    | ((with_reducible refine K10.out.wpStoreK 29 V fits_rhead LZ.out LV.out V1.out ?_ ?_); rfl; intro u11 r11 o11 s11; have K11 := Lib.hid r11; have q11 : Below u9.heap.size u9 u11 := B910.out.trans (o11.below (Nat.le_refl _) B910.out.size); have G11 := Lib.hid (G9.out.step q11); have C11 := Lib.hid (C9.out.step q11); have W11 := Lib.hid (W9.out.step q11); have B11 : Hid (Below w.heap.size w u11) := Lib.hid (B9.out.next q11); clear r11 o11 s11 q11))
  have KM : Hid (Row u11 u9.heap.size 29 ([Value.int .i64 a, .int .i64 b, .int .i64 c, .int .i64 (s.size : Int)] ++ bytes D ++ [])) := Lib.hid (by rw [← HVM.out]; exact K11.out)
  clear hd hd2
  by_cases hn : (o.size : Int) = (s.size : Int)
  · have hnd : ((o.size : Int) == (s.size : Int)) = true := by simpa using hn
    have hss : sm = r2 := by rw [← hsm]; simp [hn]
    clear hsm hn
    subst hss
    refine region_invX [(0, 29), (1, 30), (2, 31), (3, 32), (4, 33), (5, 34), (6, 35), (7, 36), (8, 37), (9, 38), (10, 39), (11, 40), (12, 41), (13, 10)]
      (fun ii => [Is (.string o), Is (.int .i64 (o.size : Int)), Is (.string s), Is (.int .i64 (s.size : Int)), Is (.bool true), Is (.bool true), Is (.agg ([Value.slice ap 8 ac, .slice bp 64 bc]).toArray), Is (.string o), Is (.agg (bytes E).toArray), Is (.pointer (some ⟨u9.heap.size, 4, none⟩)), Is (.agg (bytes D).toArray), Is (.bool sm), Is (.bool sm), Is (.bool sm)].getD ii (Is undef))
      (fun w' => Below u11.heap.size u11 w') (by kernel_rfl) (by kernel_rfl) (by decide) (by decide) (by kernel_rfl) rfl ?monoR ((Below.refl _ _).drew) ?stepR ?finR
    case monoR =>
      intro i
      match i with
      | 0 | 1 | 2 | 3 | 4 | 5 | 6 | 7 | 8 | 9 | 10 | 11 | 12 | 13 => exact Is.monot _
      | _ + 14 => exact Is.monot _
    case stepR =>
      refine List.forall_mem_cons.2 ⟨?Rs0, List.forall_mem_cons.2 ⟨?Rs1, List.forall_mem_cons.2 ⟨?Rs2, List.forall_mem_cons.2 ⟨?Rs3, List.forall_mem_cons.2 ⟨?Rs4, List.forall_mem_cons.2 ⟨?Rs5, List.forall_mem_cons.2 ⟨?Rs6, List.forall_mem_cons.2 ⟨?Rs7, List.forall_mem_cons.2 ⟨?Rs8, List.forall_mem_cons.2 ⟨?Rs9, List.forall_mem_cons.2 ⟨?Rs10, List.forall_mem_cons.2 ⟨?Rs11, List.forall_mem_cons.2 ⟨?Rs12, List.forall_mem_cons.2 ⟨?Rs13, List.forall_mem_nil _⟩⟩⟩⟩⟩⟩⟩⟩⟩⟩⟩⟩⟩⟩
      case Rs0 =>
        intro u wx hg hC
        clear hC
        refine wpOp_step rfl (fun K hK => ?_)
        simp only [puts, List.foldl]
        go_simp
        exact hK _ _ ⟨rfl, rfl, hg, Below.refl _ _⟩
      case Rs1 =>
        intro u wx hg hC
        have hJ0 : u 0 = (.string o) := hC.at 0 (by kernel_rfl)
        clear hC
        refine wpOp_step rfl (fun K hK => ?_)
        simp only [puts, List.foldl]
        go_simp
        exact hK _ _ ⟨rfl, rfl, hg, Below.refl _ _⟩
      case Rs2 =>
        intro u wx hg hC
        clear hC
        refine wpOp_step rfl (fun K hK => ?_)
        simp only [puts, List.foldl]
        go_simp
        exact hK _ _ ⟨rfl, rfl, hg, Below.refl _ _⟩
      case Rs3 =>
        intro u wx hg hC
        have hJ2 : u 2 = (.string s) := hC.at 2 (by kernel_rfl)
        clear hC
        refine wpOp_step rfl (fun K hK => ?_)
        simp only [puts, List.foldl]
        go_simp
        exact hK _ _ ⟨rfl, rfl, hg, Below.refl _ _⟩
      case Rs4 =>
        intro u wx hg hC
        have hJ1 : u 1 = (.int .i64 (o.size : Int)) := hC.at 1 (by kernel_rfl)
        have hJ3 : u 3 = (.int .i64 (s.size : Int)) := hC.at 3 (by kernel_rfl)
        clear hC
        refine wpOp_step rfl (fun K hK => ?_)
        simp only [puts, List.foldl]
        go_simp
        exact hK _ _ ⟨rfl, rfl, hg, Below.refl _ _⟩
      case Rs5 =>
        intro u wx hg hC
        have hJ4 : u 4 = (.bool true) := hC.at 4 (by kernel_rfl)
        clear hC
        refine wpOp_step rfl (fun K hK => ?_)
        simp only [puts, List.foldl]
        go_simp
        exact hK _ _ ⟨rfl, rfl, hg, Below.refl _ _⟩
      case Rs6 =>
        intro u wx hg hC
        have hJ5 : u 5 = (.bool true) := hC.at 5 (by kernel_rfl)
        clear hC
        generalize hA : puts [(0, 29), (1, 30), (2, 31), (3, 32), (4, 33), (5, 34), (6, 35), (7, 36), (8, 37), (9, 38), (10, 39), (11, 40), (12, 41), (13, 10)] _ u = A
        have hgv : A.tmps.getD 34 undef = .bool true := by rw [← hA]; exact (puts_get u 5 34 _ _ (by decide) (by decide) (by kernel_rfl)).trans hJ5
        have hgs : 34 < A.tmps.size := by rw [← hA]; exact puts_room u (by kernel_rfl)
        have hp : A.tmps.getD 7 undef = (.pointer (some ⟨u3.heap.size, 0, none⟩)) := by rw [← hA]; exact (puts_get_out u _ _ 7 (by decide)).trans (by rfl)
        have hsz : 35 < A.tmps.size := by rw [← hA]; exact puts_room u (by kernel_rfl)
        refine wpOp_guard rfl 5 34 true rfl rfl hgs hgv (fun K hK => ?_)
        clear hA
        exact opLoadK (φ := Is (.agg ([Value.slice ap 8 ac, .slice bp 64 bc]).toArray)) (C11.out.step hg) _ (fits_words2) (rfl) 35 rfl hsz hK (.tmp 7) rfl hp rfl hg
      case Rs7 =>
        intro u wx hg hC
        have hJ5 : u 5 = (.bool true) := hC.at 5 (by kernel_rfl)
        clear hC
        generalize hA : puts [(0, 29), (1, 30), (2, 31), (3, 32), (4, 33), (5, 34), (6, 35), (7, 36), (8, 37), (9, 38), (10, 39), (11, 40), (12, 41), (13, 10)] _ u = A
        have hgv : A.tmps.getD 34 undef = .bool true := by rw [← hA]; exact (puts_get u 5 34 _ _ (by decide) (by decide) (by kernel_rfl)).trans hJ5
        have hgs : 34 < A.tmps.size := by rw [← hA]; exact puts_room u (by kernel_rfl)
        refine wpOp_guard rfl 5 34 true rfl rfl hgs hgv (fun K hK => ?_)
        subst hA
        simp only [puts, List.foldl]
        go_simp
        exact hK _ _ ⟨rfl, rfl, hg, Below.refl _ _⟩
      case Rs8 =>
        intro u wx hg hC
        have hJ5 : u 5 = (.bool true) := hC.at 5 (by kernel_rfl)
        have hJ6 : u 6 = (.agg ([Value.slice ap 8 ac, .slice bp 64 bc]).toArray) := hC.at 6 (by kernel_rfl)
        have hJ7 : u 7 = (.string o) := hC.at 7 (by kernel_rfl)
        clear hC
        generalize hA : puts [(0, 29), (1, 30), (2, 31), (3, 32), (4, 33), (5, 34), (6, 35), (7, 36), (8, 37), (9, 38), (10, 39), (11, 40), (12, 41), (13, 10)] _ u = A
        have hgv : A.tmps.getD 34 undef = .bool true := by rw [← hA]; exact (puts_get u 5 34 _ _ (by decide) (by decide) (by kernel_rfl)).trans hJ5
        have hgs : 34 < A.tmps.size := by rw [← hA]; exact puts_room u (by kernel_rfl)
        refine wpOp_guard rfl 5 34 true rfl rfl hgs hgv (fun K hK => ?_)
        subst hA
        simp only [puts, List.foldl]
        go_simp
        refine (HSU.out wx _ (W11.out.step hg)).mono ?_
        rintro e w' ⟨rfl, hb'⟩
        exact hK _ _ ⟨rfl, rfl, hg.next hb', hb'⟩
      case Rs9 =>
        intro u wx hg hC
        have hJ5 : u 5 = (.bool true) := hC.at 5 (by kernel_rfl)
        clear hC
        generalize hA : puts [(0, 29), (1, 30), (2, 31), (3, 32), (4, 33), (5, 34), (6, 35), (7, 36), (8, 37), (9, 38), (10, 39), (11, 40), (12, 41), (13, 10)] _ u = A
        have hgv : A.tmps.getD 34 undef = .bool true := by rw [← hA]; exact (puts_get u 5 34 _ _ (by decide) (by decide) (by kernel_rfl)).trans hJ5
        have hgs : 34 < A.tmps.size := by rw [← hA]; exact puts_room u (by kernel_rfl)
        refine wpOp_guard rfl 5 34 true rfl rfl hgs hgv (fun K hK => ?_)
        subst hA
        simp only [puts, List.foldl]
        go_simp
        exact hK _ _ ⟨rfl, rfl, hg, Below.refl _ _⟩
      case Rs10 =>
        intro u wx hg hC
        have hJ5 : u 5 = (.bool true) := hC.at 5 (by kernel_rfl)
        have hJ9 : u 9 = (.pointer (some ⟨u9.heap.size, 4, none⟩)) := hC.at 9 (by kernel_rfl)
        clear hC
        generalize hA : puts [(0, 29), (1, 30), (2, 31), (3, 32), (4, 33), (5, 34), (6, 35), (7, 36), (8, 37), (9, 38), (10, 39), (11, 40), (12, 41), (13, 10)] _ u = A
        have hgv : A.tmps.getD 34 undef = .bool true := by rw [← hA]; exact (puts_get u 5 34 _ _ (by decide) (by decide) (by kernel_rfl)).trans hJ5
        have hgs : 34 < A.tmps.size := by rw [← hA]; exact puts_room u (by kernel_rfl)
        have hp : A.tmps.getD 38 undef = (.pointer (some ⟨u9.heap.size, 4, none⟩)) := by rw [← hA]; exact (puts_get u 9 38 _ _ (by decide) (by decide) (by kernel_rfl)).trans hJ9
        have hsz : 39 < A.tmps.size := by rw [← hA]; exact puts_room u (by kernel_rfl)
        refine wpOp_guard rfl 5 34 true rfl rfl hgs hgv (fun K hK => ?_)
        clear hA
        exact opLoadRK (φ := Is (.agg (bytes D).toArray)) ((KM.out.step hg).mid 4 rfl) _ (fits_hash) (LH.out) 39 rfl hsz hK (.tmp 38) rfl hp rfl hg
      case Rs11 =>
        intro u wx hg hC
        have hJ5 : u 5 = (.bool true) := hC.at 5 (by kernel_rfl)
        have hJ8 : u 8 = (.agg (bytes E).toArray) := hC.at 8 (by kernel_rfl)
        have hJ10 : u 10 = (.agg (bytes D).toArray) := hC.at 10 (by kernel_rfl)
        clear hC
        have heq := HEQ.out
        generalize hA : puts [(0, 29), (1, 30), (2, 31), (3, 32), (4, 33), (5, 34), (6, 35), (7, 36), (8, 37), (9, 38), (10, 39), (11, 40), (12, 41), (13, 10)] _ u = A
        have hgv : A.tmps.getD 34 undef = .bool true := by rw [← hA]; exact (puts_get u 5 34 _ _ (by decide) (by decide) (by kernel_rfl)).trans hJ5
        have hgs : 34 < A.tmps.size := by rw [← hA]; exact puts_room u (by kernel_rfl)
        refine wpOp_guard rfl 5 34 true rfl rfl hgs hgv (fun K hK => ?_)
        subst hA
        simp only [puts, List.foldl]
        go_simp
        exact hK _ _ ⟨rfl, rfl, hg, Below.refl _ _⟩
      case Rs12 =>
        intro u wx hg hC
        have hJ5 : u 5 = (.bool true) := hC.at 5 (by kernel_rfl)
        have hJ11 : u 11 = (.bool sm) := hC.at 11 (by kernel_rfl)
        clear hC
        refine wpOp_step rfl (fun K hK => ?_)
        simp only [puts, List.foldl]
        go_simp
        exact hK _ _ ⟨rfl, rfl, hg, Below.refl _ _⟩
      case Rs13 =>
        intro u wx hg hC
        have hJ12 : u 12 = (.bool sm) := hC.at 12 (by kernel_rfl)
        clear hC
        refine wpOp_step rfl (fun K hK => ?_)
        simp only [puts, List.foldl]
        go_simp
        exact hK _ _ ⟨rfl, rfl, hg, Below.refl _ _⟩
    case finR =>
      intro u wx hg hC
      have hC13 : u 13 = .bool sm := hC (13, 10) (by decide)
      have GX := Lib.hid (G11.out.step hg)
      have KX := Lib.hid (K11.out.step hg)
      have BX : Hid (Below w.heap.size w wx) := Lib.hid (B11.out.next hg)
      have hsq := HSM.out
      clear hg hC
      simp only [puts, List.foldl]
      rw [hC13]
      go_simp
      go_wp2_with (first
        | ((with_reducible refine GX.out.wpLoadK 27 fits_head LV.out ?_ ?_); rfl)
        | ((with_reducible refine KX.out.wpLoadK 29 fits_rhead LV.out ?_ ?_); rfl)
        | ((with_reducible refine GX.out.wpLoadG 27 fits_head LV.out ?_ ?_); rfl)
        | (go_at_call 16; (with_reducible refine (HM1.out wx (HG.out.step BX.out)).mono ?_); rintro e u20 ⟨rfl, b20⟩; have GY := Lib.hid (GX.out.step b20); have B20 : Hid (Below w.heap.size w u20) := Lib.hid (BX.out.next b20); clear b20)
        | ((with_reducible refine GY.out.wpLoadG 27 fits_head LV.out ?_ ?_); rfl)
        | (go_at_call 16; (with_reducible refine (HM2.out u20 (HG.out.step B20.out)).mono ?_); rintro e u21 ⟨rfl, b21⟩; have B21 : Hid (Below w.heap.size w u21) := Lib.hid (B20.out.next b21); clear b21))
      go_ret
      exact ⟨by simp, B21.out⟩
  · have hnd : ((o.size : Int) == (s.size : Int)) = false := by simpa using hn
    have hss : sm = false := by rw [← hsm]; simp [Ne.symm hn]
    clear hsm hn
    subst hss
    refine region_invX [(0, 29), (1, 30), (2, 31), (3, 32), (4, 33), (5, 34), (6, 35), (7, 36), (8, 37), (9, 38), (10, 39), (11, 40), (12, 41), (13, 10)]
      (fun ii => [Is (.string o), Is (.int .i64 (o.size : Int)), Is (.string s), Is (.int .i64 (s.size : Int)), Is (.bool false), Is (.bool false), Is undef, Is undef, Is undef, Is undef, Is undef, Is undef, Is (.bool false), Is (.bool false)].getD ii (Is undef))
      (fun w' => Below u11.heap.size u11 w') (by kernel_rfl) (by kernel_rfl) (by decide) (by decide) (by kernel_rfl) rfl ?monoS ((Below.refl _ _).drew) ?stepS ?finS
    case monoS =>
      intro i
      match i with
      | 0 | 1 | 2 | 3 | 4 | 5 | 6 | 7 | 8 | 9 | 10 | 11 | 12 | 13 => exact Is.monot _
      | _ + 14 => exact Is.monot _
    case stepS =>
      refine List.forall_mem_cons.2 ⟨?Ss0, List.forall_mem_cons.2 ⟨?Ss1, List.forall_mem_cons.2 ⟨?Ss2, List.forall_mem_cons.2 ⟨?Ss3, List.forall_mem_cons.2 ⟨?Ss4, List.forall_mem_cons.2 ⟨?Ss5, List.forall_mem_cons.2 ⟨?Ss6, List.forall_mem_cons.2 ⟨?Ss7, List.forall_mem_cons.2 ⟨?Ss8, List.forall_mem_cons.2 ⟨?Ss9, List.forall_mem_cons.2 ⟨?Ss10, List.forall_mem_cons.2 ⟨?Ss11, List.forall_mem_cons.2 ⟨?Ss12, List.forall_mem_cons.2 ⟨?Ss13, List.forall_mem_nil _⟩⟩⟩⟩⟩⟩⟩⟩⟩⟩⟩⟩⟩⟩
      case Ss0 =>
        intro u wx hg hC
        clear hC
        refine wpOp_step rfl (fun K hK => ?_)
        simp only [puts, List.foldl]
        go_simp
        exact hK _ _ ⟨rfl, rfl, hg, Below.refl _ _⟩
      case Ss1 =>
        intro u wx hg hC
        have hJ0 : u 0 = (.string o) := hC.at 0 (by kernel_rfl)
        clear hC
        refine wpOp_step rfl (fun K hK => ?_)
        simp only [puts, List.foldl]
        go_simp
        exact hK _ _ ⟨rfl, rfl, hg, Below.refl _ _⟩
      case Ss2 =>
        intro u wx hg hC
        clear hC
        refine wpOp_step rfl (fun K hK => ?_)
        simp only [puts, List.foldl]
        go_simp
        exact hK _ _ ⟨rfl, rfl, hg, Below.refl _ _⟩
      case Ss3 =>
        intro u wx hg hC
        have hJ2 : u 2 = (.string s) := hC.at 2 (by kernel_rfl)
        clear hC
        refine wpOp_step rfl (fun K hK => ?_)
        simp only [puts, List.foldl]
        go_simp
        exact hK _ _ ⟨rfl, rfl, hg, Below.refl _ _⟩
      case Ss4 =>
        intro u wx hg hC
        have hJ1 : u 1 = (.int .i64 (o.size : Int)) := hC.at 1 (by kernel_rfl)
        have hJ3 : u 3 = (.int .i64 (s.size : Int)) := hC.at 3 (by kernel_rfl)
        clear hC
        refine wpOp_step rfl (fun K hK => ?_)
        simp only [puts, List.foldl]
        go_simp
        exact hK _ _ ⟨rfl, rfl, hg, Below.refl _ _⟩
      case Ss5 =>
        intro u wx hg hC
        have hJ4 : u 4 = (.bool false) := hC.at 4 (by kernel_rfl)
        clear hC
        refine wpOp_step rfl (fun K hK => ?_)
        simp only [puts, List.foldl]
        go_simp
        exact hK _ _ ⟨rfl, rfl, hg, Below.refl _ _⟩
      case Ss6 =>
        intro u wx hg hC
        have hJ5 : u 5 = (.bool false) := hC.at 5 (by kernel_rfl)
        clear hC
        generalize hA : puts [(0, 29), (1, 30), (2, 31), (3, 32), (4, 33), (5, 34), (6, 35), (7, 36), (8, 37), (9, 38), (10, 39), (11, 40), (12, 41), (13, 10)] _ u = A
        have hgv : A.tmps.getD 34 undef = .bool false := by rw [← hA]; exact (puts_get u 5 34 _ _ (by decide) (by decide) (by kernel_rfl)).trans hJ5
        have hgs : 34 < A.tmps.size := by rw [← hA]; exact puts_room u (by kernel_rfl)
        refine wpOp_skip rfl 5 34 true rfl rfl hgs hgv ?_
        subst hA
        simp only [puts, List.foldl]
        go_simp
        first | exact ⟨rfl, hg, Below.refl _ _⟩ | exact ⟨rfl, hg⟩ | exact ⟨rfl, Below.refl _ _⟩ | exact ⟨rfl, rfl, hg, Below.refl _ _⟩ | exact ⟨hg, Below.refl _ _⟩
      case Ss7 =>
        intro u wx hg hC
        have hJ5 : u 5 = (.bool false) := hC.at 5 (by kernel_rfl)
        clear hC
        generalize hA : puts [(0, 29), (1, 30), (2, 31), (3, 32), (4, 33), (5, 34), (6, 35), (7, 36), (8, 37), (9, 38), (10, 39), (11, 40), (12, 41), (13, 10)] _ u = A
        have hgv : A.tmps.getD 34 undef = .bool false := by rw [← hA]; exact (puts_get u 5 34 _ _ (by decide) (by decide) (by kernel_rfl)).trans hJ5
        have hgs : 34 < A.tmps.size := by rw [← hA]; exact puts_room u (by kernel_rfl)
        refine wpOp_skip rfl 5 34 true rfl rfl hgs hgv ?_
        subst hA
        simp only [puts, List.foldl]
        go_simp
        first | exact ⟨rfl, hg, Below.refl _ _⟩ | exact ⟨rfl, hg⟩ | exact ⟨rfl, Below.refl _ _⟩ | exact ⟨rfl, rfl, hg, Below.refl _ _⟩ | exact ⟨hg, Below.refl _ _⟩
      case Ss8 =>
        intro u wx hg hC
        have hJ5 : u 5 = (.bool false) := hC.at 5 (by kernel_rfl)
        clear hC
        generalize hA : puts [(0, 29), (1, 30), (2, 31), (3, 32), (4, 33), (5, 34), (6, 35), (7, 36), (8, 37), (9, 38), (10, 39), (11, 40), (12, 41), (13, 10)] _ u = A
        have hgv : A.tmps.getD 34 undef = .bool false := by rw [← hA]; exact (puts_get u 5 34 _ _ (by decide) (by decide) (by kernel_rfl)).trans hJ5
        have hgs : 34 < A.tmps.size := by rw [← hA]; exact puts_room u (by kernel_rfl)
        refine wpOp_skip rfl 5 34 true rfl rfl hgs hgv ?_
        subst hA
        simp only [puts, List.foldl]
        go_simp
        first | exact ⟨rfl, hg, Below.refl _ _⟩ | exact ⟨rfl, hg⟩ | exact ⟨rfl, Below.refl _ _⟩ | exact ⟨rfl, rfl, hg, Below.refl _ _⟩ | exact ⟨hg, Below.refl _ _⟩
      case Ss9 =>
        intro u wx hg hC
        have hJ5 : u 5 = (.bool false) := hC.at 5 (by kernel_rfl)
        clear hC
        generalize hA : puts [(0, 29), (1, 30), (2, 31), (3, 32), (4, 33), (5, 34), (6, 35), (7, 36), (8, 37), (9, 38), (10, 39), (11, 40), (12, 41), (13, 10)] _ u = A
        have hgv : A.tmps.getD 34 undef = .bool false := by rw [← hA]; exact (puts_get u 5 34 _ _ (by decide) (by decide) (by kernel_rfl)).trans hJ5
        have hgs : 34 < A.tmps.size := by rw [← hA]; exact puts_room u (by kernel_rfl)
        refine wpOp_skip rfl 5 34 true rfl rfl hgs hgv ?_
        subst hA
        simp only [puts, List.foldl]
        go_simp
        first | exact ⟨rfl, hg, Below.refl _ _⟩ | exact ⟨rfl, hg⟩ | exact ⟨rfl, Below.refl _ _⟩ | exact ⟨rfl, rfl, hg, Below.refl _ _⟩ | exact ⟨hg, Below.refl _ _⟩
      case Ss10 =>
        intro u wx hg hC
        have hJ5 : u 5 = (.bool false) := hC.at 5 (by kernel_rfl)
        clear hC
        generalize hA : puts [(0, 29), (1, 30), (2, 31), (3, 32), (4, 33), (5, 34), (6, 35), (7, 36), (8, 37), (9, 38), (10, 39), (11, 40), (12, 41), (13, 10)] _ u = A
        have hgv : A.tmps.getD 34 undef = .bool false := by rw [← hA]; exact (puts_get u 5 34 _ _ (by decide) (by decide) (by kernel_rfl)).trans hJ5
        have hgs : 34 < A.tmps.size := by rw [← hA]; exact puts_room u (by kernel_rfl)
        refine wpOp_skip rfl 5 34 true rfl rfl hgs hgv ?_
        subst hA
        simp only [puts, List.foldl]
        go_simp
        first | exact ⟨rfl, hg, Below.refl _ _⟩ | exact ⟨rfl, hg⟩ | exact ⟨rfl, Below.refl _ _⟩ | exact ⟨rfl, rfl, hg, Below.refl _ _⟩ | exact ⟨hg, Below.refl _ _⟩
      case Ss11 =>
        intro u wx hg hC
        have hJ5 : u 5 = (.bool false) := hC.at 5 (by kernel_rfl)
        clear hC
        generalize hA : puts [(0, 29), (1, 30), (2, 31), (3, 32), (4, 33), (5, 34), (6, 35), (7, 36), (8, 37), (9, 38), (10, 39), (11, 40), (12, 41), (13, 10)] _ u = A
        have hgv : A.tmps.getD 34 undef = .bool false := by rw [← hA]; exact (puts_get u 5 34 _ _ (by decide) (by decide) (by kernel_rfl)).trans hJ5
        have hgs : 34 < A.tmps.size := by rw [← hA]; exact puts_room u (by kernel_rfl)
        refine wpOp_skip rfl 5 34 true rfl rfl hgs hgv ?_
        subst hA
        simp only [puts, List.foldl]
        go_simp
        first | exact ⟨rfl, hg, Below.refl _ _⟩ | exact ⟨rfl, hg⟩ | exact ⟨rfl, Below.refl _ _⟩ | exact ⟨rfl, rfl, hg, Below.refl _ _⟩ | exact ⟨hg, Below.refl _ _⟩
      case Ss12 =>
        intro u wx hg hC
        have hJ5 : u 5 = (.bool false) := hC.at 5 (by kernel_rfl)
        have hJ11 : u 11 = undef := hC.at 11 (by kernel_rfl)
        clear hC
        refine wpOp_step rfl (fun K hK => ?_)
        simp only [puts, List.foldl]
        go_simp
        exact hK _ _ ⟨rfl, rfl, hg, Below.refl _ _⟩
      case Ss13 =>
        intro u wx hg hC
        have hJ12 : u 12 = (.bool false) := hC.at 12 (by kernel_rfl)
        clear hC
        refine wpOp_step rfl (fun K hK => ?_)
        simp only [puts, List.foldl]
        go_simp
        exact hK _ _ ⟨rfl, rfl, hg, Below.refl _ _⟩
    case finS =>
      intro u wx hg hC
      have hC13 : u 13 = .bool false := hC (13, 10) (by decide)
      have GX := Lib.hid (G11.out.step hg)
      have KX := Lib.hid (K11.out.step hg)
      have BX : Hid (Below w.heap.size w wx) := Lib.hid (B11.out.next hg)
      have hsq := HSM.out
      clear hg hC
      simp only [puts, List.foldl]
      rw [hC13]
      go_simp
      go_wp2_with (first
        | ((with_reducible refine GX.out.wpLoadK 27 fits_head LV.out ?_ ?_); rfl)
        | ((with_reducible refine KX.out.wpLoadK 29 fits_rhead LV.out ?_ ?_); rfl)
        | ((with_reducible refine GX.out.wpLoadG 27 fits_head LV.out ?_ ?_); rfl)
        | (go_at_call 16; (with_reducible refine (HM1.out wx (HG.out.step BX.out)).mono ?_); rintro e u20 ⟨rfl, b20⟩; have GY := Lib.hid (GX.out.step b20); have B20 : Hid (Below w.heap.size w u20) := Lib.hid (BX.out.next b20); clear b20)
        | ((with_reducible refine GY.out.wpLoadG 27 fits_head LV.out ?_ ?_); rfl)
        | (go_at_call 16; (with_reducible refine (HM2.out u20 (HG.out.step B20.out)).mono ?_); rintro e u21 ⟨rfl, b21⟩; have B21 : Hid (Below w.heap.size w u21) := Lib.hid (B20.out.next b21); clear b21))
      go_ret
      exact ⟨by simp, B21.out⟩

theorem headMatches_walk (a b c : Int) (s o : ByteArray) (w : World) (hg : Glob w) (hs : s.size ≤ 140737488351232) (ho : o.size ≤ 140737488351232) :
    Calls Tryd.prog 4 #[.agg #[.int .i64 a, .int .i64 b, .int .i64 c], .string s, .string o] w fun e w' => e = .returned (.bool true) ∧ Below w.heap.size w w' := by
  by_cases h : 1000 < s.size ∨ 1000 < o.size
  · exact headMatches_big a b c s o w hg h
  · exact headMatches_small a b c s o w hg (by omega) (by omega)
end Go.Proofs.YtbcilifdgpfmnaaDoor
