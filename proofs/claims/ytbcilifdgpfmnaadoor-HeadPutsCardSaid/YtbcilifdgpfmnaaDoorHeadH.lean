/- Of (gen_head_h.py). -/
import Derived.Test.YtbcilifdgpfmnaaDoorHeadG
import Derived.Test.YtbcilifdgpfmnaaDoorLst
namespace Go.Proofs.YtbcilifdgpfmnaaDoor
open Go.RowKit HeadMath NumMath
set_option linter.unusedVariables false
set_option maxRecDepth 100000

theorem built_head32 (a b c n : Int) (h0 h1 h2 h3 h4 h5 h6 h7 h8 h9 h10 h11 h12 h13 h14 h15 h16 h17 h18 h19 h20 h21 h22 h23 h24 h25 h26 h27 h28 h29 h30 h31 : UInt8) : Tryd.prog.built 27 [(0, .agg #[.int .i64 a, .int .i64 b, .int .i64 c]), (1, .int .i64 n), (2, .agg (bytes [h0, h1, h2, h3, h4, h5, h6, h7, h8, h9, h10, h11, h12, h13, h14, h15, h16, h17, h18, h19, h20, h21, h22, h23, h24, h25, h26, h27, h28, h29, h30, h31]).toArray)] = some (hdv a b c n [h0, h1, h2, h3, h4, h5, h6, h7, h8, h9, h10, h11, h12, h13, h14, h15, h16, h17, h18, h19, h20, h21, h22, h23, h24, h25, h26, h27, h28, h29, h30, h31]).toArray := by kernel_rfl
theorem built_head (a b c n : Int) (H : List UInt8) (hH : H.length = 32) : Tryd.prog.built 27 [(0, .agg #[.int .i64 a, .int .i64 b, .int .i64 c]), (1, .int .i64 n), (2, .agg (bytes H).toArray)] = some (hdv a b c n H).toArray :=
  match H, hH with
  | [h0, h1, h2, h3, h4, h5, h6, h7, h8, h9, h10, h11, h12, h13, h14, h15, h16, h17, h18, h19, h20, h21, h22, h23, h24, h25, h26, h27, h28, h29, h30, h31], _ => built_head32 a b c n h0 h1 h2 h3 h4 h5 h6 h7 h8 h9 h10 h11 h12 h13 h14 h15 h16 h17 h18 h19 h20 h21 h22 h23 h24 h25 h26 h27 h28 h29 h30 h31
theorem sum_lst (s : ByteArray) (D : List UInt8) (v : Value) (w : World) (hD : ShaMath.sha s.data.toList = D) (hg : Glob w) (ht : s.size ≤ 1000000) (hv : Lst [.string s] v w) :
    Calls Tryd.prog 23 #[v] w fun e w' => e = .returned (.agg (bytes D).toArray) ∧ Below w.heap.size w w' := by
  obtain ⟨g, n, rfl, hn, hl⟩ := hv
  obtain rfl : 1 = n := hn
  have e : cat [s] = s.data.toList := cat_one s
  exact sum_list (some ⟨g, 0, none⟩) 1 1 [s] D w rfl (by rw [e, hD]) hg ⟨by omega⟩ ⟨by rw [e, size_list]; omega⟩ hl

set_option maxHeartbeats 1000000 in
theorem head_of_any (a b c : Int) (s : ByteArray) (D : List UInt8) (w : World) (hD : ShaMath.sha s.data.toList = D) (hg : Glob w) (hs : s.size ≤ 1000000) :
    Calls Tryd.prog 13 #[.agg #[.int .i64 a, .int .i64 b, .int .i64 c], .string s] w fun e w' => e = .returned (.agg (hdv a b c (s.size : Int) D).toArray) ∧ Below w.heap.size w w' := by
  have lD : D.length = 32 := by rw [← hD, ShaMath.sha_length]
  have HSUM : Hid (∀ wx v, Glob wx → Lst [.string s] v wx → Calls Tryd.prog 23 #[v] wx fun e w' => e = .returned (.agg (bytes D).toArray) ∧ Below wx.heap.size wx w') := Lib.hid fun wx v g h => sum_lst s D v wx hD g hs h
  have HBU := Lib.hid (built_head a b c (s.size : Int) D lD)
  have LZ : Hid ((hdv 0 0 0 0 (List.replicate 32 0)).length = 36) := Lib.hid (hdv_length _ _ _ _ _ (by simp))
  obtain ⟨V, hV⟩ : ∃ V, hdv a b c (s.size : Int) D = V := ⟨_, rfl⟩
  have LV : Hid (V.length = 36) := Lib.hid (by rw [← hV]; exact hdv_length _ _ _ _ _ lD)
  have V1 : Hid (V.all (·.oneCell') = true) := Lib.hid (by rw [← hV]; exact hdv_one _ _ _ _ _)
  rw [hV] at HBU ⊢
  have HG := Lib.hid hg
  have hsz : (s.size : Int) ≤ 1000000 := by omega
  clear hD lD hV hg hs
  go_enter Tryd.func13, Tryd.ntmps13
  go_wp2_with (first
    | ((with_reducible refine wpBoxK (w := w) [Value.int .i64 a, .int .i64 b, .int .i64 c] 23 ?_ ?_); rfl; intro u1 r1 b1 s1; have R1 := Lib.hid r1; have B1 := Lib.hid b1; clear r1 b1 s1)
    | ((with_reducible refine wpAllocK (w := u1) (hdv 0 0 0 0 (List.replicate 32 0)) 27 zero_head ?_ ?_); rfl; intro u2 r2 b2 s2; have K2 := Lib.hid r2; have R2 := Lib.hid (R1.out.step b2); have B2 : Hid (Below w.heap.size w u2) := Lib.hid (B1.out.next b2); clear r2 b2 s2))
  refine region_storeT 7 0 [] (by decide) [(0, 5), (1, 6), (2, 7), (3, 8), (4, 9), (5, 10), (6, 11)]
    (fun ii => [Is (.agg ([Value.int .i64 a, .int .i64 b, .int .i64 c]).toArray), Is (.string s), Is (.int .i64 (s.size : Int)), Is (.string s), Lst [.string s], Is (.agg (bytes D).toArray), Is (.agg V.toArray), Is undef].getD ii (Is undef))
    (fun w' => Below u2.heap.size u2 w') (fun v w' => Row w' u1.heap.size 27 V ∧ Below w.heap.size w w') (by kernel_rfl) (by decide) (by kernel_rfl) (by kernel_rfl) (by decide) (by decide) (by kernel_rfl) rfl (by kernel_rfl) ?monoA ((Below.refl _ _).drew) ?stepA ?stepXA ?stepSA ?finA
  case monoA =>
    intro i
    match i with
    | 0 | 1 | 2 | 3 | 5 | 6 | 7 => exact Is.monot _
    | 4 => exact Lst.monot _
    | _ + 8 => exact Is.monot _
  case stepA =>
    refine List.forall_mem_cons.2 ⟨?As0, List.forall_mem_cons.2 ⟨?As1, List.forall_mem_cons.2 ⟨?As2, List.forall_mem_cons.2 ⟨?As3, List.forall_mem_cons.2 ⟨?As4, List.forall_mem_cons.2 ⟨?As5, List.forall_mem_cons.2 ⟨?As6, List.forall_mem_nil _⟩⟩⟩⟩⟩⟩⟩
    case As0 =>
      intro _
      intro u wx hg hC
      clear hC
      generalize hA : puts [(0, 5), (1, 6), (2, 7), (3, 8), (4, 9), (5, 10), (6, 11)] _ u = A
      have hp : A.tmps.getD 2 undef = (.pointer (some ⟨w.heap.size, 0, none⟩)) := by rw [← hA]; exact (puts_get_out u _ _ 2 (by decide)).trans (by rfl)
      have hsz : 5 < A.tmps.size := by rw [← hA]; exact puts_room u (by kernel_rfl)
      refine wpOp_step rfl (fun K hK => ?_)
      clear hA
      exact opLoadK (φ := Is (.agg ([Value.int .i64 a, .int .i64 b, .int .i64 c]).toArray)) (R2.out.step hg) _ (fits_ver) (rfl) 5 rfl hsz hK (.tmp 2) rfl hp rfl hg
    case As1 =>
      intro _
      intro u wx hg hC
      clear hC
      refine wpOp_step rfl (fun K hK => ?_)
      simp only [puts, List.foldl]
      go_simp
      exact hK _ _ ⟨rfl, rfl, hg, Below.refl _ _⟩
    case As2 =>
      intro _
      intro u wx hg hC
      have hJ1 : u 1 = (.string s) := hC.at 1 (by kernel_rfl)
      clear hC
      refine wpOp_step rfl (fun K hK => ?_)
      simp only [puts, List.foldl]
      go_simp
      exact hK _ _ ⟨rfl, rfl, hg, Below.refl _ _⟩
    case As3 =>
      intro _
      intro u wx hg hC
      clear hC
      refine wpOp_step rfl (fun K hK => ?_)
      simp only [puts, List.foldl]
      go_simp
      exact hK _ _ ⟨rfl, rfl, hg, Below.refl _ _⟩
    case As4 =>
      intro _
      intro u wx hg hC
      have hJ3 : u 3 = (.string s) := hC.at 3 (by kernel_rfl)
      clear hC
      refine wpOp_step rfl (fun K hK => ?_)
      simp only [puts, List.foldl]
      go_simp
      exact hK _ _ ⟨rfl, lst_new [.string s] wx 9 _ rfl, hg.next (alloc_below _ _), alloc_below _ _⟩
    case As5 =>
      intro _
      intro u wx hg hC
      have hJ4 : (Lst [.string s]) (u 4) wx := hC.at 4 (by kernel_rfl)
      clear hC
      refine wpOp_step rfl (fun K hK => ?_)
      simp only [puts, List.foldl]
      go_simp
      refine (HSUM.out wx _ ((HG.out.step B2.out).step hg) hJ4).mono ?_
      rintro e w' ⟨rfl, hb'⟩
      exact hK _ _ ⟨rfl, rfl, hg.next hb', hb'⟩
    case As6 =>
      intro _
      intro u wx hg hC
      have hJ0 : u 0 = (.agg ([Value.int .i64 a, .int .i64 b, .int .i64 c]).toArray) := hC.at 0 (by kernel_rfl)
      have hJ2 : u 2 = (.int .i64 (s.size : Int)) := hC.at 2 (by kernel_rfl)
      have hJ5 : u 5 = (.agg (bytes D).toArray) := hC.at 5 (by kernel_rfl)
      clear hC
      generalize hA : puts [(0, 5), (1, 6), (2, 7), (3, 8), (4, 9), (5, 10), (6, 11)] _ u = A
      have q0 : A.tmps.getD 5 undef = (.agg [Value.int .i64 a, .int .i64 b, .int .i64 c].toArray) := by rw [← hA]; exact (puts_get u 0 5 _ _ (by decide) (by decide) (by kernel_rfl)).trans hJ0
      have q1 : A.tmps.getD 7 undef = (.int .i64 (s.size : Int)) := by rw [← hA]; exact (puts_get u 2 7 _ _ (by decide) (by decide) (by kernel_rfl)).trans hJ2
      have q2 : A.tmps.getD 10 undef = (.agg (bytes D).toArray) := by rw [← hA]; exact (puts_get u 5 10 _ _ (by decide) (by decide) (by kernel_rfl)).trans hJ5
      have hsz : 11 < A.tmps.size := by rw [← hA]; exact puts_room u (by kernel_rfl)
      refine wpOp_step rfl (fun K hK => ?_)
      clear hA
      exact opBuildK (φ := Is (.agg V.toArray)) _ _ _ HBU.out 11 rfl hsz hK _ rfl (by rw [Array.toList_map]; show [(0, A.tmps.getD 5 undef), (1, A.tmps.getD 7 undef), (2, A.tmps.getD 10 undef)] = _; rw [q0, q1, q2]) rfl hg
  case stepXA =>
    refine List.forall_mem_cons.2 ⟨?Ax0, List.forall_mem_cons.2 ⟨?Ax1, List.forall_mem_cons.2 ⟨?Ax2, List.forall_mem_cons.2 ⟨?Ax3, List.forall_mem_cons.2 ⟨?Ax4, List.forall_mem_cons.2 ⟨?Ax5, List.forall_mem_cons.2 ⟨?Ax6, List.forall_mem_nil _⟩⟩⟩⟩⟩⟩⟩
    case Ax0 =>
      intro hx; exact absurd hx (by decide)
    case Ax1 =>
      intro hx; exact absurd hx (by decide)
    case Ax2 =>
      intro hx; exact absurd hx (by decide)
    case Ax3 =>
      intro hx; exact absurd hx (by decide)
    case Ax4 =>
      intro hx; exact absurd hx (by decide)
    case Ax5 =>
      intro hx; exact absurd hx (by decide)
    case Ax6 =>
      intro hx; exact absurd hx (by decide)
  case stepSA =>
    intro u wx hg hC
    have hJ6 : u 6 = .agg V.toArray := hC (6, 11) (by decide) (by decide)
    clear hC
    generalize hA : puts [(0, 5), (1, 6), (2, 7), (3, 8), (4, 9), (5, 10), (6, 11)] _ u = A
    have hp : A.tmps.getD 4 undef = .pointer (some ⟨u1.heap.size, 0, none⟩) := by rw [← hA]; exact (puts_get_out u _ _ 4 (by decide)).trans (by rfl)
    have hq : A.tmps.getD 11 undef = .agg V.toArray := by rw [← hA]; exact (puts_get u 6 11 _ _ (by decide) (by decide) (by kernel_rfl)).trans hJ6
    refine wpOp_step rfl (fun K hK => ?_)
    clear hA
    exact opStoreK (H := fun w' => Row w' u1.heap.size 27 V ∧ Below w.heap.size w w') (K2.out.step hg) _ V fits_head LZ.out LV.out V1.out hK (.tmp 4) (.tmp 11) rfl hp hq fun w' h1 h2 h3 => ⟨h1, (B2.out.next hg).trans (h2.below B1.out.size (B2.out.next hg).size)⟩
  case finA =>
    intro u u3 hh hφ
    obtain ⟨r3, b3⟩ := hh
    clear hφ
    simp only [puts, List.foldl]
    go_simp
    go_wp2
    exact bodyPost_ret (r3.result rfl _ _ rfl Tryd.underlying27 rfl (by rw [LV.out]; exact fits_head.size)) rfl ⟨rfl, b3⟩
end Go.Proofs.YtbcilifdgpfmnaaDoor
