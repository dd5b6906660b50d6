/- RsEncodes' walk. (gen_rs_enc.py) -/
import Derived.Test.YtjlmhnkfldcjoaaRsR
namespace Go.Proofs.Ytjlmhnkfldcjoaa
open Go.RowKit GfMath PolyMath RsMath
set_option linter.unusedVariables false
set_option maxRecDepth 100000

set_option maxHeartbeats 8000000 in
theorem rsEncodes_good (k p n : Nat) (a : Option Addr) (ca : Nat) (X : List Nat) (w : World) (hk1 : 1 ≤ k) (hp1 : 1 ≤ p) (hnn : k + p = n) (hn : n ≤ 255) (hp64 : p ≤ 64) (hl : X.length = k) (hX : By X) (hca : X.length ≤ ca) (hca2 : ca ≤ 140737488351232) (hr : Lies w w.heap.size a (u8s X)) :
    Calls Try.prog 3 #[.int .i64 (n : Int), .int .i64 (k : Int), .slice a k ca] w fun e w' => e = .returned (.bool true) ∧ Below w.heap.size w w' := by
  have HA := Lib.hid (rsAwake_any w)
  have HT : Hid (∀ u, Calls Try.prog 7 #[.int .i64 (n : Int), .int .i64 (k : Int)] u fun e w' => e = .returned (.bool true) ∧ u = w') := Lib.hid fun u => there_yes _ _ u (by omega)
  have HC : Hid (∀ (u : World) (b : Nat), Fld u b → Calls Try.prog 5 #[.pointer (some ⟨b, 0, none⟩), .int .i64 (n : Int), .int .i64 (k : Int)] u fun e w' => (∃ c, e = .returned (.tuple #[.pointer (some ⟨c, 0, none⟩), .int .i64 0]) ∧ Cod w' c b k p) ∧ Below u.heap.size u w') := Lib.hid fun u b h => by rw [← hnn]; exact rsNew_any b k p u h hk1 hp1 (by omega) hp64
  have HS : Hid (∀ (u : World) (b c : Nat), Cod u c b k p → Calls Try.prog 8 #[.pointer (some ⟨c, 0, none⟩)] u fun e w' => e = .returned (.tuple #[.int .i64 (n : Int), .int .i64 (k : Int)]) ∧ Below u.heap.size u w') := Lib.hid fun u b c h => by
    obtain ⟨a', cap', hcor, _⟩ := h.cor
    rw [← hnn]
    exact rs_size_any c b k p _ u hcor
  have HE : Hid (∀ (u : World) (b c : Nat), Below w.heap.size w u → Cod u c b k p → Calls Try.prog 9 #[.pointer (some ⟨c, 0, none⟩), .slice a k ca] u fun e w' =>
      (∃ g c2, e = .returned (.tuple #[.slice (some ⟨g, 0, none⟩) n c2, .int .i64 0]) ∧ n ≤ c2 ∧ Lies w' w'.heap.size (some ⟨g, 0, none⟩) (u8s (code X p))) ∧ Below u.heap.size u w') := Lib.hid fun u b c hu h => by
    rw [← hnn]
    exact (enc_row c b k p a ca X u h hl hX hca hca2 (hr.step hu)).mono fun e w' ⟨⟨g, c2, ys, h1, h2, h3, h4⟩, h5⟩ => ⟨⟨g, c2, h1, h3, lies_front h4⟩, h5⟩
  have HP : Hid (∀ (u : World) (b c : Nat), Below w.heap.size w u → Cod u c b k p → Calls Try.prog 10 #[.pointer (some ⟨c, 0, none⟩), .slice a k ca] u fun e w' =>
      (∃ g, e = .returned (.tuple #[.slice (some ⟨g, 0, none⟩) p p, .int .i64 0]) ∧ Row w' g 5 (u8s (parity X p))) ∧ Below u.heap.size u w') := Lib.hid fun u b c hu h =>
    (par_any c b k p a ca X u h hl hX hca (hr.step hu)).mono fun e w' ⟨⟨g, h1, _, h2⟩, h5⟩ => ⟨⟨g, h1, h2⟩, h5⟩
  have HRI : Hid (∀ (u : World) (b c g c2 : Nat), Cod u c b k p → n ≤ c2 → Lies u u.heap.size (some ⟨g, 0, none⟩) (u8s (code X p)) → Calls Try.prog 11 #[.pointer (some ⟨c, 0, none⟩), .slice (some ⟨g, 0, none⟩) n c2] u fun e w' => e = .returned (.bool true) ∧ Below u.heap.size u w') := Lib.hid fun u b c g c2 h h1 h4 => by
    obtain ⟨a', cap', hcor, _⟩ := h.cor
    have := rs_right_any c b k p _ (some ⟨g, 0, none⟩) c2 (code X p) u hcor (by omega) (by rw [code_length X hX, hl]) (code_by X hX p) (by rw [code_length X hX, hl]; omega) h4
    rw [code_right hX, hnn] at this
    exact this
  have HCW : Hid (∀ (u : World) (a' : Option Addr) (c2 : Nat), Lies u u.heap.size a' (u8s (code X p)) → (convert 22 9 (.slice a' n c2)).run Try.prog u = .ok (.string (str ((code X p).map UInt8.ofNat))) u) := Lib.hid fun u a' c2 h => by
    have := rs_conv_u8s a' c2 (code X p) _ u (code_by X hX p) (by rw [code_length X hX]; omega) h
    rwa [code_length X hX, hl, hnn] at this
  have HCV : Hid (∀ (v : Value) (u : World), Rd (code X p) v u → (convert 22 9 v).run Try.prog u = .ok (.string (str ((code X p).map UInt8.ofNat))) u) := Lib.hid fun v u ⟨a', c2, e, _, h⟩ => by
    rw [e]
    exact rs_conv_u8s a' c2 (code X p) _ u (code_by X hX p) (by rw [code_length X hX]; omega) h
  have HCX : Hid (∀ u, Below w.heap.size w u → (convert 22 9 (.slice a k ca)).run Try.prog u = .ok (.string (str (X.map UInt8.ofNat))) u) := Lib.hid fun u hu => by
    have := rs_conv_u8s a ca X _ u hX (by omega) (hr.step hu)
    rwa [hl] at this
  have HCP : Hid (∀ (u : World) (g : Nat), Row u g 5 (u8s (parity X p)) → (convert 22 9 (.slice (some ⟨g, 0, none⟩) p p)).run Try.prog u = .ok (.string (str ((parity X p).map UInt8.ofNat))) u) := Lib.hid fun u g h => by
    have := rs_conv_u8s (some ⟨g, 0, none⟩) p (parity X p) u.heap.size u (parity_by X hX p) (by rw [parity_length X hX]; omega) (row_lies h)
    rwa [parity_length X hX] at this
  have HRE : Hid (∀ u, Below w.heap.size w u → Calls Try.prog 12 #[.slice a k ca, .int .i64 (n : Int), .int .i64 (k : Int)] u fun e w' => (∃ v, e = .returned v ∧ Rd (code X p) v w') ∧ Below u.heap.size u w') := Lib.hid fun u hu => refEncode_any a ca X n k p u hX hl (by omega) (by omega) hnn hn (hr.step hu)
  obtain ⟨SW, hSW⟩ : ∃ S, S = str ((code X p).map UInt8.ofNat) := ⟨_, rfl⟩
  obtain ⟨SX, hSX⟩ : ∃ S, S = str (X.map UInt8.ofNat) := ⟨_, rfl⟩
  obtain ⟨SP, hSP⟩ : ∃ S, S = str ((parity X p).map UInt8.ofNat) := ⟨_, rfl⟩
  have hcat : SX ++ SP = SW := by rw [hSX, hSP, hSW, str_append, ← List.map_append]; rfl
  have hz1 : SX.size ≤ 255 := by rw [hSX, str_size, List.length_map, hl]; omega
  have hz2 : SP.size ≤ 255 := by rw [hSP, str_size, List.length_map, parity_length X hX]; omega
  have hsq : (SW.toList == SW.toList) = true := beq_self_eq_true _
  have HTL : Hid ((code X p).length = n) := Lib.hid (by rw [code_length X hX, hl, hnn])
  rw [← hSW] at HCW HCV
  rw [← hSX] at HCX
  rw [← hSP] at HCP
  have hb1 : (n : Int) ≤ 255 := by omega
  have hb2 : (k : Int) ≤ 255 := by omega
  have hb3 : (p : Int) ≤ 255 := by omega
  have hd3 : decide (300 < (k : Int)) = false := by simp; omega
  have hnk : ((n : Int) != (n : Int)) = false := by simp
  have hkk : ((k : Int) != (k : Int)) = false := by simp
  generalize code X p = T at *
  generalize parity X p = Y at *
  clear hr hX hca hca2 hl hSW hSX hSP hnn hk1 hp1 hn hp64
  have hcase : (24 < (n : Int) ∧ decide (24 < (n : Int)) = true) ∨ ((n : Int) ≤ 24 ∧ decide (24 < (n : Int)) = false) := by
    by_cases h : 24 < (n : Int)
    · exact Or.inl ⟨h, decide_eq_true h⟩
    · exact Or.inr ⟨by omega, decide_eq_false h⟩
  rcases hcase with ⟨hbig, hbd⟩ | ⟨hbig, hbd⟩
  all_goals
    go_enter Try.func3, Try.ntmps3
    go_wp2_with (first
      | (go_at_call 4; (with_reducible refine HA.out.mono ?_); rintro e u1 ⟨rfl, b1⟩; have B1 := Lib.hid b1; clear b1)
      | (go_at_call 6; (with_reducible refine (gfNew_any u1).mono ?_); rintro e u2 ⟨rfl, f2, b2⟩; have F2 := Lib.hid f2; have B2 := Lib.hid (B1.out.next b2); clear f2 b2)
      | (go_at_call 5; (with_reducible refine (HC.out u2 _ F2.out).mono ?_); rintro e u3 ⟨⟨c, rfl, d3⟩, b3⟩; have D3 := Lib.hid d3; have B3 := Lib.hid (B2.out.next b3); clear d3 b3)
      | (go_at_call 7; (with_reducible refine (HT.out _).mono ?_); rintro e v2 ⟨rfl, rfl⟩)
      | (go_at_call 8; (with_reducible refine (HS.out u3 _ c D3.out).mono ?_); rintro e u4 ⟨rfl, b4⟩; have D4 := Lib.hid (D3.out.step b4); have B4 := Lib.hid (B3.out.next b4); clear b4)
      | (go_at_call 9; (with_reducible refine (HE.out u4 _ c B4.out D4.out).mono ?_); rintro e u5 ⟨⟨g1, c1, rfl, k1, l5⟩, b5⟩; have K1 := Lib.hid k1; have L5 := Lib.hid l5; have D5 := Lib.hid (D4.out.step b5); have B5 := Lib.hid (B4.out.next b5); clear k1 l5 b5)
      | (go_at_call 10; (with_reducible refine (HP.out u5 _ c B5.out D5.out).mono ?_); rintro e u6 ⟨⟨g2, rfl, r6⟩, b6⟩; have L6 := Lib.hid (L5.out.step b6); have D6 := Lib.hid (D5.out.step b6); have B6 := Lib.hid (B5.out.next b6); have cw := HCW.out u6 _ c1 L6.out; have cx := HCX.out u6 B6.out; have cp := HCP.out u6 g2 r6; clear r6 b6)
      | (go_at_call 11; (with_reducible refine (HRI.out u6 _ c g1 c1 D6.out K1.out L6.out).mono ?_); rintro e u7 ⟨rfl, b7⟩; have L7 := Lib.hid (L6.out.step b7); have B7 := Lib.hid (B6.out.next b7); clear b7 cw cx cp))
  · go_quiet (fail)
    have B8 : Hid (Below w.heap.size w (u7.drewN nq)) := Lib.hid (B7.out.drewN _)
    generalize u7.drewN nq = u8 at *
    go_wp2
    go_ret
    exact ⟨rfl, B8.out⟩
  · refine region_invX [(0, 124), (1, 125), (2, 126), (3, 127), (4, 128), (5, 129), (6, 130), (7, 131), (8, 132), (9, 133), (10, 134), (11, 135), (12, 6)]
      (fun ii => [Is (.int .i64 (n : Int)), Is (.bool false), Is (.bool false), Is (.slice (some ⟨g1, 0, none⟩) n c1), Is (.string SW), Is (.slice a k ca), Is (.int .i64 (n : Int)), Is (.int .i64 (k : Int)), Rd T, Is (.string SW), Is (.bool true), Is (.bool true), Is (.bool true)].getD ii (Is undef))
      (fun w' => Below u7.heap.size u7 w') (by kernel_rfl) (by kernel_rfl) (by decide) (by decide) (by kernel_rfl) rfl ?monoA ((Below.refl _ _).drew) ?stepA ?finA
    case monoA =>
      intro i
      match i with
      | 0 | 1 | 2 | 3 | 4 | 5 | 6 | 7 | 9 | 10 | 11 | 12 => exact Is.monot _
      | 8 => exact Rd.monot _
      | _ + 13 => exact Is.monot _
    case stepA =>
      refine List.forall_mem_cons.2 ⟨?As0, List.forall_mem_cons.2 ⟨?As1, List.forall_mem_cons.2 ⟨?As2, List.forall_mem_cons.2 ⟨?As3, List.forall_mem_cons.2 ⟨?As4, List.forall_mem_cons.2 ⟨?As5, List.forall_mem_cons.2 ⟨?As6, List.forall_mem_cons.2 ⟨?As7, List.forall_mem_cons.2 ⟨?As8, List.forall_mem_cons.2 ⟨?As9, List.forall_mem_cons.2 ⟨?As10, List.forall_mem_cons.2 ⟨?As11, List.forall_mem_cons.2 ⟨?As12, List.forall_mem_nil _⟩⟩⟩⟩⟩⟩⟩⟩⟩⟩⟩⟩⟩
      case As0 =>
        intro u wx hg hC
        clear hC
        refine wpOp_step rfl (fun K hK => ?_)
        simp only [puts, List.foldl]
        go_simp
        exact hK _ _ ⟨rfl, rfl, hg, Below.refl _ _⟩
      case As1 =>
        intro u wx hg hC
        have hJ0 : u 0 = (.int .i64 (n : Int)) := hC.at 0 (by kernel_rfl)
        clear hC
        refine wpOp_step rfl (fun K hK => ?_)
        simp only [puts, List.foldl]
        go_simp
        exact hK _ _ ⟨rfl, rfl, hg, Below.refl _ _⟩
      case As2 =>
        intro u wx hg hC
        have hJ1 : u 1 = (.bool false) := hC.at 1 (by kernel_rfl)
        clear hC
        refine wpOp_step rfl (fun K hK => ?_)
        simp only [puts, List.foldl]
        go_simp
        exact hK _ _ ⟨rfl, rfl, hg, Below.refl _ _⟩
      case As3 =>
        intro u wx hg hC
        have hJ2 : u 2 = (.bool false) := hC.at 2 (by kernel_rfl)
        clear hC
        generalize hA : puts [(0, 124), (1, 125), (2, 126), (3, 127), (4, 128), (5, 129), (6, 130), (7, 131), (8, 132), (9, 133), (10, 134), (11, 135), (12, 6)] _ u = A
        have hgv : A.tmps.getD 126 undef = .bool false := by rw [← hA]; exact (puts_get u 2 126 _ _ (by decide) (by decide) (by kernel_rfl)).trans hJ2
        have hgs : 126 < A.tmps.size := by rw [← hA]; exact puts_room u (by kernel_rfl)
        refine wpOp_guard rfl 2 126 false rfl rfl hgs hgv (fun K hK => ?_)
        subst hA
        simp only [puts, List.foldl]
        go_simp
        exact hK _ _ ⟨rfl, rfl, hg, Below.refl _ _⟩
      case As4 =>
        intro u wx hg hC
        have hJ2 : u 2 = (.bool false) := hC.at 2 (by kernel_rfl)
        have hJ3 : u 3 = (.slice (some ⟨g1, 0, none⟩) n c1) := hC.at 3 (by kernel_rfl)
        clear hC
        have hcv := HCW.out wx _ c1 (L7.out.step hg)
        generalize hA : puts [(0, 124), (1, 125), (2, 126), (3, 127), (4, 128), (5, 129), (6, 130), (7, 131), (8, 132), (9, 133), (10, 134), (11, 135), (12, 6)] _ u = A
        have hgv : A.tmps.getD 126 undef = .bool false := by rw [← hA]; exact (puts_get u 2 126 _ _ (by decide) (by decide) (by kernel_rfl)).trans hJ2
        have hgs : 126 < A.tmps.size := by rw [← hA]; exact puts_room u (by kernel_rfl)
        refine wpOp_guard rfl 2 126 false rfl rfl hgs hgv (fun K hK => ?_)
        subst hA
        simp only [puts, List.foldl]
        go_simp
        exact hK _ _ ⟨rfl, rfl, hg, Below.refl _ _⟩
      case As5 =>
        intro u wx hg hC
        have hJ2 : u 2 = (.bool false) := hC.at 2 (by kernel_rfl)
        clear hC
        generalize hA : puts [(0, 124), (1, 125), (2, 126), (3, 127), (4, 128), (5, 129), (6, 130), (7, 131), (8, 132), (9, 133), (10, 134), (11, 135), (12, 6)] _ u = A
        have hgv : A.tmps.getD 126 undef = .bool false := by rw [← hA]; exact (puts_get u 2 126 _ _ (by decide) (by decide) (by kernel_rfl)).trans hJ2
        have hgs : 126 < A.tmps.size := by rw [← hA]; exact puts_room u (by kernel_rfl)
        refine wpOp_guard rfl 2 126 false rfl rfl hgs hgv (fun K hK => ?_)
        subst hA
        simp only [puts, List.foldl]
        go_simp
        exact hK _ _ ⟨rfl, rfl, hg, Below.refl _ _⟩
      case As6 =>
        intro u wx hg hC
        have hJ2 : u 2 = (.bool false) := hC.at 2 (by kernel_rfl)
        clear hC
        generalize hA : puts [(0, 124), (1, 125), (2, 126), (3, 127), (4, 128), (5, 129), (6, 130), (7, 131), (8, 132), (9, 133), (10, 134), (11, 135), (12, 6)] _ u = A
        have hgv : A.tmps.getD 126 undef = .bool false := by rw [← hA]; exact (puts_get u 2 126 _ _ (by decide) (by decide) (by kernel_rfl)).trans hJ2
        have hgs : 126 < A.tmps.size := by rw [← hA]; exact puts_room u (by kernel_rfl)
        refine wpOp_guard rfl 2 126 false rfl rfl hgs hgv (fun K hK => ?_)
        subst hA
        simp only [puts, List.foldl]
        go_simp
        exact hK _ _ ⟨rfl, rfl, hg, Below.refl _ _⟩
      case As7 =>
        intro u wx hg hC
        have hJ2 : u 2 = (.bool false) := hC.at 2 (by kernel_rfl)
        clear hC
        generalize hA : puts [(0, 124), (1, 125), (2, 126), (3, 127), (4, 128), (5, 129), (6, 130), (7, 131), (8, 132), (9, 133), (10, 134), (11, 135), (12, 6)] _ u = A
        have hgv : A.tmps.getD 126 undef = .bool false := by rw [← hA]; exact (puts_get u 2 126 _ _ (by decide) (by decide) (by kernel_rfl)).trans hJ2
        have hgs : 126 < A.tmps.size := by rw [← hA]; exact puts_room u (by kernel_rfl)
        refine wpOp_guard rfl 2 126 false rfl rfl hgs hgv (fun K hK => ?_)
        subst hA
        simp only [puts, List.foldl]
        go_simp
        exact hK _ _ ⟨rfl, rfl, hg, Below.refl _ _⟩
      case As8 =>
        intro u wx hg hC
        have hJ2 : u 2 = (.bool false) := hC.at 2 (by kernel_rfl)
        have hJ5 : u 5 = (.slice a k ca) := hC.at 5 (by kernel_rfl)
        have hJ6 : u 6 = (.int .i64 (n : Int)) := hC.at 6 (by kernel_rfl)
        have hJ7 : u 7 = (.int .i64 (k : Int)) := hC.at 7 (by kernel_rfl)
        clear hC
        generalize hA : puts [(0, 124), (1, 125), (2, 126), (3, 127), (4, 128), (5, 129), (6, 130), (7, 131), (8, 132), (9, 133), (10, 134), (11, 135), (12, 6)] _ u = A
        have hgv : A.tmps.getD 126 undef = .bool false := by rw [← hA]; exact (puts_get u 2 126 _ _ (by decide) (by decide) (by kernel_rfl)).trans hJ2
        have hgs : 126 < A.tmps.size := by rw [← hA]; exact puts_room u (by kernel_rfl)
        refine wpOp_guard rfl 2 126 false rfl rfl hgs hgv (fun K hK => ?_)
        subst hA
        simp only [puts, List.foldl]
        go_simp
        refine (HRE.out wx (B7.out.next hg)).mono ?_
        rintro e w' ⟨⟨v', rfl, hv'⟩, hb'⟩
        exact hK _ _ ⟨rfl, hv', hg.next hb', hb'⟩
      case As9 =>
        intro u wx hg hC
        have hJ2 : u 2 = (.bool false) := hC.at 2 (by kernel_rfl)
        have hJ8 : (Rd T) (u 8) wx := hC.at 8 (by kernel_rfl)
        clear hC
        have hcv := HCV.out (u 8) wx hJ8
        clear hJ8
        generalize hA : puts [(0, 124), (1, 125), (2, 126), (3, 127), (4, 128), (5, 129), (6, 130), (7, 131), (8, 132), (9, 133), (10, 134), (11, 135), (12, 6)] _ u = A
        have hgv : A.tmps.getD 126 undef = .bool false := by rw [← hA]; exact (puts_get u 2 126 _ _ (by decide) (by decide) (by kernel_rfl)).trans hJ2
        have hgs : 126 < A.tmps.size := by rw [← hA]; exact puts_room u (by kernel_rfl)
        refine wpOp_guard rfl 2 126 false rfl rfl hgs hgv (fun K hK => ?_)
        subst hA
        simp only [puts, List.foldl]
        go_simp
        exact hK _ _ ⟨rfl, rfl, hg, Below.refl _ _⟩
      case As10 =>
        intro u wx hg hC
        have hJ2 : u 2 = (.bool false) := hC.at 2 (by kernel_rfl)
        have hJ4 : u 4 = (.string SW) := hC.at 4 (by kernel_rfl)
        have hJ9 : u 9 = (.string SW) := hC.at 9 (by kernel_rfl)
        clear hC
        generalize hA : puts [(0, 124), (1, 125), (2, 126), (3, 127), (4, 128), (5, 129), (6, 130), (7, 131), (8, 132), (9, 133), (10, 134), (11, 135), (12, 6)] _ u = A
        have hgv : A.tmps.getD 126 undef = .bool false := by rw [← hA]; exact (puts_get u 2 126 _ _ (by decide) (by decide) (by kernel_rfl)).trans hJ2
        have hgs : 126 < A.tmps.size := by rw [← hA]; exact puts_room u (by kernel_rfl)
        refine wpOp_guard rfl 2 126 false rfl rfl hgs hgv (fun K hK => ?_)
        subst hA
        simp only [puts, List.foldl]
        go_simp
        exact hK _ _ ⟨rfl, rfl, hg, Below.refl _ _⟩
      case As11 =>
        intro u wx hg hC
        have hJ2 : u 2 = (.bool false) := hC.at 2 (by kernel_rfl)
        have hJ10 : u 10 = (.bool true) := hC.at 10 (by kernel_rfl)
        clear hC
        refine wpOp_step rfl (fun K hK => ?_)
        simp only [puts, List.foldl]
        go_simp
        exact hK _ _ ⟨rfl, rfl, hg, Below.refl _ _⟩
      case As12 =>
        intro u wx hg hC
        have hJ11 : u 11 = (.bool true) := hC.at 11 (by kernel_rfl)
        clear hC
        refine wpOp_step rfl (fun K hK => ?_)
        simp only [puts, List.foldl]
        go_simp
        exact hK _ _ ⟨rfl, rfl, hg, Below.refl _ _⟩
    case finA =>
      intro u wx hg hC
      have hC12 : u 12 = .bool true := hC (12, 6) (by decide)
      simp only [puts, List.foldl]
      rw [hC12]
      go_simp
      go_wp2
      go_ret
      exact ⟨rfl, B7.out.next hg⟩

set_option maxHeartbeats 8000000 in
theorem rsEncodes_walk (n k : Int) (a : Option Addr) (ca : Nat) (X : List Nat) (w : World) (hX : By X) (hca : X.length ≤ ca) (hca2 : ca ≤ 140737488351232) (hr : Lies w w.heap.size a (u8s X)) :
    Calls Try.prog 3 #[.int .i64 n, .int .i64 k, .slice a X.length ca] w fun e w' => e = .returned (.bool true) ∧ Below w.heap.size w w' := by
  have HA := Lib.hid (rsAwake_any w)
  by_cases ht : 1 ≤ k ∧ k < n ∧ n ≤ 255 ∧ n - k ≤ 64
  · obtain ⟨k', rfl⟩ : ∃ k' : Nat, k = (k' : Int) := ⟨k.toNat, by omega⟩
    obtain ⟨p, hp⟩ : ∃ p : Nat, n = ((k' + p : Nat) : Int) := ⟨(n - k').toNat, by omega⟩
    obtain ⟨m, hm⟩ : ∃ m, m = k' + p := ⟨_, rfl⟩
    rw [← hm] at hp
    subst hp
    by_cases hl : X.length = k'
    · rw [hl]
      exact rsEncodes_good k' p m a ca X w (by omega) (by omega) hm.symm (by omega) (by omega) hl hX hca hca2 hr
    have HT : Hid (∀ u, Calls Try.prog 7 #[.int .i64 (m : Int), .int .i64 (k' : Int)] u fun e w' => e = .returned (.bool true) ∧ u = w') := Lib.hid fun u => there_yes _ _ u ht
    have HC : Hid (∀ (u : World) (b : Nat), Fld u b → Calls Try.prog 5 #[.pointer (some ⟨b, 0, none⟩), .int .i64 (m : Int), .int .i64 (k' : Int)] u fun e w' => (∃ c, e = .returned (.tuple #[.pointer (some ⟨c, 0, none⟩), .int .i64 0]) ∧ Cod w' c b k' p) ∧ Below u.heap.size u w') := Lib.hid fun u b h => by rw [hm]; exact rsNew_any b k' p u h (by omega) (by omega) (by omega) (by omega)
    obtain ⟨t, htt⟩ : ∃ t, X.length = t := ⟨_, rfl⟩
    rw [htt] at hl hca ⊢
    by_cases hbig : 300 < t
    · have hb1 : 300 < (t : Int) := by omega
      have hbd : decide (300 < (t : Int)) = true := by simp; omega
      clear hr hX hca hca2 hl htt ht hm hbig
      go_enter Try.func3, Try.ntmps3
      go_wp2_with (first
        | (go_at_call 4; (with_reducible refine HA.out.mono ?_); rintro e u1 ⟨rfl, b1⟩; have B1 := Lib.hid b1; clear b1)
        | (go_at_call 6; (with_reducible refine (gfNew_any u1).mono ?_); rintro e u2 ⟨rfl, f2, b2⟩; have F2 := Lib.hid f2; have B2 := Lib.hid (B1.out.next b2); clear f2 b2)
        | (go_at_call 5; (with_reducible refine (HC.out u2 _ F2.out).mono ?_); rintro e u3 ⟨⟨c, rfl, d3⟩, b3⟩; have D3 := Lib.hid d3; have B3 := Lib.hid (B2.out.next b3); clear d3 b3)
        | (go_at_call 7; (with_reducible refine (HT.out _).mono ?_); rintro e v2 ⟨rfl, rfl⟩))
      go_ret
      exact ⟨rfl, B3.out⟩
    · have hb1 : (t : Int) ≤ 300 := by omega
      have hbd : decide (300 < (t : Int)) = false := by simp; omega
      have hlk : ((t : Int) != (k' : Int)) = true := by simp; omega
      have HS : Hid (∀ (u : World) (b c : Nat), Cod u c b k' p → Calls Try.prog 8 #[.pointer (some ⟨c, 0, none⟩)] u fun e w' => e = .returned (.tuple #[.int .i64 (m : Int), .int .i64 (k' : Int)]) ∧ Below u.heap.size u w') := Lib.hid fun u b c h => by
        obtain ⟨a', cap', hcor, _⟩ := h.cor
        rw [hm]
        exact rs_size_any c b k' p _ u hcor
      have HE : Hid (∀ (u : World) (b c : Nat), Cod u c b k' p → Calls Try.prog 9 #[.pointer (some ⟨c, 0, none⟩), .slice a t ca] u fun e w' => e = .returned (.tuple #[.slice none 0 0, .int .i64 1]) ∧ u = w') := Lib.hid fun u b c h => by
        obtain ⟨a', cap', hcor, _⟩ := h.cor
        exact enc_bad c b k' p _ a t ca u hcor hl (by omega)
      have HP : Hid (∀ (u : World) (b c : Nat), Cod u c b k' p → Calls Try.prog 10 #[.pointer (some ⟨c, 0, none⟩), .slice a t ca] u fun e w' => e = .returned (.tuple #[.slice none 0 0, .int .i64 1]) ∧ u = w') := Lib.hid fun u b c h => by
        obtain ⟨a', cap', hcor, _⟩ := h.cor
        exact par_bad c b k' p _ a t ca u hcor hl (by omega)
      have hnk : ((m : Int) != (m : Int)) = false := by simp
      have hkk : ((k' : Int) != (k' : Int)) = false := by simp
      clear hr hX hca hca2 hl htt ht hm hbig
      go_enter Try.func3, Try.ntmps3
      go_wp2_with (first
        | (go_at_call 4; (with_reducible refine HA.out.mono ?_); rintro e u1 ⟨rfl, b1⟩; have B1 := Lib.hid b1; clear b1)
        | (go_at_call 6; (with_reducible refine (gfNew_any u1).mono ?_); rintro e u2 ⟨rfl, f2, b2⟩; have F2 := Lib.hid f2; have B2 := Lib.hid (B1.out.next b2); clear f2 b2)
        | (go_at_call 5; (with_reducible refine (HC.out u2 _ F2.out).mono ?_); rintro e u3 ⟨⟨c, rfl, d3⟩, b3⟩; have D3 := Lib.hid d3; have B3 := Lib.hid (B2.out.next b3); clear d3 b3)
        | (go_at_call 7; (with_reducible refine (HT.out _).mono ?_); rintro e v2 ⟨rfl, rfl⟩)
        | (go_at_call 8; (with_reducible refine (HS.out u3 _ c D3.out).mono ?_); rintro e u4 ⟨rfl, b4⟩; have D4 := Lib.hid (D3.out.step b4); have B4 := Lib.hid (B3.out.next b4); clear b4)
        | (go_at_call 9; (with_reducible refine (HE.out u4 _ c D4.out).mono ?_); rintro e u5 ⟨rfl, rfl⟩)
        | (go_at_call 10; (with_reducible refine (HP.out u4 _ c D4.out).mono ?_); rintro e u6 ⟨rfl, rfl⟩))
      go_ret
      exact ⟨rfl, B4.out⟩
  · have HT : Hid (∀ u, Calls Try.prog 7 #[.int .i64 n, .int .i64 k] u fun e w' => e = .returned (.bool false) ∧ u = w') := Lib.hid fun u => there_no n k u ht
    have HC : Hid (∀ (u : World) (b : Nat), Calls Try.prog 5 #[.pointer (some ⟨b, 0, none⟩), .int .i64 n, .int .i64 k] u fun e w' => e = .returned (.tuple #[.pointer none, .int .i64 1]) ∧ u = w') := Lib.hid fun u b => rsNew_bad b n k u ht
    obtain ⟨t, htt⟩ : ∃ t, X.length = t := ⟨_, rfl⟩
    rw [htt]
    clear hr hX hca hca2 htt ht
    go_enter Try.func3, Try.ntmps3
    go_wp2_with (first
      | (go_at_call 4; (with_reducible refine HA.out.mono ?_); rintro e u1 ⟨rfl, b1⟩; have B1 := Lib.hid b1; clear b1)
      | (go_at_call 6; (with_reducible refine (gfNew_any u1).mono ?_); rintro e u2 ⟨rfl, f2, b2⟩; have B2 := Lib.hid (B1.out.next b2); clear f2 b2)
      | (go_at_call 5; (with_reducible refine (HC.out u2 _).mono ?_); rintro e u3 ⟨rfl, rfl⟩)
      | (go_at_call 7; (with_reducible refine (HT.out _).mono ?_); rintro e v2 ⟨rfl, rfl⟩))
    go_ret
    exact ⟨rfl, B2.out⟩
end Go.Proofs.Ytjlmhnkfldcjoaa
