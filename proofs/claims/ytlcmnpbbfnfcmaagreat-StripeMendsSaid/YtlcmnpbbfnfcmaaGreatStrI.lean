/- The document's example (awake), first part. -/
import Derived.Test.YtlcmnpbbfnfcmaaGreatStrH
import Derived.Test.YtlcmnpbbfnfcmaaGreatStrMath2
import Derived.Test.YtlcmnpbbfnfcmaaGreatBuildB
namespace Go.Proofs.YtlcmnpbbfnfcmaaGreat
open Go.RowKit CrcMath GfMath PolyMath RsMath SolMath GeoMath
set_option linter.unusedVariables false
set_option maxRecDepth 100000

/-- A stripe of which few sectors were turned is read as it was written. -/
theorem str_read_good (c cc b sb k p s : Nat) (a : Option Addr) (cap n : Nat) (L : List ByteArray) (f : Fb) (w : World) (h : Cdr w c cc b sb k p s) (hn : n = k + p) (hL : L.length = n) (hLs : ∀ x ∈ L, x.size ≤ 140737488355328) (hr : Lies w w.heap.size a (strs L))
    (hq : (∀ i, i < n → (tl L).getD i [] ≠ sealB (bkF (wholeF f k p) i) → rightT ((tl L).getD i []) = false) ∧ (badL (tl L) (wholeF f k p) n).length ≤ p ∨ (badL (tl L) (wholeF f k p) n).length ≤ p / 2) :
    Calls Tryz.prog 10 #[.pointer (some ⟨c, 0, none⟩), .slice a n cap] w fun e w' =>
      (∃ g a2 c2, e = .returned (.tuple #[.agg #[.slice (some ⟨g, 0, none⟩) n n, .slice a2 (badL (tl L) (wholeF f k p) n).length c2], .int .i64 0]) ∧ Row w' g 47 (bytes (grid n (wholeF f k p))) ∧ (badL (tl L) (wholeF f k p) n).length ≤ c2 ∧
      Lies w' w'.heap.size a2 (nats (badL (tl L) (wholeF f k p) n))) ∧ Below w.heap.size w w' := by
  subst hn
  obtain ⟨h1, h2, h3⟩ := read_good (S := tl L) (f := f) h.k1 (by have := h.p2; omega) (by have := h.k8; have := h.p6; omega) hq
  refine (str_read_any c cc b sb k p s a cap (k + p) L w h rfl hL hLs hr).mono ?_
  rintro e w' ⟨h4, h5⟩
  unfold ReadP at h4
  rw [if_pos h1, h2, h3] at h4
  obtain ⟨g, vs, e1, e2, a2, c2, e3, e4, e5⟩ := h4
  subst e3
  exact ⟨⟨g, a2, c2, e1, e2, e4, e5⟩, h5⟩
theorem tl_length (L : List ByteArray) : (tl L).length = L.length := by simp [tl]
theorem tl_enc (f : Fb) (k p i : Nat) (h : i < k + p) : (tl (encF f k p)).getD i [] = sealB (bkF (wholeF f k p) i) := by
  rw [tl_get _ _ (by rw [encF_length]; exact h)]
  have := encF_get f k p i h
  rw [List.getElem?_eq_getElem (by rw [encF_length]; exact h), Option.some.injEq] at this
  rw [this, secF, str_list]
theorem secF_size (f : Fb) (k p i : Nat) : (secF f k p i).size = 64 := by rw [secF, str_size, sealB_length, bkF_length]
theorem enc_sizes (f : Fb) (k p : Nat) : ∀ x ∈ encF f k p, x.size ≤ 140737488355328 := by
  intro x hx
  obtain ⟨i, _, rfl⟩ := List.mem_map.1 hx
  rw [secF_size]
  omega

theorem info_block3 : (Tryz.prog.info? 47).map (fun i => (i.size, i.zero.isSome)) = some (60, true) := by kernel_rfl
theorem info_str1 : (Tryz.prog.info? 9).map (·.size) = some 1 := by kernel_rfl
/-- The example's two sectors that were turned. -/
theorem awake_bad (f : Fb) (BL : ByteArray) (h : BL = str (List.replicate 64 255)) : (((encF f 2 2).set 0 BL).set 2 ByteArray.empty).length = 4 ∧ (∀ x ∈ ((encF f 2 2).set 0 BL).set 2 ByteArray.empty, x.size ≤ 140737488355328) ∧
    (∀ i, i < 4 → (tl (((encF f 2 2).set 0 BL).set 2 ByteArray.empty)).getD i [] ≠ sealB (bkF (wholeF f 2 2) i) → rightT ((tl (((encF f 2 2).set 0 BL).set 2 ByteArray.empty)).getD i []) = false) ∧ badL (tl (((encF f 2 2).set 0 BL).set 2 ByteArray.empty)) (wholeF f 2 2) 4 = [0, 2] := by
  have hE : encF f 2 2 = [secF f 2 2 0, secF f 2 2 1, secF f 2 2 2, secF f 2 2 3] := rfl
  have hS : tl (((encF f 2 2).set 0 BL).set 2 ByteArray.empty) = [List.replicate 64 255, sealB (bkF (wholeF f 2 2) 1), [], sealB (bkF (wholeF f 2 2) 3)] := by
    rw [hE, h]
    simp only [List.set_cons_zero, List.set_cons_succ, tl, List.map_cons, List.map_nil, secF, str_list]
    rfl
  have h0 : List.replicate 64 255 ≠ sealB (bkF (wholeF f 2 2) 0) := fun e => by
    have h1 := right_seal _ (bkF_length (wholeF f 2 2) 0)
    rw [← e, right_blank] at h1
    cases h1
  have h2 : ([] : List UInt8) ≠ sealB (bkF (wholeF f 2 2) 2) := fun e => by
    have h1 := congrArg List.length e
    rw [sealB_length] at h1
    simp at h1
  refine ⟨by rw [List.length_set, List.length_set, encF_length], ?_, ?_, ?_⟩
  · intro x hx
    rw [hE, h] at hx
    simp only [List.set_cons_zero, List.set_cons_succ, List.mem_cons, List.not_mem_nil, or_false] at hx
    rcases hx with rfl | rfl | rfl | rfl
    · rw [str_size, List.length_replicate]; omega
    · rw [secF_size]; omega
    · show 0 ≤ _; omega
    · rw [secF_size]; omega
  · intro i hi hne
    rw [hS] at hne ⊢
    have hi4 : i = 0 ∨ i = 1 ∨ i = 2 ∨ i = 3 := by omega
    rcases hi4 with e | e | e | e
    · rw [e]; exact right_blank
    · rw [e] at hne; exact absurd rfl hne
    · rw [e]; rfl
    · rw [e] at hne; exact absurd rfl hne
  · rw [hS]
    unfold badL
    simp only [List.range_succ, List.range_zero, List.nil_append, List.filter_append, List.filter_cons, List.filter_nil, List.getD_cons_zero, List.getD_cons_succ]
    rw [decide_eq_true h0, decide_eq_true h2]
    simp

set_option maxHeartbeats 2000000 in
theorem str_awake (w : World) : Calls Tryz.prog 4 #[] w fun e w' => e = .returned (.bool true) ∧ Below w.heap.size w w' := by
  obtain ⟨O, hO⟩ : ∃ O : List UInt8, O = List.replicate 60 0 := ⟨_, rfl⟩
  have HZ0 : Hid (∀ u, (zeroValue 47).run Tryz.prog u = .ok (.agg (bytes O).toArray) u) := Lib.hid (by rw [hO]; exact tag_zero)
  have LO : Hid ((bytes O).length = 60) := Lib.hid (by rw [hO, bytes_length, List.length_replicate])
  have HNW : Hid (Calls Tryz.prog 6 #[.agg #[.int .i64 2, .int .i64 2, .int .i64 1]] w fun e w' => (∃ c cc b sb, e = .returned (.tuple #[.pointer (some ⟨c, 0, none⟩), .int .i64 0]) ∧ Cdr w' c cc b sb 2 2 1) ∧ Below w.heap.size w w') := Lib.hid (str_new_any 2 2 1 w (by omega) (by omega) (by omega) (by omega) (by omega) (by omega))
  obtain ⟨A, hA⟩ : ∃ A, A = blk [97] := ⟨_, rfl⟩
  obtain ⟨B, hB⟩ : ∃ B, B = blk [98] := ⟨_, rfl⟩
  have LA : Hid (A.length = 60) := Lib.hid (by rw [hA, blk_length])
  have LB : Hid (B.length = 60) := Lib.hid (by rw [hB, blk_length])
  have LA2 : Hid ((bytes A).length = 60) := Lib.hid (by rw [bytes_length]; exact LA.out)
  have LB2 : Hid ((bytes B).length = 60) := Lib.hid (by rw [bytes_length]; exact LB.out)
  have HA1 : Hid ((bytes A).all (·.oneCell') = true) := Lib.hid (bytes_oneC A)
  have HB1 : Hid ((bytes B).all (·.oneCell') = true) := Lib.hid (bytes_oneC B)
  have HBA : Hid (∀ u, Calls Tryz.prog 12 #[.string { data := #[97] }] u fun e w' => e = .returned (.agg (bytes A).toArray) ∧ Below u.heap.size u w') := Lib.hid fun u => by rw [hA]; exact refBlock_any { data := #[97] } u (by decide)
  have HBB : Hid (∀ u, Calls Tryz.prog 12 #[.string { data := #[98] }] u fun e w' => e = .returned (.agg (bytes B).toArray) ∧ Below u.heap.size u w') := Lib.hid fun u => by rw [hB]; exact refBlock_any { data := #[98] } u (by decide)
  obtain ⟨MA, hMA⟩ : ∃ M, M = bytes A := ⟨_, rfl⟩
  obtain ⟨MB, hMB⟩ : ∃ M, M = bytes B := ⟨_, rfl⟩
  rw [← hMA] at LA2 HA1 HBA
  rw [← hMB] at LB2 HB1 HBB
  have HMA := Lib.hid hMA
  have HMB := Lib.hid hMB
  have HIB := Lib.hid info_block3
  have HP0 : Hid (0 < 60) := Lib.hid (by omega)
  have HVS : Hid (∀ l ∈ [MA, MB], l.length = 60) := Lib.hid fun l hl => by
    rcases List.mem_cons.1 hl with rfl | hl
    · exact LA2.out
    · rcases List.mem_cons.1 hl with rfl | hl
      · exact LB2.out
      · cases hl
  have HVL : Hid (0 < [MA, MB].length) := Lib.hid (by show 0 < 2; omega)
  have HVM : Hid ([MA, MB].length * 60 ≤ 2 ^ 24) := Lib.hid (by show 2 * 60 ≤ 2 ^ 24; omega)
  have hfl : [MA, MB].flatten = bytes (grid 2 (ofL [A, B])) := by
    have hgo := grid_of [A, B] (fun x hx => by
      rcases List.mem_cons.1 hx with rfl | hx
      · exact LA.out
      · rcases List.mem_cons.1 hx with rfl | hx
        · exact LB.out
        · cases hx)
    have e2 : grid 2 (ofL [A, B]) = [A, B].flatten := hgo.symm
    rw [e2, hMA, hMB]
    simp [bytes]
  have HAB : Hid (bkF (wholeF (ofL [A, B]) 2 2) 0 = A ∧ bkF (wholeF (ofL [A, B]) 2 2) 1 = B) := Lib.hid (by
    have hall : ∀ x ∈ [A, B], x.length = 60 := fun x hx => by
      rcases List.mem_cons.1 hx with rfl | hx
      · exact LA.out
      · rcases List.mem_cons.1 hx with rfl | hx
        · exact LB.out
        · cases hx
    exact ⟨(bkF_eq.2 fun b _ => wholeT_data _ 2 2 60 0 b (by omega)).trans (bkF_ofL [A, B] hall 0 (by show 0 < 2; omega)), (bkF_eq.2 fun b _ => wholeT_data _ 2 2 60 1 b (by omega)).trans (bkF_ofL [A, B] hall 1 (by show 1 < 2; omega))⟩)
  obtain ⟨f, hf⟩ : ∃ f : Fb, f = ofL [A, B] := ⟨_, rfl⟩
  rw [← hf] at HAB hfl
  have HEN : Hid (∀ (u : World) (c cc b sb g : Nat), Cdr u c cc b sb 2 2 1 → Lies u u.heap.size (some ⟨g, 0, none⟩) [MA, MB].flatten → Calls Tryz.prog 7 #[.pointer (some ⟨c, 0, none⟩), .slice (some ⟨g, 0, none⟩) 2 2] u fun e w' =>
      (∃ g, e = .returned (.tuple #[.slice (some ⟨g, 0, none⟩) 4 4, .int .i64 0]) ∧ u.heap.size ≤ g ∧ Row w' g 9 (strs (encF f 2 2))) ∧ Below u.heap.size u w') := Lib.hid fun u c cc b sb g h1 h2 => by
    rw [hfl] at h2
    exact str_encode_any c cc b sb 2 2 1 (some ⟨g, 0, none⟩) 2 f u h1 h2
  obtain ⟨BL, hBL⟩ : ∃ B : ByteArray, B = str (List.replicate 64 255) := ⟨_, rfl⟩
  have HRP : Hid (∀ u, Calls Tryz.prog 13 #[.string { data := #[255] }, .int .i64 64] u fun e w' => e = .returned (.string BL) ∧ Below u.heap.size u w') := Lib.hid fun u => by rw [hBL]; exact tag_rep 255 64 u (by omega)
  have HIST := Lib.hid info_str1
  have H04 : Hid (0 < (strs (encF f 2 2)).length) := Lib.hid (by rw [strs_length, encF_length]; omega)
  have H24 : Hid (2 < ((strs (encF f 2 2)).set 0 (.string BL)).length) := Lib.hid (by rw [List.length_set, strs_length, encF_length]; omega)
  have HST : Hid (((strs (encF f 2 2)).set 0 (.string BL)).set 2 (.string { data := #[] }) = strs (((encF f 2 2).set 0 BL).set 2 ByteArray.empty)) := Lib.hid (by
    rw [strs, strs, List.map_set, List.map_set]; rfl)
  have hbd := awake_bad f BL hBL
  have HRD : Hid (∀ (u : World) (c cc b sb g : Nat), Cdr u c cc b sb 2 2 1 → Lies u u.heap.size (some ⟨g, 0, none⟩) (strs (((encF f 2 2).set 0 BL).set 2 ByteArray.empty)) → Calls Tryz.prog 10 #[.pointer (some ⟨c, 0, none⟩), .slice (some ⟨g, 0, none⟩) 4 4] u fun e w' =>
      (∃ g a2 c2, e = .returned (.tuple #[.agg #[.slice (some ⟨g, 0, none⟩) 4 4, .slice a2 2 c2], .int .i64 0]) ∧ Row w' g 47 (bytes (grid 4 (wholeF f 2 2))) ∧ 2 ≤ c2 ∧ Lies w' w'.heap.size a2 (nats [0, 2])) ∧ Below u.heap.size u w') := Lib.hid fun u c cc b sb g h1 h2 => by
    obtain ⟨h3, h4, h5, h6⟩ := hbd
    have := str_read_good c cc b sb 2 2 1 (some ⟨g, 0, none⟩) 4 4 _ f u h1 rfl h3 h4 h2 (Or.inl ⟨h5, by rw [h6]; simp⟩)
    rw [h6] at this
    exact this
  have HFZ := Lib.hid found_zero
  clear hO hA hB hMA hMB hfl hBL hbd
  go_enter Tryz.func4, Tryz.ntmps4
  go_wp2_with (first
    | (go_at_call 6; (with_reducible refine HNW.out.mono ?_); rintro e u1 ⟨⟨c, cc, b, sb, rfl, c1⟩, b1⟩; have C1 := Lib.hid c1; have B1 := Lib.hid b1; clear c1 b1)
    | (go_at_call 12; (with_reducible refine (HBA.out u1).mono ?_); rintro e u2 ⟨rfl, b2⟩; have C2 := Lib.hid (C1.out.step b2); have B2 := Lib.hid (B1.out.next b2); clear b2)
    | (go_at_call 12; (with_reducible refine (HBB.out u2).mono ?_); rintro e u3 ⟨rfl, b3⟩; have C3 := Lib.hid (C2.out.step b3); have B3 := Lib.hid (B2.out.next b3); clear b3)
    | ((with_reducible refine wpAllocK (w := u3) (bytes O) 47 HZ0.out ?_ ?_); rfl; intro u4 r4 b4 s4; have R4 := Lib.hid r4; have C4 := Lib.hid (C3.out.step b4); have B4 := Lib.hid (B3.out.next b4); have S4 := Lib.hid s4; have W4 := Lib.hid b4; clear r4 b4 s4)
    | ((with_reducible refine wpAllocK (w := u4) (bytes O) 47 HZ0.out ?_ ?_); rfl; intro u5 r5 b5 s5; have R5 := Lib.hid r5; have Q5 := Lib.hid (R4.out.step b5); have W5 : Hid (Below u3.heap.size u3 u5) := Lib.hid (W4.out.next b5); have C5 := Lib.hid (C4.out.step b5); have B5 := Lib.hid (B4.out.next b5); clear r5 b5 s5)
    | ((with_reducible refine Q5.out.wpStoreK 47 MA fits_block LO.out LA2.out HA1.out ?_ ?_); rfl; intro u6 r6 o6 s6; have Q6 := Lib.hid r6; have R6 := Lib.hid (R5.out.only o6 (by have := S4.out; omega)); have W6 : Hid (Below u3.heap.size u3 u6) := Lib.hid (W5.out.trans (o6.below (Nat.le_refl _) W5.out.size)); clear r6 o6 s6)
    | ((with_reducible refine R6.out.wpStoreK 47 MB fits_block LO.out LB2.out HB1.out ?_ ?_); rfl; intro u7 r7 o7 s7; have R7 := Lib.hid r7; have Q7 := Lib.hid (Q6.out.only o7 (by have := S4.out; omega)); have W7 : Hid (Below u3.heap.size u3 u7) := Lib.hid (W6.out.trans (o7.below W4.out.size W6.out.size)); have C7 := Lib.hid (C3.out.step W7.out); have B7 := Lib.hid (B3.out.next W7.out); clear r7 o7 s7)
    | ((with_reducible refine Q7.out.wpLoadK 47 fits_block LA2.out ?_ ?_); rfl)
    | ((with_reducible refine R7.out.wpLoadK 47 fits_block LB2.out ?_ ?_); rfl)
    | ((with_reducible refine wpBuildBK (w := u7) [MA, MB] 60 24 47 Tryz.underlying24 HIB.out HP0.out HVS.out HVL.out HVM.out ?_ ?_); rfl; intro u8 r8 b8 s8; have R8 := Lib.hid (row_lies r8); have P8 := Lib.hid (R7.out.step b8); have Q8 := Lib.hid (Q7.out.step b8); have C8 := Lib.hid (C7.out.step b8); have B8 := Lib.hid (B7.out.next b8); clear r8 b8 s8)
    | (go_at_call 7; (with_reducible refine (HEN.out u8 c cc b sb _ C8.out R8.out).mono ?_); rintro e u9 ⟨⟨gs, rfl, q9, r9⟩, b9⟩; have R9 := Lib.hid r9; have P9 := Lib.hid (P8.out.step b9); have Q9 := Lib.hid (Q8.out.step b9); have C9 := Lib.hid (C8.out.step b9); have B9 := Lib.hid (B8.out.next b9); have G9 := Lib.hid q9; have W9 := Lib.hid b9; clear q9 r9 b9)
    | (go_at_call 13; (with_reducible refine (HRP.out u9).mono ?_); rintro e u10 ⟨rfl, b10⟩; have R10 := Lib.hid (R9.out.step b10); have P10 := Lib.hid (P9.out.step b10); have Q10 := Lib.hid (Q9.out.step b10); have C10 := Lib.hid (C9.out.step b10); have B10 := Lib.hid (B9.out.next b10); have W10 : Hid (Below u8.heap.size u8 u10) := Lib.hid (W9.out.next b10); clear b10)
    | ((with_reducible refine R10.out.wpStore1K 0 9 (.string BL) HIST.out H04.out ?_ ?_ ?_ ?_); rfl; rfl; rfl; intro u11 r11 o11 s11; have R11 := Lib.hid r11; have O11 := Lib.hid o11; have S11 := Lib.hid s11; clear r11 o11 s11)
    | ((with_reducible refine R11.out.wpStore1K 2 9 (.string { data := #[] }) HIST.out H24.out ?_ ?_ ?_ ?_); rfl; rfl; rfl; intro u12 r12 o12 s12; rw [HST.out] at r12; have R12 := Lib.hid (row_lies r12); have W12 : Hid (Below u8.heap.size u8 u12) := Lib.hid (W10.out.trans ((O11.out.trans o12).below G9.out W10.out.size)); have C12 := Lib.hid (C8.out.step W12.out); have P12 := Lib.hid (P8.out.step W12.out); have Q12 := Lib.hid (Q8.out.step W12.out); have B12 := Lib.hid (B8.out.next W12.out); clear r12 o12 s12)
    | (go_at_call 10; (with_reducible refine (HRD.out u12 c cc b sb gs C12.out R12.out).mono ?_); rintro e u13 ⟨⟨g13, a13, c13, rfl, r13, q13, l13⟩, b13⟩; have Q2C := Lib.hid q13; have R13 := Lib.hid r13; have L13 := Lib.hid l13; have P13 := Lib.hid (P12.out.step b13); have Q13 := Lib.hid (Q12.out.step b13); have B13 := Lib.hid (B12.out.next b13); clear r13 q13 l13 b13)
    | ((with_reducible refine wpAllocK (w := u13) nilFound 42 HFZ.out ?_ ?_); rfl; intro u14 r14 b14 s14; have F14 := Lib.hid r14; have W14 := Lib.hid b14; clear r14 b14 s14)
    | ((with_reducible refine F14.out.wpStoreK 42 [.slice (some ⟨g13, 0, none⟩) 4 4, .slice a13 2 c13] found_fits rfl rfl rfl ?_ ?_); rfl; intro u15 r15 o15 s15; have F15 := Lib.hid r15; have W15 : Hid (Below u13.heap.size u13 u15) := Lib.hid (W14.out.trans (o15.below (Nat.le_refl _) W14.out.size)); clear r15 o15 s15))
  have R15 := Lib.hid (R13.out.step W15.out)
  have L15 := Lib.hid (L13.out.step W15.out)
  have P15 := Lib.hid (P13.out.step W15.out)
  have Q15 := Lib.hid (Q13.out.step W15.out)
  have B15 := Lib.hid (B13.out.next W15.out)
  obtain ⟨g3, hg3⟩ : ∃ g, u3.heap.size = g := ⟨_, rfl⟩
  obtain ⟨g4, hg4⟩ : ∃ g, u4.heap.size = g := ⟨_, rfl⟩
  obtain ⟨g7, hg7⟩ : ∃ g, u13.heap.size = g := ⟨_, rfl⟩
  rw [hg3] at Q15 ⊢
  rw [hg4] at P15 ⊢
  rw [hg7] at F15 ⊢
  have K0 : Hid (u15.cell? ⟨g7, 0, none⟩ = some (.slice (some ⟨g13, 0, none⟩) 4 4)) := Lib.hid (F15.out.cell 0)
  have K1 : Hid (u15.cell? ⟨g7, 1, none⟩ = some (.slice a13 2 c13)) := Lib.hid (F15.out.cell 1)
  have G7 := Lib.hid F15.out.lt
  have HRA : Hid (∀ wx, Below u15.heap.size u15 wx → wx.rangeAt g13 0 MA ∧ wx.rangeAt g13 60 MB) := Lib.hid fun wx hb => by
    have hr := R15.out.step hb
    have hcc : ∀ j u, (bytes (grid 4 (wholeF f 2 2)))[j]? = some u → wx.cell? ⟨g13, 0 + j, none⟩ = some u := fun j u hj => by rw [Nat.zero_add, hr.cell]; exact hj
    have h0 := grid_range hcc 0 (by omega)
    have h1 := grid_range hcc 1 (by omega)
    rw [HAB.out.1, ← HMA.out] at h0
    rw [HAB.out.2, ← HMB.out] at h1
    exact ⟨h0, h1⟩
  have HEA : Hid (∀ u : World, (Op.equalIn 10000 47 (.agg MA.toArray) (.agg MA.toArray)).run Tryz.prog u = .ok true u) := Lib.hid (by rw [HMA.out]; exact same_block A LA.out)
  have HEB : Hid (∀ u : World, (Op.equalIn 10000 47 (.agg MB.toArray) (.agg MB.toArray)).run Tryz.prog u = .ok true u) := Lib.hid (by rw [HMB.out]; exact same_block B LB.out)
  have HSM : Hid (∀ wx, Below u15.heap.size u15 wx → ∀ v, IRd [0, 2] v wx → Calls Tryz.prog 14 #[.slice a13 2 c13, v] wx fun e w' => e = .returned (.bool true) ∧ Below wx.heap.size wx w') := Lib.hid fun wx hb v hv =>
    (same_nats (.slice a13 2 c13) v [0, 2] [0, 2] wx (by simp) (by simp) ⟨a13, c13, rfl, Q2C.out, L15.out.step hb⟩ hv).mono fun e w' ⟨h1, h2⟩ => ⟨by rw [h1]; rfl, h2⟩
  clear hg3 hg4 hg7 R15 L15 F15 P13 Q13 P12 Q12 C12 R12 W12 B12 C8 C9 C10 HRD HRP HEN HNW HZ0 HBA HBB HVS HAB HFZ
  refine region_invX [(0, 48), (1, 49), (2, 50), (3, 51), (4, 52), (5, 53), (6, 54), (7, 55), (8, 56), (9, 57), (10, 58), (11, 59), (12, 60), (13, 61), (14, 62), (15, 63), (16, 64), (17, 65), (18, 66), (19, 67), (20, 68), (21, 69), (22, 70), (23, 71), (24, 72), (25, 73), (26, 74), (27, 75), (28, 76), (29, 77), (30, 0)]
    (fun ii => [Is (.int .i64 0), Is (.bool true), Is (.bool true), Is (.pointer (some ⟨g7, 0, none⟩)), Is (.slice (some ⟨g13, 0, none⟩) 4 4), Is (.int .i64 4), Is (.bool true), Is (.bool true), Is (.bool true), Is (.pointer (some ⟨g7, 0, none⟩)), Is (.slice (some ⟨g13, 0, none⟩) 4 4), Is (.pointer (some ⟨g13, 0, none⟩)), Is (.agg (MA).toArray), Is (.agg (MA).toArray), Is (.bool true), Is (.bool true), Is (.bool true), Is (.pointer (some ⟨g7, 0, none⟩)), Is (.slice (some ⟨g13, 0, none⟩) 4 4), Is (.pointer (some ⟨g13, 60, none⟩)), Is (.agg (MB).toArray), Is (.agg (MB).toArray), Is (.bool true), Is (.bool true), Is (.bool true), Is (.pointer (some ⟨g7, 1, none⟩)), Is (.slice a13 2 c13), IRd [0, 2], Is (.bool true), Is (.bool true), Is (.bool true)].getD ii (Is undef))
    (fun w' => Below u15.heap.size u15 w') (by kernel_rfl) (by kernel_rfl) (by decide) (by decide) (by kernel_rfl) rfl ?monoa ((Below.refl _ _).drew) ?stepa ?fina
  case monoa =>
    intro i
    match i with
    | 0 | 1 | 2 | 3 | 4 | 5 | 6 | 7 | 8 | 9 | 10 | 11 | 12 | 13 | 14 | 15 | 16 | 17 | 18 | 19 | 20 | 21 | 22 | 23 | 24 | 25 | 26 | 28 | 29 | 30 => exact Is.monot _
    | 27 => exact IRd.monot _
    | _ + 31 => exact Is.monot _
  case stepa =>
    refine List.forall_mem_cons.2 ⟨?as0, List.forall_mem_cons.2 ⟨?as1, List.forall_mem_cons.2 ⟨?as2, List.forall_mem_cons.2 ⟨?as3, List.forall_mem_cons.2 ⟨?as4, List.forall_mem_cons.2 ⟨?as5, List.forall_mem_cons.2 ⟨?as6, List.forall_mem_cons.2 ⟨?as7, List.forall_mem_cons.2 ⟨?as8, List.forall_mem_cons.2 ⟨?as9, List.forall_mem_cons.2 ⟨?as10, List.forall_mem_cons.2 ⟨?as11, List.forall_mem_cons.2 ⟨?as12, List.forall_mem_cons.2 ⟨?as13, List.forall_mem_cons.2 ⟨?as14, List.forall_mem_cons.2 ⟨?as15, List.forall_mem_cons.2 ⟨?as16, List.forall_mem_cons.2 ⟨?as17, List.forall_mem_cons.2 ⟨?as18, List.forall_mem_cons.2 ⟨?as19, List.forall_mem_cons.2 ⟨?as20, List.forall_mem_cons.2 ⟨?as21, List.forall_mem_cons.2 ⟨?as22, List.forall_mem_cons.2 ⟨?as23, List.forall_mem_cons.2 ⟨?as24, List.forall_mem_cons.2 ⟨?as25, List.forall_mem_cons.2 ⟨?as26, List.forall_mem_cons.2 ⟨?as27, List.forall_mem_cons.2 ⟨?as28, List.forall_mem_cons.2 ⟨?as29, List.forall_mem_cons.2 ⟨?as30, List.forall_mem_nil _⟩⟩⟩⟩⟩⟩⟩⟩⟩⟩⟩⟩⟩⟩⟩⟩⟩⟩⟩⟩⟩⟩⟩⟩⟩⟩⟩⟩⟩⟩⟩
    case as0 =>
      intro u wx hg hC
      clear hC
      refine wpOp_step rfl (fun K hK => ?_)
      simp only [puts, List.foldl]
      go_simp
      exact hK _ _ ⟨rfl, rfl, hg, Below.refl _ _⟩
    case as1 =>
      intro u wx hg hC
      have hJ0 : u 0 = (.int .i64 0) := hC.at 0 (by kernel_rfl)
      clear hC
      refine wpOp_step rfl (fun K hK => ?_)
      simp only [puts, List.foldl]
      go_simp
      exact hK _ _ ⟨rfl, rfl, hg, Below.refl _ _⟩
    case as2 =>
      intro u wx hg hC
      have hJ1 : u 1 = (.bool true) := hC.at 1 (by kernel_rfl)
      clear hC
      refine wpOp_step rfl (fun K hK => ?_)
      simp only [puts, List.foldl]
      go_simp
      exact hK _ _ ⟨rfl, rfl, hg, Below.refl _ _⟩
    case as3 =>
      intro u wx hg hC
      have hJ2 : u 2 = (.bool true) := hC.at 2 (by kernel_rfl)
      clear hC
      generalize hA : puts [(0, 48), (1, 49), (2, 50), (3, 51), (4, 52), (5, 53), (6, 54), (7, 55), (8, 56), (9, 57), (10, 58), (11, 59), (12, 60), (13, 61), (14, 62), (15, 63), (16, 64), (17, 65), (18, 66), (19, 67), (20, 68), (21, 69), (22, 70), (23, 71), (24, 72), (25, 73), (26, 74), (27, 75), (28, 76), (29, 77), (30, 0)] _ u = A
      have hgv : A.tmps.getD 50 undef = .bool true := by rw [← hA]; exact (puts_get u 2 50 _ _ (by decide) (by decide) (by kernel_rfl)).trans hJ2
      have hgs : 50 < A.tmps.size := by rw [← hA]; exact puts_room u (by kernel_rfl)
      refine wpOp_guard rfl 2 50 true rfl rfl hgs hgv (fun K hK => ?_)
      subst hA
      simp only [puts, List.foldl]
      go_simp
      exact hK _ _ ⟨rfl, rfl, hg, Below.refl _ _⟩
    case as4 =>
      intro u wx hg hC
      have hJ2 : u 2 = (.bool true) := hC.at 2 (by kernel_rfl)
      have hJ3 : u 3 = (.pointer (some ⟨g7, 0, none⟩)) := hC.at 3 (by kernel_rfl)
      clear hC
      have hcl : wx.cell? ⟨g7, 0, none⟩ = some (.slice (some ⟨g13, 0, none⟩) 4 4) := (hg.cell (p := ⟨g7, 0, none⟩) G7.out).trans K0.out
      generalize hA : puts [(0, 48), (1, 49), (2, 50), (3, 51), (4, 52), (5, 53), (6, 54), (7, 55), (8, 56), (9, 57), (10, 58), (11, 59), (12, 60), (13, 61), (14, 62), (15, 63), (16, 64), (17, 65), (18, 66), (19, 67), (20, 68), (21, 69), (22, 70), (23, 71), (24, 72), (25, 73), (26, 74), (27, 75), (28, 76), (29, 77), (30, 0)] _ u = A
      have hgv : A.tmps.getD 50 undef = .bool true := by rw [← hA]; exact (puts_get u 2 50 _ _ (by decide) (by decide) (by kernel_rfl)).trans hJ2
      have hgs : 50 < A.tmps.size := by rw [← hA]; exact puts_room u (by kernel_rfl)
      refine wpOp_guard rfl 2 50 true rfl rfl hgs hgv (fun K hK => ?_)
      subst hA
      simp only [puts, List.foldl]
      go_simp
      exact hK _ _ ⟨rfl, rfl, hg, Below.refl _ _⟩
    case as5 =>
      intro u wx hg hC
      have hJ2 : u 2 = (.bool true) := hC.at 2 (by kernel_rfl)
      have hJ4 : u 4 = (.slice (some ⟨g13, 0, none⟩) 4 4) := hC.at 4 (by kernel_rfl)
      clear hC
      generalize hA : puts [(0, 48), (1, 49), (2, 50), (3, 51), (4, 52), (5, 53), (6, 54), (7, 55), (8, 56), (9, 57), (10, 58), (11, 59), (12, 60), (13, 61), (14, 62), (15, 63), (16, 64), (17, 65), (18, 66), (19, 67), (20, 68), (21, 69), (22, 70), (23, 71), (24, 72), (25, 73), (26, 74), (27, 75), (28, 76), (29, 77), (30, 0)] _ u = A
      have hgv : A.tmps.getD 50 undef = .bool true := by rw [← hA]; exact (puts_get u 2 50 _ _ (by decide) (by decide) (by kernel_rfl)).trans hJ2
      have hgs : 50 < A.tmps.size := by rw [← hA]; exact puts_room u (by kernel_rfl)
      refine wpOp_guard rfl 2 50 true rfl rfl hgs hgv (fun K hK => ?_)
      subst hA
      simp only [puts, List.foldl]
      go_simp
      exact hK _ _ ⟨rfl, rfl, hg, Below.refl _ _⟩
    case as6 =>
      intro u wx hg hC
      have hJ2 : u 2 = (.bool true) := hC.at 2 (by kernel_rfl)
      have hJ5 : u 5 = (.int .i64 4) := hC.at 5 (by kernel_rfl)
      clear hC
      generalize hA : puts [(0, 48), (1, 49), (2, 50), (3, 51), (4, 52), (5, 53), (6, 54), (7, 55), (8, 56), (9, 57), (10, 58), (11, 59), (12, 60), (13, 61), (14, 62), (15, 63), (16, 64), (17, 65), (18, 66), (19, 67), (20, 68), (21, 69), (22, 70), (23, 71), (24, 72), (25, 73), (26, 74), (27, 75), (28, 76), (29, 77), (30, 0)] _ u = A
      have hgv : A.tmps.getD 50 undef = .bool true := by rw [← hA]; exact (puts_get u 2 50 _ _ (by decide) (by decide) (by kernel_rfl)).trans hJ2
      have hgs : 50 < A.tmps.size := by rw [← hA]; exact puts_room u (by kernel_rfl)
      refine wpOp_guard rfl 2 50 true rfl rfl hgs hgv (fun K hK => ?_)
      subst hA
      simp only [puts, List.foldl]
      go_simp
      exact hK _ _ ⟨rfl, rfl, hg, Below.refl _ _⟩
    case as7 =>
      intro u wx hg hC
      have hJ2 : u 2 = (.bool true) := hC.at 2 (by kernel_rfl)
      have hJ6 : u 6 = (.bool true) := hC.at 6 (by kernel_rfl)
      clear hC
      refine wpOp_step rfl (fun K hK => ?_)
      simp only [puts, List.foldl]
      go_simp
      exact hK _ _ ⟨rfl, rfl, hg, Below.refl _ _⟩
    case as8 =>
      intro u wx hg hC
      have hJ7 : u 7 = (.bool true) := hC.at 7 (by kernel_rfl)
      clear hC
      refine wpOp_step rfl (fun K hK => ?_)
      simp only [puts, List.foldl]
      go_simp
      exact hK _ _ ⟨rfl, rfl, hg, Below.refl _ _⟩
    case as9 =>
      intro u wx hg hC
      have hJ8 : u 8 = (.bool true) := hC.at 8 (by kernel_rfl)
      clear hC
      generalize hA : puts [(0, 48), (1, 49), (2, 50), (3, 51), (4, 52), (5, 53), (6, 54), (7, 55), (8, 56), (9, 57), (10, 58), (11, 59), (12, 60), (13, 61), (14, 62), (15, 63), (16, 64), (17, 65), (18, 66), (19, 67), (20, 68), (21, 69), (22, 70), (23, 71), (24, 72), (25, 73), (26, 74), (27, 75), (28, 76), (29, 77), (30, 0)] _ u = A
      have hgv : A.tmps.getD 56 undef = .bool true := by rw [← hA]; exact (puts_get u 8 56 _ _ (by decide) (by decide) (by kernel_rfl)).trans hJ8
      have hgs : 56 < A.tmps.size := by rw [← hA]; exact puts_room u (by kernel_rfl)
      refine wpOp_guard rfl 8 56 true rfl rfl hgs hgv (fun K hK => ?_)
      subst hA
      simp only [puts, List.foldl]
      go_simp
      exact hK _ _ ⟨rfl, rfl, hg, Below.refl _ _⟩
    case as10 =>
      intro u wx hg hC
      have hJ8 : u 8 = (.bool true) := hC.at 8 (by kernel_rfl)
      have hJ9 : u 9 = (.pointer (some ⟨g7, 0, none⟩)) := hC.at 9 (by kernel_rfl)
      clear hC
      have hcl : wx.cell? ⟨g7, 0, none⟩ = some (.slice (some ⟨g13, 0, none⟩) 4 4) := (hg.cell (p := ⟨g7, 0, none⟩) G7.out).trans K0.out
      generalize hA : puts [(0, 48), (1, 49), (2, 50), (3, 51), (4, 52), (5, 53), (6, 54), (7, 55), (8, 56), (9, 57), (10, 58), (11, 59), (12, 60), (13, 61), (14, 62), (15, 63), (16, 64), (17, 65), (18, 66), (19, 67), (20, 68), (21, 69), (22, 70), (23, 71), (24, 72), (25, 73), (26, 74), (27, 75), (28, 76), (29, 77), (30, 0)] _ u = A
      have hgv : A.tmps.getD 56 undef = .bool true := by rw [← hA]; exact (puts_get u 8 56 _ _ (by decide) (by decide) (by kernel_rfl)).trans hJ8
      have hgs : 56 < A.tmps.size := by rw [← hA]; exact puts_room u (by kernel_rfl)
      refine wpOp_guard rfl 8 56 true rfl rfl hgs hgv (fun K hK => ?_)
      subst hA
      simp only [puts, List.foldl]
      go_simp
      exact hK _ _ ⟨rfl, rfl, hg, Below.refl _ _⟩
    case as11 =>
      intro u wx hg hC
      have hJ8 : u 8 = (.bool true) := hC.at 8 (by kernel_rfl)
      have hJ10 : u 10 = (.slice (some ⟨g13, 0, none⟩) 4 4) := hC.at 10 (by kernel_rfl)
      clear hC
      generalize hA : puts [(0, 48), (1, 49), (2, 50), (3, 51), (4, 52), (5, 53), (6, 54), (7, 55), (8, 56), (9, 57), (10, 58), (11, 59), (12, 60), (13, 61), (14, 62), (15, 63), (16, 64), (17, 65), (18, 66), (19, 67), (20, 68), (21, 69), (22, 70), (23, 71), (24, 72), (25, 73), (26, 74), (27, 75), (28, 76), (29, 77), (30, 0)] _ u = A
      have hgv : A.tmps.getD 56 undef = .bool true := by rw [← hA]; exact (puts_get u 8 56 _ _ (by decide) (by decide) (by kernel_rfl)).trans hJ8
      have hgs : 56 < A.tmps.size := by rw [← hA]; exact puts_room u (by kernel_rfl)
      refine wpOp_guard rfl 8 56 true rfl rfl hgs hgv (fun K hK => ?_)
      subst hA
      simp only [puts, List.foldl]
      go_simp
      exact hK _ _ ⟨rfl, rfl, hg, Below.refl _ _⟩
    case as12 =>
      intro u wx hg hC
      have hJ8 : u 8 = (.bool true) := hC.at 8 (by kernel_rfl)
      have hJ11 : u 11 = (.pointer (some ⟨g13, 0, none⟩)) := hC.at 11 (by kernel_rfl)
      clear hC
      generalize hA : puts [(0, 48), (1, 49), (2, 50), (3, 51), (4, 52), (5, 53), (6, 54), (7, 55), (8, 56), (9, 57), (10, 58), (11, 59), (12, 60), (13, 61), (14, 62), (15, 63), (16, 64), (17, 65), (18, 66), (19, 67), (20, 68), (21, 69), (22, 70), (23, 71), (24, 72), (25, 73), (26, 74), (27, 75), (28, 76), (29, 77), (30, 0)] _ u = A
      have hgv : A.tmps.getD 56 undef = .bool true := by rw [← hA]; exact (puts_get u 8 56 _ _ (by decide) (by decide) (by kernel_rfl)).trans hJ8
      have hgs : 56 < A.tmps.size := by rw [← hA]; exact puts_room u (by kernel_rfl)
      have hp : A.tmps.getD 59 undef = .pointer (some ⟨g13, 0, none⟩) := by rw [← hA]; exact (puts_get u 11 59 _ _ (by decide) (by decide) (by kernel_rfl)).trans hJ11
      have hsz : 60 < A.tmps.size := by rw [← hA]; exact puts_room u (by kernel_rfl)
      refine wpOp_guard rfl 8 56 true rfl rfl hgs hgv (fun K hK => ?_)
      clear hA
      exact opLoadRK (φ := Is (.agg (MA).toArray)) (HRA.out wx hg).1 _ fits_block LA2.out 60 rfl hsz hK (.tmp 59) rfl hp rfl hg
    case as13 =>
      intro u wx hg hC
      have hJ8 : u 8 = (.bool true) := hC.at 8 (by kernel_rfl)
      clear hC
      generalize hA : puts [(0, 48), (1, 49), (2, 50), (3, 51), (4, 52), (5, 53), (6, 54), (7, 55), (8, 56), (9, 57), (10, 58), (11, 59), (12, 60), (13, 61), (14, 62), (15, 63), (16, 64), (17, 65), (18, 66), (19, 67), (20, 68), (21, 69), (22, 70), (23, 71), (24, 72), (25, 73), (26, 74), (27, 75), (28, 76), (29, 77), (30, 0)] _ u = A
      have hgv : A.tmps.getD 56 undef = .bool true := by rw [← hA]; exact (puts_get u 8 56 _ _ (by decide) (by decide) (by kernel_rfl)).trans hJ8
      have hgs : 56 < A.tmps.size := by rw [← hA]; exact puts_room u (by kernel_rfl)
      have hp : A.tmps.getD 3 undef = .pointer (some ⟨g3, 0, none⟩) := by rw [← hA]; exact (puts_get_out u _ _ 3 (by decide)).trans (by rfl)
      have hsz : 61 < A.tmps.size := by rw [← hA]; exact puts_room u (by kernel_rfl)
      refine wpOp_guard rfl 8 56 true rfl rfl hgs hgv (fun K hK => ?_)
      clear hA
      exact opLoadK (φ := Is (.agg (MA).toArray)) (Q15.out.step hg) _ fits_block LA2.out 61 rfl hsz hK (.tmp 3) rfl hp rfl hg
    case as14 =>
      intro u wx hg hC
      have hJ8 : u 8 = (.bool true) := hC.at 8 (by kernel_rfl)
      have hJ12 : u 12 = (.agg (MA).toArray) := hC.at 12 (by kernel_rfl)
      have hJ13 : u 13 = (.agg (MA).toArray) := hC.at 13 (by kernel_rfl)
      clear hC
      have heq := HEA.out
      generalize hA : puts [(0, 48), (1, 49), (2, 50), (3, 51), (4, 52), (5, 53), (6, 54), (7, 55), (8, 56), (9, 57), (10, 58), (11, 59), (12, 60), (13, 61), (14, 62), (15, 63), (16, 64), (17, 65), (18, 66), (19, 67), (20, 68), (21, 69), (22, 70), (23, 71), (24, 72), (25, 73), (26, 74), (27, 75), (28, 76), (29, 77), (30, 0)] _ u = A
      have hgv : A.tmps.getD 56 undef = .bool true := by rw [← hA]; exact (puts_get u 8 56 _ _ (by decide) (by decide) (by kernel_rfl)).trans hJ8
      have hgs : 56 < A.tmps.size := by rw [← hA]; exact puts_room u (by kernel_rfl)
      refine wpOp_guard rfl 8 56 true rfl rfl hgs hgv (fun K hK => ?_)
      subst hA
      simp only [puts, List.foldl]
      go_simp
      exact hK _ _ ⟨rfl, rfl, hg, Below.refl _ _⟩
    case as15 =>
      intro u wx hg hC
      have hJ8 : u 8 = (.bool true) := hC.at 8 (by kernel_rfl)
      have hJ14 : u 14 = (.bool true) := hC.at 14 (by kernel_rfl)
      clear hC
      refine wpOp_step rfl (fun K hK => ?_)
      simp only [puts, List.foldl]
      go_simp
      exact hK _ _ ⟨rfl, rfl, hg, Below.refl _ _⟩
    case as16 =>
      intro u wx hg hC
      have hJ15 : u 15 = (.bool true) := hC.at 15 (by kernel_rfl)
      clear hC
      refine wpOp_step rfl (fun K hK => ?_)
      simp only [puts, List.foldl]
      go_simp
      exact hK _ _ ⟨rfl, rfl, hg, Below.refl _ _⟩
    case as17 =>
      intro u wx hg hC
      have hJ16 : u 16 = (.bool true) := hC.at 16 (by kernel_rfl)
      clear hC
      generalize hA : puts [(0, 48), (1, 49), (2, 50), (3, 51), (4, 52), (5, 53), (6, 54), (7, 55), (8, 56), (9, 57), (10, 58), (11, 59), (12, 60), (13, 61), (14, 62), (15, 63), (16, 64), (17, 65), (18, 66), (19, 67), (20, 68), (21, 69), (22, 70), (23, 71), (24, 72), (25, 73), (26, 74), (27, 75), (28, 76), (29, 77), (30, 0)] _ u = A
      have hgv : A.tmps.getD 64 undef = .bool true := by rw [← hA]; exact (puts_get u 16 64 _ _ (by decide) (by decide) (by kernel_rfl)).trans hJ16
      have hgs : 64 < A.tmps.size := by rw [← hA]; exact puts_room u (by kernel_rfl)
      refine wpOp_guard rfl 16 64 true rfl rfl hgs hgv (fun K hK => ?_)
      subst hA
      simp only [puts, List.foldl]
      go_simp
      exact hK _ _ ⟨rfl, rfl, hg, Below.refl _ _⟩
    case as18 =>
      intro u wx hg hC
      have hJ16 : u 16 = (.bool true) := hC.at 16 (by kernel_rfl)
      have hJ17 : u 17 = (.pointer (some ⟨g7, 0, none⟩)) := hC.at 17 (by kernel_rfl)
      clear hC
      have hcl : wx.cell? ⟨g7, 0, none⟩ = some (.slice (some ⟨g13, 0, none⟩) 4 4) := (hg.cell (p := ⟨g7, 0, none⟩) G7.out).trans K0.out
      generalize hA : puts [(0, 48), (1, 49), (2, 50), (3, 51), (4, 52), (5, 53), (6, 54), (7, 55), (8, 56), (9, 57), (10, 58), (11, 59), (12, 60), (13, 61), (14, 62), (15, 63), (16, 64), (17, 65), (18, 66), (19, 67), (20, 68), (21, 69), (22, 70), (23, 71), (24, 72), (25, 73), (26, 74), (27, 75), (28, 76), (29, 77), (30, 0)] _ u = A
      have hgv : A.tmps.getD 64 undef = .bool true := by rw [← hA]; exact (puts_get u 16 64 _ _ (by decide) (by decide) (by kernel_rfl)).trans hJ16
      have hgs : 64 < A.tmps.size := by rw [← hA]; exact puts_room u (by kernel_rfl)
      refine wpOp_guard rfl 16 64 true rfl rfl hgs hgv (fun K hK => ?_)
      subst hA
      simp only [puts, List.foldl]
      go_simp
      exact hK _ _ ⟨rfl, rfl, hg, Below.refl _ _⟩
    case as19 =>
      intro u wx hg hC
      have hJ16 : u 16 = (.bool true) := hC.at 16 (by kernel_rfl)
      have hJ18 : u 18 = (.slice (some ⟨g13, 0, none⟩) 4 4) := hC.at 18 (by kernel_rfl)
      clear hC
      generalize hA : puts [(0, 48), (1, 49), (2, 50), (3, 51), (4, 52), (5, 53), (6, 54), (7, 55), (8, 56), (9, 57), (10, 58), (11, 59), (12, 60), (13, 61), (14, 62), (15, 63), (16, 64), (17, 65), (18, 66), (19, 67), (20, 68), (21, 69), (22, 70), (23, 71), (24, 72), (25, 73), (26, 74), (27, 75), (28, 76), (29, 77), (30, 0)] _ u = A
      have hgv : A.tmps.getD 64 undef = .bool true := by rw [← hA]; exact (puts_get u 16 64 _ _ (by decide) (by decide) (by kernel_rfl)).trans hJ16
      have hgs : 64 < A.tmps.size := by rw [← hA]; exact puts_room u (by kernel_rfl)
      refine wpOp_guard rfl 16 64 true rfl rfl hgs hgv (fun K hK => ?_)
      subst hA
      simp only [puts, List.foldl]
      go_simp
      exact hK _ _ ⟨rfl, rfl, hg, Below.refl _ _⟩
    case as20 =>
      intro u wx hg hC
      have hJ16 : u 16 = (.bool true) := hC.at 16 (by kernel_rfl)
      have hJ19 : u 19 = (.pointer (some ⟨g13, 60, none⟩)) := hC.at 19 (by kernel_rfl)
      clear hC
      generalize hA : puts [(0, 48), (1, 49), (2, 50), (3, 51), (4, 52), (5, 53), (6, 54), (7, 55), (8, 56), (9, 57), (10, 58), (11, 59), (12, 60), (13, 61), (14, 62), (15, 63), (16, 64), (17, 65), (18, 66), (19, 67), (20, 68), (21, 69), (22, 70), (23, 71), (24, 72), (25, 73), (26, 74), (27, 75), (28, 76), (29, 77), (30, 0)] _ u = A
      have hgv : A.tmps.getD 64 undef = .bool true := by rw [← hA]; exact (puts_get u 16 64 _ _ (by decide) (by decide) (by kernel_rfl)).trans hJ16
      have hgs : 64 < A.tmps.size := by rw [← hA]; exact puts_room u (by kernel_rfl)
      have hp : A.tmps.getD 67 undef = .pointer (some ⟨g13, 60, none⟩) := by rw [← hA]; exact (puts_get u 19 67 _ _ (by decide) (by decide) (by kernel_rfl)).trans hJ19
      have hsz : 68 < A.tmps.size := by rw [← hA]; exact puts_room u (by kernel_rfl)
      refine wpOp_guard rfl 16 64 true rfl rfl hgs hgv (fun K hK => ?_)
      clear hA
      exact opLoadRK (φ := Is (.agg (MB).toArray)) (HRA.out wx hg).2 _ fits_block LB2.out 68 rfl hsz hK (.tmp 67) rfl hp rfl hg
    case as21 =>
      intro u wx hg hC
      have hJ16 : u 16 = (.bool true) := hC.at 16 (by kernel_rfl)
      clear hC
      generalize hA : puts [(0, 48), (1, 49), (2, 50), (3, 51), (4, 52), (5, 53), (6, 54), (7, 55), (8, 56), (9, 57), (10, 58), (11, 59), (12, 60), (13, 61), (14, 62), (15, 63), (16, 64), (17, 65), (18, 66), (19, 67), (20, 68), (21, 69), (22, 70), (23, 71), (24, 72), (25, 73), (26, 74), (27, 75), (28, 76), (29, 77), (30, 0)] _ u = A
      have hgv : A.tmps.getD 64 undef = .bool true := by rw [← hA]; exact (puts_get u 16 64 _ _ (by decide) (by decide) (by kernel_rfl)).trans hJ16
      have hgs : 64 < A.tmps.size := by rw [← hA]; exact puts_room u (by kernel_rfl)
      have hp : A.tmps.getD 4 undef = .pointer (some ⟨g4, 0, none⟩) := by rw [← hA]; exact (puts_get_out u _ _ 4 (by decide)).trans (by rfl)
      have hsz : 69 < A.tmps.size := by rw [← hA]; exact puts_room u (by kernel_rfl)
      refine wpOp_guard rfl 16 64 true rfl rfl hgs hgv (fun K hK => ?_)
      clear hA
      exact opLoadK (φ := Is (.agg (MB).toArray)) (P15.out.step hg) _ fits_block LB2.out 69 rfl hsz hK (.tmp 4) rfl hp rfl hg
    case as22 =>
      intro u wx hg hC
      have hJ16 : u 16 = (.bool true) := hC.at 16 (by kernel_rfl)
      have hJ20 : u 20 = (.agg (MB).toArray) := hC.at 20 (by kernel_rfl)
      have hJ21 : u 21 = (.agg (MB).toArray) := hC.at 21 (by kernel_rfl)
      clear hC
      have heq := HEB.out
      generalize hA : puts [(0, 48), (1, 49), (2, 50), (3, 51), (4, 52), (5, 53), (6, 54), (7, 55), (8, 56), (9, 57), (10, 58), (11, 59), (12, 60), (13, 61), (14, 62), (15, 63), (16, 64), (17, 65), (18, 66), (19, 67), (20, 68), (21, 69), (22, 70), (23, 71), (24, 72), (25, 73), (26, 74), (27, 75), (28, 76), (29, 77), (30, 0)] _ u = A
      have hgv : A.tmps.getD 64 undef = .bool true := by rw [← hA]; exact (puts_get u 16 64 _ _ (by decide) (by decide) (by kernel_rfl)).trans hJ16
      have hgs : 64 < A.tmps.size := by rw [← hA]; exact puts_room u (by kernel_rfl)
      refine wpOp_guard rfl 16 64 true rfl rfl hgs hgv (fun K hK => ?_)
      subst hA
      simp only [puts, List.foldl]
      go_simp
      exact hK _ _ ⟨rfl, rfl, hg, Below.refl _ _⟩
    case as23 =>
      intro u wx hg hC
      have hJ16 : u 16 = (.bool true) := hC.at 16 (by kernel_rfl)
      have hJ22 : u 22 = (.bool true) := hC.at 22 (by kernel_rfl)
      clear hC
      refine wpOp_step rfl (fun K hK => ?_)
      simp only [puts, List.foldl]
      go_simp
      exact hK _ _ ⟨rfl, rfl, hg, Below.refl _ _⟩
    case as24 =>
      intro u wx hg hC
      have hJ23 : u 23 = (.bool true) := hC.at 23 (by kernel_rfl)
      clear hC
      refine wpOp_step rfl (fun K hK => ?_)
      simp only [puts, List.foldl]
      go_simp
      exact hK _ _ ⟨rfl, rfl, hg, Below.refl _ _⟩
    case as25 =>
      intro u wx hg hC
      have hJ24 : u 24 = (.bool true) := hC.at 24 (by kernel_rfl)
      clear hC
      generalize hA : puts [(0, 48), (1, 49), (2, 50), (3, 51), (4, 52), (5, 53), (6, 54), (7, 55), (8, 56), (9, 57), (10, 58), (11, 59), (12, 60), (13, 61), (14, 62), (15, 63), (16, 64), (17, 65), (18, 66), (19, 67), (20, 68), (21, 69), (22, 70), (23, 71), (24, 72), (25, 73), (26, 74), (27, 75), (28, 76), (29, 77), (30, 0)] _ u = A
      have hgv : A.tmps.getD 72 undef = .bool true := by rw [← hA]; exact (puts_get u 24 72 _ _ (by decide) (by decide) (by kernel_rfl)).trans hJ24
      have hgs : 72 < A.tmps.size := by rw [← hA]; exact puts_room u (by kernel_rfl)
      refine wpOp_guard rfl 24 72 true rfl rfl hgs hgv (fun K hK => ?_)
      subst hA
      simp only [puts, List.foldl]
      go_simp
      exact hK _ _ ⟨rfl, rfl, hg, Below.refl _ _⟩
    case as26 =>
      intro u wx hg hC
      have hJ24 : u 24 = (.bool true) := hC.at 24 (by kernel_rfl)
      have hJ25 : u 25 = (.pointer (some ⟨g7, 1, none⟩)) := hC.at 25 (by kernel_rfl)
      clear hC
      have hcl : wx.cell? ⟨g7, 1, none⟩ = some (.slice a13 2 c13) := (hg.cell (p := ⟨g7, 1, none⟩) G7.out).trans K1.out
      generalize hA : puts [(0, 48), (1, 49), (2, 50), (3, 51), (4, 52), (5, 53), (6, 54), (7, 55), (8, 56), (9, 57), (10, 58), (11, 59), (12, 60), (13, 61), (14, 62), (15, 63), (16, 64), (17, 65), (18, 66), (19, 67), (20, 68), (21, 69), (22, 70), (23, 71), (24, 72), (25, 73), (26, 74), (27, 75), (28, 76), (29, 77), (30, 0)] _ u = A
      have hgv : A.tmps.getD 72 undef = .bool true := by rw [← hA]; exact (puts_get u 24 72 _ _ (by decide) (by decide) (by kernel_rfl)).trans hJ24
      have hgs : 72 < A.tmps.size := by rw [← hA]; exact puts_room u (by kernel_rfl)
      refine wpOp_guard rfl 24 72 true rfl rfl hgs hgv (fun K hK => ?_)
      subst hA
      simp only [puts, List.foldl]
      go_simp
      exact hK _ _ ⟨rfl, rfl, hg, Below.refl _ _⟩
    case as27 =>
      intro u wx hg hC
      have hJ24 : u 24 = (.bool true) := hC.at 24 (by kernel_rfl)
      clear hC
      generalize hA : puts [(0, 48), (1, 49), (2, 50), (3, 51), (4, 52), (5, 53), (6, 54), (7, 55), (8, 56), (9, 57), (10, 58), (11, 59), (12, 60), (13, 61), (14, 62), (15, 63), (16, 64), (17, 65), (18, 66), (19, 67), (20, 68), (21, 69), (22, 70), (23, 71), (24, 72), (25, 73), (26, 74), (27, 75), (28, 76), (29, 77), (30, 0)] _ u = A
      have hgv : A.tmps.getD 72 undef = .bool true := by rw [← hA]; exact (puts_get u 24 72 _ _ (by decide) (by decide) (by kernel_rfl)).trans hJ24
      have hgs : 72 < A.tmps.size := by rw [← hA]; exact puts_room u (by kernel_rfl)
      refine wpOp_guard rfl 24 72 true rfl rfl hgs hgv (fun K hK => ?_)
      subst hA
      simp only [puts, List.foldl]
      go_simp
      exact hK _ _ ⟨rfl, ⟨some ⟨wx.heap.size, 0, none⟩, 2, rfl, Nat.le_refl _, Lies.new [Value.int .i64 0, Value.int .i64 2] _ _⟩, hg.alloc hg.size _, alloc_below _ _⟩
    case as28 =>
      intro u wx hg hC
      have hJ24 : u 24 = (.bool true) := hC.at 24 (by kernel_rfl)
      have hJ26 : u 26 = (.slice a13 2 c13) := hC.at 26 (by kernel_rfl)
      have hJ27 : (IRd [0, 2]) (u 27) wx := hC.at 27 (by kernel_rfl)
      clear hC
      generalize hA : puts [(0, 48), (1, 49), (2, 50), (3, 51), (4, 52), (5, 53), (6, 54), (7, 55), (8, 56), (9, 57), (10, 58), (11, 59), (12, 60), (13, 61), (14, 62), (15, 63), (16, 64), (17, 65), (18, 66), (19, 67), (20, 68), (21, 69), (22, 70), (23, 71), (24, 72), (25, 73), (26, 74), (27, 75), (28, 76), (29, 77), (30, 0)] _ u = A
      have hgv : A.tmps.getD 72 undef = .bool true := by rw [← hA]; exact (puts_get u 24 72 _ _ (by decide) (by decide) (by kernel_rfl)).trans hJ24
      have hgs : 72 < A.tmps.size := by rw [← hA]; exact puts_room u (by kernel_rfl)
      refine wpOp_guard rfl 24 72 true rfl rfl hgs hgv (fun K hK => ?_)
      subst hA
      simp only [puts, List.foldl]
      go_simp
      refine (HSM.out wx hg _ hJ27).mono ?_
      rintro e w' ⟨rfl, hb'⟩
      exact hK _ _ ⟨rfl, rfl, hg.next hb', hb'⟩
    case as29 =>
      intro u wx hg hC
      have hJ24 : u 24 = (.bool true) := hC.at 24 (by kernel_rfl)
      have hJ28 : u 28 = (.bool true) := hC.at 28 (by kernel_rfl)
      clear hC
      refine wpOp_step rfl (fun K hK => ?_)
      simp only [puts, List.foldl]
      go_simp
      exact hK _ _ ⟨rfl, rfl, hg, Below.refl _ _⟩
    case as30 =>
      intro u wx hg hC
      have hJ29 : u 29 = (.bool true) := hC.at 29 (by kernel_rfl)
      clear hC
      refine wpOp_step rfl (fun K hK => ?_)
      simp only [puts, List.foldl]
      go_simp
      exact hK _ _ ⟨rfl, rfl, hg, Below.refl _ _⟩
  case fina =>
    intro u w16 hb16 hφ
    have e30 : u 30 = .bool true := hφ (30, 0) (by decide)
    clear hφ
    simp only [puts, List.foldl]
    rw [e30]
    go_simp
    have B16 := Lib.hid (B15.out.next hb16)
    clear hb16 e30
    go_wp2
    go_ret
    exact ⟨rfl, B16.out⟩
end Go.Proofs.YtlcmnpbbfnfcmaaGreat
