/- The document's example: awake. (gen_tag_f.py) -/
import Derived.Test.YtmffkfgcopaoeaaTagE
import Derived.Test.YtmffkfgcopaoeaaEq
namespace Go.Proofs.Ytmffkfgcopaoeaa
open Go.RowKit CrcMath
set_option linter.unusedVariables false
set_option maxRecDepth 100000

/-- A summer. -/
def Smr : Value → World → Prop := fun v w => ∃ b, v = .pointer (some ⟨b, 0, none⟩) ∧ b < w.heap.size ∧ Tab w b 0
theorem Smr.monot : Monot Smr := fun _ _ _ ⟨b, h1, h2, h3⟩ hb => ⟨b, h1, Nat.lt_of_lt_of_le h2 hb.size, h3.below hb h2⟩
theorem smr_new (w : World) : Calls Try.prog 7 #[] w fun e w' => ∃ v, e = .returned v ∧ Smr v w' ∧ Below w.heap.size w w' :=
  (crc_new_any w).mono fun e w' ⟨b, h1, h2, h3, h4⟩ => ⟨_, h1, ⟨b, rfl, h2, h3⟩, h4⟩
theorem seal_val (v : Value) (l : List UInt8) (w : World) (h : Smr v w) (hl : l.length = 60) :
    Calls Try.prog 8 #[v, .agg (bytes l).toArray] w fun e w' => e = .returned (.string (str (sealB l))) ∧ Below w.heap.size w w' := by
  obtain ⟨b, rfl, h2, h3⟩ := h
  exact tag_seal_any b l w h3 h2 hl
theorem open_val (v : Value) (s : ByteArray) (w : World) (h : Smr v w) (hs : s.size ≤ 140737488355328) :
    Calls Try.prog 9 #[v, .string s] w fun e w' => e = .returned (.tuple #[.agg (bytes (blk s.data.toList)).toArray, .bool (rightT s.data.toList)]) ∧ Below w.heap.size w w' := by
  obtain ⟨b, rfl, h2, h3⟩ := h
  exact tag_open_any b s w h3 h2 hs
theorem tag_isz : ∀ w : World, (sizeOf 5).run Try.prog w = .ok 1 w := fun w => Try.sizeOf5 w
theorem tag_iag : ∀ w : World, (isAgg 5).run Try.prog w = .ok false w := fun w => Try.isAgg5 w
theorem tag_ints_inj (D E : List UInt8) : (D.map fun b => (b.toNat : Int)) = (E.map fun b => (b.toNat : Int)) ↔ D = E := by
  constructor
  · intro h
    refine List.map_inj_right (f := fun b : UInt8 => (b.toNat : Int)) ?_ |>.1 h
    intro a b hab
    exact UInt8.toNat_inj.1 (by have h2 : (a.toNat : Int) = (b.toNat : Int) := hab; omega)
  · rintro rfl; rfl
theorem eq_block (D E : List UInt8) (hD : D.length = 60) (hE : E.length = 60) (u : World) :
    (Op.equalIn 10000 23 (.agg (bytes D).toArray) (.agg (bytes E).toArray)).run Try.prog u = .ok (decide (D = E)) u := by
  have e : ∀ l : List UInt8, bytes l = (l.map fun b => (b.toNat : Int)).map (Value.int .u8) := fun l => by simp [bytes]
  rw [e, e, run_equal_ints 9998 23 5 60 .u8 _ _ u Try.underlying23 Try.underlying5 tag_isz tag_iag (by simpa using hD) (by simpa using hE)]
  congr 1
  exact decide_eq_decide.2 (tag_ints_inj D E)
theorem same_block (D : List UInt8) (hD : D.length = 60) : ∀ u : World, (Op.equalIn 10000 23 (.agg (bytes D).toArray) (.agg (bytes D).toArray)).run Try.prog u = .ok true u := fun u => by rw [eq_block D D hD hD u]; simp

set_option maxHeartbeats 2000000 in
theorem tag_awake (w : World) :
    Calls Try.prog 6 #[] w fun e w' => e = .returned (.bool true) ∧ Below w.heap.size w w' := by
  obtain ⟨B, hB⟩ : ∃ B, B = blk [97, 98] := ⟨_, rfl⟩
  obtain ⟨S, hS⟩ : ∃ S, S = str (sealB B) := ⟨_, rfl⟩
  obtain ⟨O, hO⟩ : ∃ O : List UInt8, O = List.replicate 60 0 := ⟨_, rfl⟩
  have hl : B.length = 60 := by rw [hB, blk_length]
  have HL := Lib.hid hl
  have HZ0 : Hid (∀ u, (zeroValue 23).run Try.prog u = .ok (.agg (bytes O).toArray) u) := Lib.hid (by rw [hO]; exact tag_zero)
  have LO : Hid ((bytes O).length = 60) := Lib.hid (by rw [hO, bytes_length, List.length_replicate])
  have LB : Hid ((bytes B).length = 60) := Lib.hid (by rw [bytes_length, hl])
  have LB1 : Hid ((bytes B).all (·.oneCell') = true) := Lib.hid (bytes_oneC B)
  have HSP : Hid (Calls Try.prog 15 #[.string { data := #[97, 98] }, .int .i64 1] w fun e w' => ∃ g, e = .returned (.slice (some ⟨g, 0, none⟩) 1 1) ∧ w.heap.size ≤ g ∧ Row w' g 23 (bytes B) ∧ Below w.heap.size w w') := Lib.hid (by
    have h := tag_split_any { data := #[97, 98] } 1 w (by decide)
    have e1 : manyF 1 = 1 := rfl
    have e2 : (splitF 1 (⟨#[97, 98]⟩ : ByteArray).data.toList).flatten = B := by rw [hB]; rfl
    rwa [e1, e2] at h)
  have HNEW : Hid (∀ wx, Calls Try.prog 7 #[] wx fun e w' => ∃ v, e = .returned v ∧ Smr v w' ∧ Below wx.heap.size wx w') := Lib.hid smr_new
  have HSEAL : Hid (∀ wx v, Smr v wx → Calls Try.prog 8 #[v, .agg (bytes B).toArray] wx fun e w' => e = .returned (.string S) ∧ Below wx.heap.size wx w') := Lib.hid fun wx v h => by rw [hS]; exact seal_val v B wx h hl
  have HOPEN : Hid (∀ wx v, Smr v wx → Calls Try.prog 9 #[v, .string S] wx fun e w' => e = .returned (.tuple #[.agg (bytes B).toArray, .bool true]) ∧ Below wx.heap.size wx w') := Lib.hid fun wx v h => by
    have := open_val v S wx h (by rw [hS, str_size, sealB_length, hl]; omega)
    rw [hS, str_list, right_seal B hl, blk_seal B hl] at this
    rw [hS]
    exact this
  have HC0 : Hid ((bytes B)[0]? = some (.int .u8 97)) := Lib.hid (by rw [hB]; rfl)
  have HC2 : Hid ((bytes B)[2]? = some (.int .u8 0)) := Lib.hid (by rw [hB]; rfl)
  have HEQ : Hid (∀ u : World, (Op.equalIn 10000 23 (.agg (bytes B).toArray) (.agg (bytes B).toArray)).run Try.prog u = .ok true u) := Lib.hid (same_block B hl)
  clear hB hS hO hl
  generalize bytes B = BB at *
  generalize bytes O = OO at *
  go_enter Try.func6, Try.ntmps6
  go_wp2_with (go_at_call 15; (with_reducible refine HSP.out.mono ?_); rintro e u1 ⟨g, rfl, hg1, r1, b1⟩; have R1 := Lib.hid r1; have B1 := Lib.hid b1; have LG : Hid (g < u1.heap.size) := Lib.hid r1.lt; have c0 : u1.cell? ⟨g, 0, none⟩ = some (.int .u8 97) := (by rw [r1.cell]; exact HC0.out); have c2 : u1.cell? ⟨g, 2, none⟩ = some (.int .u8 0) := (by rw [r1.cell]; exact HC2.out); clear r1 b1 hg1)
  clear c0 c2
  refine region_storeT 11 10 [9, 12] (by decide) [(0, 23), (1, 24), (2, 25), (3, 26), (4, 27), (5, 28), (6, 29), (7, 22), (8, 30), (9, 31), (10, 2), (12, 3)]
    (fun ii => [Smr, Smr, Is (.slice (some ⟨g, 0, none⟩) 1 1), Is (.pointer (some ⟨g, 0, none⟩)), Is (.agg (BB).toArray), Is (.string S), Is (.tuple #[(.agg BB.toArray), .bool true]), Is (.tuple #[(.agg BB.toArray), .bool true]), Is (.agg BB.toArray), Is (.bool true), Nb u1 23 OO, Is undef, Is (.bool true)].getD ii (Is undef))
    (fun w' => Below u1.heap.size u1 w') (fun v w' => ∃ g2, v = .pointer (some ⟨g2, 0, none⟩) ∧ Row w' g2 23 BB ∧ Row w' g 23 BB ∧ Below u1.heap.size u1 w') (by kernel_rfl) (by decide) (by kernel_rfl) (by kernel_rfl) (by decide) (by decide) (by kernel_rfl) rfl (by kernel_rfl) ?monoA ((Below.refl _ _).drew) ?stepA ?stepXA ?stepSA ?finA
  case monoA =>
    intro i
    match i with
    | 0 | 1 => exact Smr.monot
    | 2 | 3 | 4 | 5 | 6 | 7 | 8 | 9 | 11 | 12 => exact Is.monot _
    | 10 => exact Nb.monot _ _ _
    | _ + 13 => exact Is.monot _
  case stepA =>
    refine List.forall_mem_cons.2 ⟨?As0, List.forall_mem_cons.2 ⟨?As1, List.forall_mem_cons.2 ⟨?As2, List.forall_mem_cons.2 ⟨?As3, List.forall_mem_cons.2 ⟨?As4, List.forall_mem_cons.2 ⟨?As5, List.forall_mem_cons.2 ⟨?As6, List.forall_mem_cons.2 ⟨?As7, List.forall_mem_cons.2 ⟨?As8, List.forall_mem_cons.2 ⟨?As9, List.forall_mem_cons.2 ⟨?As10, List.forall_mem_cons.2 ⟨?As12, List.forall_mem_nil _⟩⟩⟩⟩⟩⟩⟩⟩⟩⟩⟩⟩
    case As0 =>
      intro _
      intro u wx hg hC
      clear hC
      refine wpOp_step rfl (fun K hK => ?_)
      simp only [puts, List.foldl]
      go_simp
      refine (HNEW.out wx).mono ?_
      rintro e w' ⟨v', rfl, hv', hb'⟩
      exact hK _ _ ⟨rfl, hv', hg.next hb', hb'⟩
    case As1 =>
      intro _
      intro u wx hg hC
      clear hC
      refine wpOp_step rfl (fun K hK => ?_)
      simp only [puts, List.foldl]
      go_simp
      refine (HNEW.out wx).mono ?_
      rintro e w' ⟨v', rfl, hv', hb'⟩
      exact hK _ _ ⟨rfl, hv', hg.next hb', hb'⟩
    case As2 =>
      intro _
      intro u wx hg hC
      clear hC
      refine wpOp_step rfl (fun K hK => ?_)
      simp only [puts, List.foldl]
      go_simp
      exact hK _ _ ⟨rfl, rfl, hg, Below.refl _ _⟩
    case As3 =>
      intro _
      intro u wx hg hC
      have hJ2 : u 2 = (.slice (some ⟨g, 0, none⟩) 1 1) := hC.at 2 (by kernel_rfl)
      clear hC
      refine wpOp_step rfl (fun K hK => ?_)
      simp only [puts, List.foldl]
      go_simp
      exact hK _ _ ⟨rfl, rfl, hg, Below.refl _ _⟩
    case As4 =>
      intro _
      intro u wx hg hC
      have hJ3 : u 3 = (.pointer (some ⟨g, 0, none⟩)) := hC.at 3 (by kernel_rfl)
      clear hC
      generalize hA : puts [(0, 23), (1, 24), (2, 25), (3, 26), (4, 27), (5, 28), (6, 29), (7, 22), (8, 30), (9, 31), (10, 2), (12, 3)] _ u = A
      have hp : A.tmps.getD 26 undef = (.pointer (some ⟨g, 0, none⟩)) := by rw [← hA]; exact (puts_get u 3 26 _ _ (by decide) (by decide) (by kernel_rfl)).trans hJ3
      have hsz : 27 < A.tmps.size := by rw [← hA]; exact puts_room u (by kernel_rfl)
      refine wpOp_step rfl (fun K hK => ?_)
      clear hA
      exact opLoadK (φ := Is (.agg (BB).toArray)) (R1.out.step hg) _ (fits_block) (LB.out) 27 rfl hsz hK (.tmp 26) rfl hp rfl hg
    case As5 =>
      intro _
      intro u wx hg hC
      have hJ1 : (Smr) (u 1) wx := hC.at 1 (by kernel_rfl)
      have hJ4 : u 4 = (.agg (BB).toArray) := hC.at 4 (by kernel_rfl)
      clear hC
      refine wpOp_step rfl (fun K hK => ?_)
      simp only [puts, List.foldl]
      go_simp
      refine (HSEAL.out wx _ hJ1).mono ?_
      rintro e w' ⟨rfl, hb'⟩
      exact hK _ _ ⟨rfl, rfl, hg.next hb', hb'⟩
    case As6 =>
      intro _
      intro u wx hg hC
      have hJ0 : (Smr) (u 0) wx := hC.at 0 (by kernel_rfl)
      have hJ5 : u 5 = (.string S) := hC.at 5 (by kernel_rfl)
      clear hC
      refine wpOp_step rfl (fun K hK => ?_)
      simp only [puts, List.foldl]
      go_simp
      refine (HOPEN.out wx _ hJ0).mono ?_
      rintro e w' ⟨rfl, hb'⟩
      exact hK _ _ ⟨rfl, rfl, hg.next hb', hb'⟩
    case As7 =>
      intro _
      intro u wx hg hC
      have hJ6 : u 6 = (.tuple #[(.agg BB.toArray), .bool true]) := hC.at 6 (by kernel_rfl)
      clear hC
      refine wpOp_step rfl (fun K hK => ?_)
      simp only [puts, List.foldl]
      go_simp
      exact hK _ _ ⟨rfl, rfl, hg, Below.refl _ _⟩
    case As8 =>
      intro _
      intro u wx hg hC
      have hJ7 : u 7 = (.tuple #[(.agg BB.toArray), .bool true]) := hC.at 7 (by kernel_rfl)
      clear hC
      refine wpOp_step rfl (fun K hK => ?_)
      simp only [puts, List.foldl]
      go_simp
      exact hK _ _ ⟨rfl, rfl, hg, Below.refl _ _⟩
    case As9 =>
      intro _
      intro u wx hg hC
      have hJ7 : u 7 = (.tuple #[(.agg BB.toArray), .bool true]) := hC.at 7 (by kernel_rfl)
      clear hC
      refine wpOp_step rfl (fun K hK => ?_)
      simp only [puts, List.foldl]
      go_simp
      exact hK _ _ ⟨rfl, rfl, hg, Below.refl _ _⟩
    case As10 =>
      intro _
      intro u wx hg hC
      clear hC
      generalize hA : puts [(0, 23), (1, 24), (2, 25), (3, 26), (4, 27), (5, 28), (6, 29), (7, 22), (8, 30), (9, 31), (10, 2), (12, 3)] _ u = A
      have hsz : 2 < A.tmps.size := by rw [← hA]; exact puts_room u (by kernel_rfl)
      refine wpOp_step rfl (fun K hK => ?_)
      clear hA
      exact opAllocK (φ := Nb u1 23 OO) (OO) _ (HZ0.out) 2 rfl hsz hK rfl fun w' hr hb => ⟨⟨_, rfl, hg.size, hr⟩, hg.next hb⟩
    case As12 =>
      intro hw; exact Bool.noConfusion (hw.symm.trans (show waitsB _ 12 11 = true by kernel_rfl))
  case stepXA =>
    refine List.forall_mem_cons.2 ⟨?Ax0, List.forall_mem_cons.2 ⟨?Ax1, List.forall_mem_cons.2 ⟨?Ax2, List.forall_mem_cons.2 ⟨?Ax3, List.forall_mem_cons.2 ⟨?Ax4, List.forall_mem_cons.2 ⟨?Ax5, List.forall_mem_cons.2 ⟨?Ax6, List.forall_mem_cons.2 ⟨?Ax7, List.forall_mem_cons.2 ⟨?Ax8, List.forall_mem_cons.2 ⟨?Ax9, List.forall_mem_cons.2 ⟨?Ax10, List.forall_mem_cons.2 ⟨?Ax12, List.forall_mem_nil _⟩⟩⟩⟩⟩⟩⟩⟩⟩⟩⟩⟩
    case Ax0 =>
      intro hx; exact absurd hx (by decide)
    case Ax1 =>
      intro hx; exact absurd hx (by decide)
    case Ax2 =>
      intro hx; exact absurd hx (by decide)
    case Ax3 =>
      intro hx; exact absurd hx (by decide)
    case Ax4 =>
      intro hx; exact absurd hx (by decide)
    case Ax5 =>
      intro hx; exact absurd hx (by decide)
    case Ax6 =>
      intro hx; exact absurd hx (by decide)
    case Ax7 =>
      intro hx; exact absurd hx (by decide)
    case Ax8 =>
      intro hx; exact absurd hx (by decide)
    case Ax9 =>
      intro _ u wx hh hC
      have hJ7 : u 7 = (.tuple #[(.agg BB.toArray), .bool true]) := by obtain ⟨_, hq⟩ := hC.at 7 (by kernel_rfl) (by decide); exact hq
      clear hC
      refine wpOp_step rfl (fun K hK => ?_)
      simp only [puts, List.foldl]
      go_simp
      exact hK _ _ ⟨rfl, ⟨wx, rfl⟩, hh⟩
    case Ax10 =>
      intro hx; exact absurd hx (by decide)
    case Ax12 =>
      intro _ u wx hh hC
      have hJ9 : u 9 = (.bool true) := by obtain ⟨_, hq⟩ := hC.at 9 (by kernel_rfl) (by decide); exact hq
      clear hC
      refine wpOp_step rfl (fun K hK => ?_)
      simp only [puts, List.foldl]
      go_simp
      exact hK _ _ ⟨rfl, ⟨wx, rfl⟩, hh⟩
  case stepSA =>
    intro u wx hg hC
    have hJ8 : u 8 = .agg BB.toArray := hC (8, 30) (by decide) (by decide)
    obtain ⟨g2, hJ10, hge, hr10⟩ : Nb u1 23 OO (u 10) wx := hC (10, 2) (by decide) (by decide)
    clear hC
    generalize hA : puts [(0, 23), (1, 24), (2, 25), (3, 26), (4, 27), (5, 28), (6, 29), (7, 22), (8, 30), (9, 31), (10, 2), (12, 3)] _ u = A
    have hp : A.tmps.getD 2 undef = .pointer (some ⟨g2, 0, none⟩) := by rw [← hA]; exact (puts_get u 10 2 _ _ (by decide) (by decide) (by kernel_rfl)).trans hJ10
    have hq : A.tmps.getD 30 undef = .agg BB.toArray := by rw [← hA]; exact (puts_get u 8 30 _ _ (by decide) (by decide) (by kernel_rfl)).trans hJ8
    refine wpOp_step rfl (fun K hK => ?_)
    clear hA
    exact opStoreK (H := fun w' => ∃ g2, u 10 = .pointer (some ⟨g2, 0, none⟩) ∧ Row w' g2 23 BB ∧ Row w' g 23 BB ∧ Below u1.heap.size u1 w') hr10 _ BB fits_block LO.out LB.out LB1.out hK (.tmp 2) (.tmp 30) rfl hp hq fun w' h1 h2 h3 => ⟨g2, hJ10, h1, (R1.out.step hg).only h2 (by have := LG.out; omega), hg.trans (h2.below hge hg.size)⟩
  case finA =>
    intro u u2 hh hφ
    obtain ⟨_, hJ12⟩ : ∃ w1 : World, u 12 = .bool true := hφ (12, 3) (by decide)
    obtain ⟨g2, hJ10, r2, r1, b2⟩ := hh
    simp only [puts, List.foldl]
    rw [hJ12, hJ10]
    go_simp
    have R2 := Lib.hid r2
    have R1' := Lib.hid r1
    have B2 : Hid (Below w.heap.size w u2) := Lib.hid (B1.out.next b2)
    clear r2 r1 b2
    go_wp2
    refine region_invX [(0, 32), (1, 33), (2, 34), (3, 35), (4, 36), (5, 37), (6, 38), (7, 39), (8, 0)]
      (fun ii => [Is (.bool true), Is (.bool true), Is (.agg (BB).toArray), Is (.slice (some ⟨g, 0, none⟩) 1 1), Is (.pointer (some ⟨g, 0, none⟩)), Is (.agg (BB).toArray), Is (.bool true), Is (.bool true), Is (.bool true)].getD ii (Is undef))
      (fun w' => Below u2.heap.size u2 w') (by kernel_rfl) (by kernel_rfl) (by decide) (by decide) (by kernel_rfl) rfl ?monoB ((Below.refl _ _).drew) ?stepB ?finB
    case monoB =>
      intro i
      match i with
      | 0 | 1 | 2 | 3 | 4 | 5 | 6 | 7 | 8 => exact Is.monot _
      | _ + 9 => exact Is.monot _
    case stepB =>
      refine List.forall_mem_cons.2 ⟨?Bs0, List.forall_mem_cons.2 ⟨?Bs1, List.forall_mem_cons.2 ⟨?Bs2, List.forall_mem_cons.2 ⟨?Bs3, List.forall_mem_cons.2 ⟨?Bs4, List.forall_mem_cons.2 ⟨?Bs5, List.forall_mem_cons.2 ⟨?Bs6, List.forall_mem_cons.2 ⟨?Bs7, List.forall_mem_cons.2 ⟨?Bs8, List.forall_mem_nil _⟩⟩⟩⟩⟩⟩⟩⟩⟩
      case Bs0 =>
        intro u wx hg hC
        clear hC
        refine wpOp_step rfl (fun K hK => ?_)
        simp only [puts, List.foldl]
        go_simp
        exact hK _ _ ⟨rfl, rfl, hg, Below.refl _ _⟩
      case Bs1 =>
        intro u wx hg hC
        have hJ0 : u 0 = (.bool true) := hC.at 0 (by kernel_rfl)
        clear hC
        refine wpOp_step rfl (fun K hK => ?_)
        simp only [puts, List.foldl]
        go_simp
        exact hK _ _ ⟨rfl, rfl, hg, Below.refl _ _⟩
      case Bs2 =>
        intro u wx hg hC
        have hJ1 : u 1 = (.bool true) := hC.at 1 (by kernel_rfl)
        clear hC
        generalize hA : puts [(0, 32), (1, 33), (2, 34), (3, 35), (4, 36), (5, 37), (6, 38), (7, 39), (8, 0)] _ u = A
        have hgv : A.tmps.getD 33 undef = .bool true := by rw [← hA]; exact (puts_get u 1 33 _ _ (by decide) (by decide) (by kernel_rfl)).trans hJ1
        have hgs : 33 < A.tmps.size := by rw [← hA]; exact puts_room u (by kernel_rfl)
        have hp : A.tmps.getD 2 undef = (.pointer (some ⟨g2, 0, none⟩)) := by rw [← hA]; exact (puts_get_out u _ _ 2 (by decide)).trans (by rfl)
        have hsz : 34 < A.tmps.size := by rw [← hA]; exact puts_room u (by kernel_rfl)
        refine wpOp_guard rfl 1 33 true rfl rfl hgs hgv (fun K hK => ?_)
        clear hA
        exact opLoadK (φ := Is (.agg (BB).toArray)) (R2.out.step hg) _ (fits_block) (LB.out) 34 rfl hsz hK (.tmp 2) rfl hp rfl hg
      case Bs3 =>
        intro u wx hg hC
        have hJ1 : u 1 = (.bool true) := hC.at 1 (by kernel_rfl)
        clear hC
        generalize hA : puts [(0, 32), (1, 33), (2, 34), (3, 35), (4, 36), (5, 37), (6, 38), (7, 39), (8, 0)] _ u = A
        have hgv : A.tmps.getD 33 undef = .bool true := by rw [← hA]; exact (puts_get u 1 33 _ _ (by decide) (by decide) (by kernel_rfl)).trans hJ1
        have hgs : 33 < A.tmps.size := by rw [← hA]; exact puts_room u (by kernel_rfl)
        refine wpOp_guard rfl 1 33 true rfl rfl hgs hgv (fun K hK => ?_)
        subst hA
        simp only [puts, List.foldl]
        go_simp
        exact hK _ _ ⟨rfl, rfl, hg, Below.refl _ _⟩
      case Bs4 =>
        intro u wx hg hC
        have hJ1 : u 1 = (.bool true) := hC.at 1 (by kernel_rfl)
        have hJ3 : u 3 = (.slice (some ⟨g, 0, none⟩) 1 1) := hC.at 3 (by kernel_rfl)
        clear hC
        generalize hA : puts [(0, 32), (1, 33), (2, 34), (3, 35), (4, 36), (5, 37), (6, 38), (7, 39), (8, 0)] _ u = A
        have hgv : A.tmps.getD 33 undef = .bool true := by rw [← hA]; exact (puts_get u 1 33 _ _ (by decide) (by decide) (by kernel_rfl)).trans hJ1
        have hgs : 33 < A.tmps.size := by rw [← hA]; exact puts_room u (by kernel_rfl)
        refine wpOp_guard rfl 1 33 true rfl rfl hgs hgv (fun K hK => ?_)
        subst hA
        simp only [puts, List.foldl]
        go_simp
        exact hK _ _ ⟨rfl, rfl, hg, Below.refl _ _⟩
      case Bs5 =>
        intro u wx hg hC
        have hJ1 : u 1 = (.bool true) := hC.at 1 (by kernel_rfl)
        have hJ4 : u 4 = (.pointer (some ⟨g, 0, none⟩)) := hC.at 4 (by kernel_rfl)
        clear hC
        generalize hA : puts [(0, 32), (1, 33), (2, 34), (3, 35), (4, 36), (5, 37), (6, 38), (7, 39), (8, 0)] _ u = A
        have hgv : A.tmps.getD 33 undef = .bool true := by rw [← hA]; exact (puts_get u 1 33 _ _ (by decide) (by decide) (by kernel_rfl)).trans hJ1
        have hgs : 33 < A.tmps.size := by rw [← hA]; exact puts_room u (by kernel_rfl)
        have hp : A.tmps.getD 36 undef = (.pointer (some ⟨g, 0, none⟩)) := by rw [← hA]; exact (puts_get u 4 36 _ _ (by decide) (by decide) (by kernel_rfl)).trans hJ4
        have hsz : 37 < A.tmps.size := by rw [← hA]; exact puts_room u (by kernel_rfl)
        refine wpOp_guard rfl 1 33 true rfl rfl hgs hgv (fun K hK => ?_)
        clear hA
        exact opLoadK (φ := Is (.agg (BB).toArray)) (R1'.out.step hg) _ (fits_block) (LB.out) 37 rfl hsz hK (.tmp 36) rfl hp rfl hg
      case Bs6 =>
        intro u wx hg hC
        have hJ1 : u 1 = (.bool true) := hC.at 1 (by kernel_rfl)
        have hJ2 : u 2 = (.agg (BB).toArray) := hC.at 2 (by kernel_rfl)
        have hJ5 : u 5 = (.agg (BB).toArray) := hC.at 5 (by kernel_rfl)
        clear hC
        have heq := HEQ.out
        generalize hA : puts [(0, 32), (1, 33), (2, 34), (3, 35), (4, 36), (5, 37), (6, 38), (7, 39), (8, 0)] _ u = A
        have hgv : A.tmps.getD 33 undef = .bool true := by rw [← hA]; exact (puts_get u 1 33 _ _ (by decide) (by decide) (by kernel_rfl)).trans hJ1
        have hgs : 33 < A.tmps.size := by rw [← hA]; exact puts_room u (by kernel_rfl)
        refine wpOp_guard rfl 1 33 true rfl rfl hgs hgv (fun K hK => ?_)
        subst hA
        simp only [puts, List.foldl]
        go_simp
        exact hK _ _ ⟨rfl, rfl, hg, Below.refl _ _⟩
      case Bs7 =>
        intro u wx hg hC
        have hJ1 : u 1 = (.bool true) := hC.at 1 (by kernel_rfl)
        have hJ6 : u 6 = (.bool true) := hC.at 6 (by kernel_rfl)
        clear hC
        refine wpOp_step rfl (fun K hK => ?_)
        simp only [puts, List.foldl]
        go_simp
        exact hK _ _ ⟨rfl, rfl, hg, Below.refl _ _⟩
      case Bs8 =>
        intro u wx hg hC
        have hJ7 : u 7 = (.bool true) := hC.at 7 (by kernel_rfl)
        clear hC
        refine wpOp_step rfl (fun K hK => ?_)
        simp only [puts, List.foldl]
        go_simp
        exact hK _ _ ⟨rfl, rfl, hg, Below.refl _ _⟩
    case finB =>
      intro u wx hg hC
      have hC8 : u 8 = .bool true := hC (8, 0) (by decide)
      simp only [puts, List.foldl]
      rw [hC8]
      go_simp
      go_wp2
      go_ret
      exact ⟨rfl, B2.out.next hg⟩
end Go.Proofs.Ytmffkfgcopaoeaa
