/- The texts LogV, one behind the other. -/
import Derived.Test.YtnbindmmbbiifaaGreatB5
/- LogNone (gen_log_v.py). -/
namespace Go.Proofs.YtnbindmmbbiifaaGreat
open Go.RowKit CrcMath NumMath FlaMath GeoMath
set_option linter.unusedVariables false
set_option linter.unusedSimpArgs false
set_option maxRecDepth 100000

/-- A blank device, in a region that draws its order. -/
def DevB (B : Nat) : Value → World → Prop := fun v w => ∃ s : Sh, v = .pointer (some ⟨s.b, 0, none⟩) ∧ Dvx w s (D0 27) ∧ ∀ k ∈ s.S, B ≤ k
theorem DevB.monot (B : Nat) : Monot (DevB B) := fun _ _ _ ⟨s, h1, h2, h3⟩ hb => ⟨s, h1, h2.step hb, h3⟩
theorem D0_blank (L a : Nat) (ha : a < 2) (hL : L + 18 ≤ 27) : HalfIs (D0 27).C L a [] := fun c i hc hi => by
  rw [dif_neg (by simp), hp_pg]
  have hlen : (D0 27).C.length = 1728 := by show (List.replicate (27 * 64) (255 : UInt8)).length = 1728; rw [List.length_replicate]
  refine pg_is (by rw [hlen, atF_eq]; omega) rfl fun j hj => ?_
  have : (D0 27).C[atF L a c + 16 * i + j]'(by rw [hlen, atF_eq]; omega) = 255 := List.getElem_replicate _
  rw [this]
  exact (List.getElem_replicate _).symm
theorem D0_none (L : Nat) (hL : L + 18 ≤ 27) : (openF (D0 27).C L).gen = 0 := by
  have h0 : lookF (D0 27).C L 0 = ⟨0, 0, [], 0, true⟩ := ((D0_blank L 0 (by omega) hL).stands (by simp)).none 0
  have h1 : lookF (D0 27).C L 1 = ⟨1, 0, [], 0, true⟩ := ((D0_blank L 1 (by omega) hL).stands (by simp)).none 1
  unfold openF betterF
  rw [h0, h1]
  rfl
/-- What Open tells of a blank device. -/
def opn (g : Gm) : Int := if right g = true ∧ all g ≤ 27 then 14 else 1
theorem llaw_open_blank (g : Gm) (u : World) (s : Sh) (h : Dvx u s (D0 27)) : Calls Tryz.prog 19 #[.pointer (some ⟨s.b, 0, none⟩), geoV g] u fun e w' => e = .returned (.tuple #[.pointer none, .int .i64 (opn g)]) ∧ Onl s.S u w' := by
  have hll : (D0 27).L.length = 27 := List.length_replicate
  by_cases hx : right g = true ∧ all g ≤ 27
  · have hL : (GeoMath.log g).toNat + 18 ≤ 27 := by
      have h1 : all g = GeoMath.log g + 18 := by unfold all tal; rw [if_pos hx.1]; omega
      have := log_le g
      omega
    refine (logopen_good 0 s (D0 27) g u h rfl hx.1 (by rw [hll]; exact hx.2) (fun _ _ => Nat.zero_le _) (Nat.zero_le _)).mono ?_
    rintro e w' ⟨h1, h2, _⟩
    refine ⟨?_, h1⟩
    rw [(h2 (D0_none _ hL)).1]
    unfold opn
    rw [if_pos hx]
  · refine (logopen_bad (some ⟨s.b, 0, none⟩) g 27 u (fun x hx => let ⟨o, hd⟩ := h.step hx; by have := sectors_any s { D0 27 with ops := o } x hd; rw [show ({ D0 27 with ops := o } : Dv).L.length = 27 from hll] at this; exact this) ?_).mono ?_
    · cases hr : right g with
      | false => exact .inl rfl
      | true => exact .inr (Int.not_le.1 fun h => hx ⟨hr, h⟩)
    · rintro e w' ⟨rfl, h1⟩
      unfold opn
      rw [if_neg hx]
      exact ⟨rfl, Onl.of_below h1⟩
theorem opn_G1 : opn G1 = 14 := by unfold opn; rw [if_pos ⟨G1_right, by rw [G1_all]; decide⟩]
set_option maxHeartbeats 4000000 in
theorem logNone_walk (k s n v d p q : Int) (w : World) :
    Calls Tryz.prog 5 #[.agg #[.int .i64 k, .int .i64 s, .int .i64 n, .int .i64 v], .agg #[.int .i64 d, .int .i64 p, .int .i64 q]] w fun e w' => e = .returned (.bool true) ∧ Below w.heap.size w w' := by
  have HG : Hid (∀ u, Calls Tryz.prog 11 #[] u fun e w' => e = .returned (geoV G1) ∧ Below u.heap.size u w') := Lib.hid llaw_geo
  have HSN : ∀ u : World, Calls Tryz.prog 51 #[.pointer none] u fun e u' => e = .returned (.int .i64 0) ∧ u = u' := sectors_nil
  have HO1 : Hid (∀ u, Calls Tryz.prog 19 #[.pointer none, geoV G1] u fun e w' => e = .returned (.tuple #[.pointer none, .int .i64 1]) ∧ Below u.heap.size u w') := Lib.hid fun u => logopen_bad none G1 0 u (fun x _ => HSN x) (.inr (by rw [G1_all]; decide))
  have HFN : Hid (∀ u sv, Calls Tryz.prog 10 #[.pointer none, geoV G1, sv] u fun e w' => e = .returned (.tuple #[.pointer none, .int .i64 1]) ∧ Below u.heap.size u w') := Lib.hid fun u sv => logformat_bad none G1 0 sv u (fun x _ => HSN x) (.inr (by rw [G1_all]; decide))
  have HO2 : Hid (∀ (u : World) (s : Sh), Dvx u s (D0 27) → Calls Tryz.prog 19 #[.pointer (some ⟨s.b, 0, none⟩), geoV G1] u fun e w' => e = .returned (.tuple #[.pointer none, .int .i64 14]) ∧ Onl s.S u w') := Lib.hid fun u s h => by have := llaw_open_blank G1 u s h; rwa [opn_G1] at this
  have HBL : Hid (∀ u : World, Calls Tryz.prog 9 #[] u fun e w' => ∃ s : Sh, e = .returned (.pointer (some ⟨s.b, 0, none⟩)) ∧ Dvx w' s (D0 27) ∧ (∀ k ∈ s.S, u.heap.size ≤ k) ∧ Below u.heap.size u w') := Lib.hid llaw_blank
  have HO3 : Hid (∀ (u : World) (s : Sh), Dvx u s (D0 27) → Calls Tryz.prog 19 #[.pointer (some ⟨s.b, 0, none⟩), .agg #[.int .i64 d, .int .i64 p, .int .i64 q]] u fun e w' => e = .returned (.tuple #[.pointer none, .int .i64 (opn ⟨d, p, q⟩)]) ∧ Onl s.S u w') := Lib.hid fun u s h => llaw_open_blank ⟨d, p, q⟩ u s h
  have HRR : Hid (∀ u, Calls Tryz.prog 31 #[.agg #[.int .i64 d, .int .i64 p, .int .i64 q]] u fun e w' => e = .returned (.bool (right ⟨d, p, q⟩)) ∧ Below u.heap.size u w') := Lib.hid fun u => georr_any ⟨d, p, q⟩ u
  have HAL : Hid (∀ u, Calls Tryz.prog 32 #[.agg #[.int .i64 d, .int .i64 p, .int .i64 q]] u fun e w' => e = .returned (.int .i64 (all ⟨d, p, q⟩)) ∧ Below u.heap.size u w') := Lib.hid fun u => all_any ⟨d, p, q⟩ u
  have HAG : Hid (∀ u, Calls Tryz.prog 32 #[geoV G1] u fun e w' => e = .returned (.int .i64 27) ∧ Below u.heap.size u w') := Lib.hid fun u => by
    have := all_any G1 u
    rwa [G1_all] at this
  have HAN : Hid (∀ u : World, Calls Tryz.prog 14 #[.pointer none, .agg #[.int .i64 k, .int .i64 s, .int .i64 n, .int .i64 v]] u fun e w' => e = .returned (.int .i64 1) ∧ Below u.heap.size u w') := Lib.hid fun u => log_append_nil k s n v u
  have HOP : Hid (opn ⟨d, p, q⟩ = if right ⟨d, p, q⟩ = true ∧ all ⟨d, p, q⟩ ≤ 27 then 14 else 1) := Lib.hid rfl
  generalize geoV G1 = GV at *
  generalize opn ⟨d, p, q⟩ = X at *
  generalize right ⟨d, p, q⟩ = rt at *
  generalize all ⟨d, p, q⟩ = m at *
  clear HSN
  go_enter Tryz.func5, Tryz.ntmps5
  go_wp2_with (first
    | ((with_reducible refine wpBoxK (w := w) [Value.int .i64 k, .int .i64 s, .int .i64 n, .int .i64 v] 43 ?_ ?_); rfl; intro u1 r1 b1 s1; have R1 := Lib.hid r1; have B1 := Lib.hid b1; clear r1 b1 s1)
    | ((with_reducible refine wpBoxK (w := u1) [Value.int .i64 d, .int .i64 p, .int .i64 q] 33 ?_ ?_); rfl; intro u2 r2 b2 s2; have R2 := Lib.hid (R1.out.step b2); have G2 := Lib.hid r2; have B2 := Lib.hid (B1.out.next b2); clear r2 b2 s2)
    | (go_at_call 7; (with_reducible refine (log_awake_any u2).mono ?_); rintro e u3 ⟨rfl, b3⟩; have R3 := Lib.hid (R2.out.step b3); have G3 := Lib.hid (G2.out.step b3); have B3 := Lib.hid (B2.out.next b3); clear b3)
    | (go_at_call 11; (with_reducible refine (HG.out u3).mono ?_); rintro e u4 ⟨rfl, b4⟩; have R4 := Lib.hid (R3.out.step b4); have G4 := Lib.hid (G3.out.step b4); have B4 := Lib.hid (B3.out.next b4); clear b4)
    | (go_at_call 19; (with_reducible refine (HO1.out u4).mono ?_); rintro e u5 ⟨rfl, b5⟩; have R5 := Lib.hid (R4.out.step b5); have G5 := Lib.hid (G4.out.step b5); have B5 := Lib.hid (B4.out.next b5); clear b5)
    | (go_at_call 9; (with_reducible refine (HBL.out u5).mono ?_); rintro e u6 ⟨sh, rfl, hd, hs, b6⟩; have D6 := Lib.hid hd; have HS6 := Lib.hid hs; have R6 := Lib.hid (R5.out.step b6); have G6 := Lib.hid (G5.out.step b6); have B6 := Lib.hid (B5.out.next b6); have BS6 := Lib.hid b6; clear b6 hd hs)
    | (go_at_call 11; (with_reducible refine (HG.out u6).mono ?_); rintro e u7 ⟨rfl, b7⟩; have D7 := Lib.hid (D6.out.step b7); have R7 := Lib.hid (R6.out.step b7); have G7 := Lib.hid (G6.out.step b7); have B7 := Lib.hid (B6.out.next b7); have BS7 := Lib.hid (BS6.out.next b7); clear b7)
    | (go_at_call 19; (with_reducible refine (HO2.out u7 sh D7.out).mono ?_); rintro e u8 ⟨rfl, o8⟩; have BX8 : Hid (Below u5.heap.size u7 u8) := Lib.hid (o8.below HS6.out BS7.out.size); have R8 := Lib.hid (R7.out.below BX8.out R5.out.lt); have G8 := Lib.hid (G7.out.below BX8.out G5.out.lt); have B8 : Hid (Below w.heap.size w u8) := Lib.hid (B7.out.trans (BX8.out.mono B5.out.size)); clear o8))
  clear R1 R2 R3 R4 R5 R6 R7 G2 G3 G4 G5 G6 G7 D6 D7
  refine region_invX [(0, 29), (1, 30), (2, 31), (3, 32), (4, 28), (5, 33), (6, 34), (7, 9), (8, 10)]
    (fun ii => [Is GV, Is (.agg ([Value.int .i64 k, .int .i64 s, .int .i64 n, .int .i64 v]).toArray), LstM 1 [Value.int .i64 k, .int .i64 s, .int .i64 n, .int .i64 v], Is (.tuple #[.pointer none, .int .i64 1]), Is (.tuple #[.pointer none, .int .i64 1]), Is (.pointer none), Is (.int .i64 1), Is (.pointer none), Is (.int .i64 1)].getD ii (Is undef))
    (fun w' => Below u8.heap.size u8 w') (by kernel_rfl) (by kernel_rfl) (by decide) (by decide) (by kernel_rfl) rfl ?monoP ((Below.refl _ _).drew) ?stepP ?finP
  case monoP =>
    intro i
    match i with
    | 0 | 1 | 3 | 4 | 5 | 6 | 7 | 8 => exact Is.monot _
    | 2 => exact LstM.monot _ _
    | _ + 9 => exact Is.monot _
  case stepP =>
    refine List.forall_mem_cons.2 ⟨?Ps0, List.forall_mem_cons.2 ⟨?Ps1, List.forall_mem_cons.2 ⟨?Ps2, List.forall_mem_cons.2 ⟨?Ps3, List.forall_mem_cons.2 ⟨?Ps4, List.forall_mem_cons.2 ⟨?Ps5, List.forall_mem_cons.2 ⟨?Ps6, List.forall_mem_cons.2 ⟨?Ps7, List.forall_mem_cons.2 ⟨?Ps8, List.forall_mem_nil _⟩⟩⟩⟩⟩⟩⟩⟩⟩
    case Ps0 =>
      intro u wx hg hC
      clear hC
      refine wpOp_step rfl (fun K hK => ?_)
      simp only [puts, List.foldl]
      go_simp
      refine (HG.out wx).mono ?_
      rintro e w' ⟨rfl, hb'⟩
      exact hK _ _ ⟨rfl, rfl, hg.next hb', hb'⟩
    case Ps1 =>
      intro u wx hg hC
      clear hC
      generalize hA : puts [(0, 29), (1, 30), (2, 31), (3, 32), (4, 28), (5, 33), (6, 34), (7, 9), (8, 10)] _ u = A
      have hp : A.tmps.getD 2 undef = (.pointer (some ⟨w.heap.size, 0, none⟩)) := by rw [← hA]; exact (puts_get_out u _ _ 2 (by decide)).trans (by rfl)
      have hsz : 30 < A.tmps.size := by rw [← hA]; exact puts_room u (by kernel_rfl)
      refine wpOp_step rfl (fun K hK => ?_)
      clear hA
      exact opLoadK (φ := Is (.agg ([Value.int .i64 k, .int .i64 s, .int .i64 n, .int .i64 v]).toArray)) ((R8.out.step hg)) _ (fits_rec) (rfl) 30 rfl hsz hK (.tmp 2) rfl hp rfl hg
    case Ps2 =>
      intro u wx hg hC
      have hJ1 : u 1 = (.agg ([Value.int .i64 k, .int .i64 s, .int .i64 n, .int .i64 v]).toArray) := hC.at 1 (by kernel_rfl)
      clear hC
      refine wpOp_step rfl (fun K hK => ?_)
      simp only [puts, List.foldl]
      go_simp
      exact hK _ _ ⟨rfl, ⟨wx.heap.size, rfl, Lies.new _ wx _⟩, hg.next (alloc_below _ _), alloc_below _ _⟩
    case Ps3 =>
      intro u wx hg hC
      have hJ0 : u 0 = GV := hC.at 0 (by kernel_rfl)
      have hJ2 : (LstM 1 [Value.int .i64 k, .int .i64 s, .int .i64 n, .int .i64 v]) (u 2) wx := hC.at 2 (by kernel_rfl)
      clear hC
      refine wpOp_step rfl (fun K hK => ?_)
      simp only [puts, List.foldl]
      go_simp
      refine (HFN.out wx _).mono ?_
      rintro e w' ⟨rfl, hb'⟩
      exact hK _ _ ⟨rfl, rfl, hg.next hb', hb'⟩
    case Ps4 =>
      intro u wx hg hC
      have hJ3 : u 3 = (.tuple #[.pointer none, .int .i64 1]) := hC.at 3 (by kernel_rfl)
      clear hC
      refine wpOp_step rfl (fun K hK => ?_)
      simp only [puts, List.foldl]
      go_simp
      exact hK _ _ ⟨rfl, rfl, hg, Below.refl _ _⟩
    case Ps5 =>
      intro u wx hg hC
      have hJ4 : u 4 = (.tuple #[.pointer none, .int .i64 1]) := hC.at 4 (by kernel_rfl)
      clear hC
      refine wpOp_step rfl (fun K hK => ?_)
      simp only [puts, List.foldl]
      go_simp
      exact hK _ _ ⟨rfl, rfl, hg, Below.refl _ _⟩
    case Ps6 =>
      intro u wx hg hC
      have hJ4 : u 4 = (.tuple #[.pointer none, .int .i64 1]) := hC.at 4 (by kernel_rfl)
      clear hC
      refine wpOp_step rfl (fun K hK => ?_)
      simp only [puts, List.foldl]
      go_simp
      exact hK _ _ ⟨rfl, rfl, hg, Below.refl _ _⟩
    case Ps7 =>
      intro u wx hg hC
      have hJ5 : u 5 = (.pointer none) := hC.at 5 (by kernel_rfl)
      clear hC
      refine wpOp_step rfl (fun K hK => ?_)
      simp only [puts, List.foldl]
      go_simp
      exact hK _ _ ⟨rfl, rfl, hg, Below.refl _ _⟩
    case Ps8 =>
      intro u wx hg hC
      have hJ6 : u 6 = (.int .i64 1) := hC.at 6 (by kernel_rfl)
      clear hC
      refine wpOp_step rfl (fun K hK => ?_)
      simp only [puts, List.foldl]
      go_simp
      exact hK _ _ ⟨rfl, rfl, hg, Below.refl _ _⟩
  case finP =>
    intro u u9 hu9 hφ
    have e9 : u 7 = .pointer none := hφ (7, 9) (by decide)
    have e10 : u 8 = .int .i64 1 := hφ (8, 10) (by decide)
    clear hφ
    simp only [puts, List.foldl]
    rw [e9, e10]
    go_simp
    clear e9 e10
    have R9 := Lib.hid (R8.out.step hu9)
    have G9 := Lib.hid (G8.out.step hu9)
    have B9 := Lib.hid (B8.out.next hu9)
    clear hu9 R8 G8
    go_wp2_with (fail)
    refine region_spec 2 [3, 4, 5, 6, 7] [(0, 36), (1, 37), (2, 38), (3, 35), (4, 39), (5, 40), (6, 11), (7, 12)]
      (fun ii => [DevB u9.heap.size, Is (.agg [Value.int .i64 d, .int .i64 p, .int .i64 q].toArray)].getD ii (Is undef))
      (fun ii zv => zv = [undef, undef, undef, .tuple #[.pointer none, .int .i64 X], .pointer none, .int .i64 X, .pointer none, .int .i64 X].getD ii undef)
      (fun w' => Below u9.heap.size u9 w') (fun zv w' => zv = (.tuple #[.pointer none, .int .i64 X]) ∧ Below u9.heap.size u9 w')
      (by kernel_rfl) (by kernel_rfl) (by kernel_rfl) (by decide) (by kernel_rfl) (by kernel_rfl) (by kernel_rfl) (by decide) (by kernel_rfl) ?monoZ ((Below.refl _ _).drew) ?stepZ ?stepXZ ?stepSZ ?finZ
    case monoZ =>
      intro i
      match i with
      | 0 => exact DevB.monot _
      | 1 => exact Is.monot _
      | _ + 2 => exact Is.monot _
    case stepZ =>
      refine List.forall_mem_cons.2 ⟨?Zs0, List.forall_mem_cons.2 ⟨?Zs1, List.forall_mem_cons.2 ⟨?Zs2, List.forall_mem_cons.2 ⟨?Zs3, List.forall_mem_cons.2 ⟨?Zs4, List.forall_mem_cons.2 ⟨?Zs5, List.forall_mem_cons.2 ⟨?Zs6, List.forall_mem_cons.2 ⟨?Zs7, List.forall_mem_nil _⟩⟩⟩⟩⟩⟩⟩⟩
      case Zs0 =>
        intro _ _ u wx hg hC
        clear hC
        refine wpOp_step rfl (fun K hK => ?_)
        simp only [puts, List.foldl]
        go_simp
        refine (HBL.out wx).mono ?_
        rintro e w' ⟨sh2, rfl, hd, hs, hb'⟩
        exact hK _ _ ⟨rfl, ⟨sh2, rfl, hd, fun k hk => Nat.le_trans hg.size (hs k hk)⟩, hg.next hb', hb'⟩
      case Zs1 =>
        intro _ _ u wx hg hC
        clear hC
        generalize hA : puts [(0, 36), (1, 37), (2, 38), (3, 35), (4, 39), (5, 40), (6, 11), (7, 12)] _ u = A2
        have hp : A2.tmps.getD 3 undef = (.pointer (some ⟨u1.heap.size, 0, none⟩)) := by rw [← hA]; exact (puts_get_out u _ _ 3 (by decide)).trans (by rfl)
        have hsz : 37 < A2.tmps.size := by rw [← hA]; exact puts_room u (by kernel_rfl)
        refine wpOp_step rfl (fun K hK => ?_)
        clear hA
        exact opLoadK (φ := Is (.agg [Value.int .i64 d, .int .i64 p, .int .i64 q].toArray)) (G9.out.step hg) _ fits_geo rfl 37 rfl hsz hK (.tmp 3) rfl hp rfl hg
      case Zs2 =>
        intro hx; exact absurd rfl hx
      case Zs3 =>
        intro _ hx; exact absurd (by decide) hx
      case Zs4 =>
        intro _ hx; exact absurd (by decide) hx
      case Zs5 =>
        intro _ hx; exact absurd (by decide) hx
      case Zs6 =>
        intro _ hx; exact absurd (by decide) hx
      case Zs7 =>
        intro _ hx; exact absurd (by decide) hx
    case stepXZ =>
      refine List.forall_mem_cons.2 ⟨?Zx0, List.forall_mem_cons.2 ⟨?Zx1, List.forall_mem_cons.2 ⟨?Zx2, List.forall_mem_cons.2 ⟨?Zx3, List.forall_mem_cons.2 ⟨?Zx4, List.forall_mem_cons.2 ⟨?Zx5, List.forall_mem_cons.2 ⟨?Zx6, List.forall_mem_cons.2 ⟨?Zx7, List.forall_mem_nil _⟩⟩⟩⟩⟩⟩⟩⟩
      case Zx0 =>
        intro hx; exact absurd hx (by decide)
      case Zx1 =>
        intro hx; exact absurd hx (by decide)
      case Zx2 =>
        intro hx; exact absurd hx (by decide)
      case Zx3 =>
        intro _ u wx hh hC
        have hJ2 : u 2 = (.tuple #[.pointer none, .int .i64 X]) := hh.1
        clear hC
        refine wpOp_step rfl (fun K hK => ?_)
        simp only [puts, List.foldl]
        go_simp
        exact hK _ _ ⟨rfl, rfl, hh⟩
      case Zx4 =>
        intro _ u wx hh hC
        have hJ3 : u 3 = (.tuple #[.pointer none, .int .i64 X]) := hC.at 3 (by kernel_rfl) (by decide)
        clear hC
        refine wpOp_step rfl (fun K hK => ?_)
        simp only [puts, List.foldl]
        go_simp
        exact hK _ _ ⟨rfl, rfl, hh⟩
      case Zx5 =>
        intro _ u wx hh hC
        have hJ3 : u 3 = (.tuple #[.pointer none, .int .i64 X]) := hC.at 3 (by kernel_rfl) (by decide)
        clear hC
        refine wpOp_step rfl (fun K hK => ?_)
        simp only [puts, List.foldl]
        go_simp
        exact hK _ _ ⟨rfl, rfl, hh⟩
      case Zx6 =>
        intro _ u wx hh hC
        have hJ4 : u 4 = (.pointer none) := hC.at 4 (by kernel_rfl) (by decide)
        clear hC
        refine wpOp_step rfl (fun K hK => ?_)
        simp only [puts, List.foldl]
        go_simp
        exact hK _ _ ⟨rfl, rfl, hh⟩
      case Zx7 =>
        intro _ u wx hh hC
        have hJ5 : u 5 = (.int .i64 X) := hC.at 5 (by kernel_rfl) (by decide)
        clear hC
        refine wpOp_step rfl (fun K hK => ?_)
        simp only [puts, List.foldl]
        go_simp
        exact hK _ _ ⟨rfl, rfl, hh⟩
    case stepSZ =>
      refine List.forall_mem_cons.2 ⟨?Zt0, List.forall_mem_cons.2 ⟨?Zt1, List.forall_mem_cons.2 ⟨?Zt2, List.forall_mem_cons.2 ⟨?Zt3, List.forall_mem_cons.2 ⟨?Zt4, List.forall_mem_cons.2 ⟨?Zt5, List.forall_mem_cons.2 ⟨?Zt6, List.forall_mem_cons.2 ⟨?Zt7, List.forall_mem_nil _⟩⟩⟩⟩⟩⟩⟩⟩
      case Zt0 =>
        intro hx; exact absurd hx (by decide)
      case Zt1 =>
        intro hx; exact absurd hx (by decide)
      case Zt2 =>
        intro _ u wx hg hC
        obtain ⟨sh2, hJ0, hd, hs⟩ : DevB u9.heap.size (u 0) wx := hC.at 0 (by kernel_rfl)
        have hJ1 : u 1 = .agg [Value.int .i64 d, .int .i64 p, .int .i64 q].toArray := hC.at 1 (by kernel_rfl)
        clear hC
        refine wpOp_step rfl (fun K hK => ?_)
        simp only [puts, List.foldl]
        go_simp
        refine (HO3.out wx sh2 hd).mono ?_
        rintro e w' ⟨rfl, ho⟩
        exact hK _ _ ⟨rfl, rfl, hg.trans (ho.below hs hg.size)⟩
      case Zt3 =>
        intro hx; exact absurd hx (by decide)
      case Zt4 =>
        intro hx; exact absurd hx (by decide)
      case Zt5 =>
        intro hx; exact absurd hx (by decide)
      case Zt6 =>
        intro hx; exact absurd hx (by decide)
      case Zt7 =>
        intro hx; exact absurd hx (by decide)
    case finZ =>
      intro u u10 hh hx
      have e11 : u 6 = .pointer none := hx (6, 11) (by decide) (by decide)
      have e12 : u 7 = .int .i64 X := hx (7, 12) (by decide) (by decide)
      have hu10 := hh.2
      clear hh hx
      simp only [puts, List.foldl]
      rw [e11, e12]
      go_simp
      clear e11 e12
      have R10 := Lib.hid (R9.out.step hu10)
      have G10 := Lib.hid (G9.out.step hu10)
      have B10 := Lib.hid (B9.out.next hu10)
      clear hu10 R9 G9
      cases rt with
      | false =>
        have hX : X = 1 := by rw [HOP.out]; simp
        subst hX
        go_wp2_with (first
          | ((with_reducible refine G10.out.wpLoadK 33 fits_geo rfl ?_ ?_); rfl)
          | (go_at_call 31; (with_reducible refine (HRR.out u10).mono ?_); rintro e u11 ⟨rfl, b⟩; have R11 := Lib.hid (R10.out.step b); have G11 := Lib.hid (G10.out.step b); have B11 := Lib.hid (B10.out.next b); clear b)
          | ((with_reducible refine R11.out.wpLoadG 43 fits_rec rfl ?_ ?_); rfl)
          | (go_at_call 14; (with_reducible refine (HAN.out u11).mono ?_); rintro e u20 ⟨rfl, b⟩; have R20 := Lib.hid (R11.out.step b); have B20 := Lib.hid (B11.out.next b); clear b)
          | ((with_reducible refine R20.out.wpLoadG 43 fits_rec rfl ?_ ?_); rfl)
          | (simp only [R20.out.cell]; go_simp)
          | (simp only [R11.out.cell]; go_simp)
          | (go_at_call 15; (with_reducible refine (log_compact_nil _ _).mono ?_); rintro e u21 ⟨rfl, b⟩; have B21 := Lib.hid (B20.out.next ((alloc_below _ _).next b)); clear b)
          | (go_at_call 20; (with_reducible refine (log_all_nil u21).mono ?_); rintro e _ ⟨rfl, rfl⟩)
          | (go_at_call 25; (with_reducible refine (log_clean_nil u21).mono ?_); rintro e _ ⟨rfl, rfl⟩)
          | (go_at_call 26; (with_reducible refine (log_room_nil u21).mono ?_); rintro e _ ⟨rfl, rfl⟩)
          | (go_at_call 24; (with_reducible refine (log_gen_nil u21).mono ?_); rintro e _ ⟨rfl, rfl⟩))
        go_ret
        exact ⟨rfl, B21.out⟩
      | true =>
        by_cases hm : m ≤ 27
        · have hX : X = 14 := by rw [HOP.out, if_pos ⟨rfl, hm⟩]
          subst hX
          have hmd : decide (27 < m) = false := decide_eq_false (by omega)
          have hmp : (27 < m) = False := eq_false (by omega)
          go_wp2_with (first
            | ((with_reducible refine G10.out.wpLoadK 33 fits_geo rfl ?_ ?_); rfl)
            | (go_at_call 31; (with_reducible refine (HRR.out u10).mono ?_); rintro e u11 ⟨rfl, b⟩; have R11 := Lib.hid (R10.out.step b); have G11 := Lib.hid (G10.out.step b); have B11 := Lib.hid (B10.out.next b); clear b)
            | ((with_reducible refine G11.out.wpLoadG 33 fits_geo rfl ?_ ?_); rfl)
            | (go_at_call 32; (with_reducible refine (HAL.out u11).mono ?_); rintro e u12 ⟨rfl, b⟩; have R12 := Lib.hid (R11.out.step b); have B12 := Lib.hid (B11.out.next b); clear b)
            | (go_at_call 11; (with_reducible refine (HG.out u12).mono ?_); rintro e u13 ⟨rfl, b⟩; have R13 := Lib.hid (R12.out.step b); have B13 := Lib.hid (B12.out.next b); clear b)
            | (go_at_call 32; (with_reducible refine (HAG.out u13).mono ?_); rintro e u14 ⟨rfl, b⟩; have R14 := Lib.hid (R13.out.step b); have B14 := Lib.hid (B13.out.next b); clear b)
            | ((with_reducible refine R14.out.wpLoadG 43 fits_rec rfl ?_ ?_); rfl)
            | (go_at_call 14; (with_reducible refine (HAN.out u14).mono ?_); rintro e u20 ⟨rfl, b⟩; have R20 := Lib.hid (R14.out.step b); have B20 := Lib.hid (B14.out.next b); clear b)
            | ((with_reducible refine R20.out.wpLoadG 43 fits_rec rfl ?_ ?_); rfl)
            | (simp only [R20.out.cell]; go_simp)
            | (simp only [R14.out.cell]; go_simp)
            | (go_at_call 15; (with_reducible refine (log_compact_nil _ _).mono ?_); rintro e u21 ⟨rfl, b⟩; have B21 := Lib.hid (B20.out.next ((alloc_below _ _).next b)); clear b)
            | (go_at_call 20; (with_reducible refine (log_all_nil u21).mono ?_); rintro e _ ⟨rfl, rfl⟩)
            | (go_at_call 25; (with_reducible refine (log_clean_nil u21).mono ?_); rintro e _ ⟨rfl, rfl⟩)
            | (go_at_call 26; (with_reducible refine (log_room_nil u21).mono ?_); rintro e _ ⟨rfl, rfl⟩)
            | (go_at_call 24; (with_reducible refine (log_gen_nil u21).mono ?_); rintro e _ ⟨rfl, rfl⟩))
          go_ret
          exact ⟨rfl, B21.out⟩
        · have hX : X = 1 := by rw [HOP.out, if_neg (fun h => hm h.2)]
          subst hX
          have hmd : decide (27 < m) = true := decide_eq_true (by omega)
          have hmp : (27 < m) = True := eq_true (by omega)
          go_wp2_with (first
            | ((with_reducible refine G10.out.wpLoadK 33 fits_geo rfl ?_ ?_); rfl)
            | (go_at_call 31; (with_reducible refine (HRR.out u10).mono ?_); rintro e u11 ⟨rfl, b⟩; have R11 := Lib.hid (R10.out.step b); have G11 := Lib.hid (G10.out.step b); have B11 := Lib.hid (B10.out.next b); clear b)
            | ((with_reducible refine G11.out.wpLoadG 33 fits_geo rfl ?_ ?_); rfl)
            | (go_at_call 32; (with_reducible refine (HAL.out u11).mono ?_); rintro e u12 ⟨rfl, b⟩; have R12 := Lib.hid (R11.out.step b); have B12 := Lib.hid (B11.out.next b); clear b)
            | (go_at_call 11; (with_reducible refine (HG.out u12).mono ?_); rintro e u13 ⟨rfl, b⟩; have R13 := Lib.hid (R12.out.step b); have B13 := Lib.hid (B12.out.next b); clear b)
            | (go_at_call 32; (with_reducible refine (HAG.out u13).mono ?_); rintro e u14 ⟨rfl, b⟩; have R14 := Lib.hid (R13.out.step b); have B14 := Lib.hid (B13.out.next b); clear b)
            | ((with_reducible refine R14.out.wpLoadG 43 fits_rec rfl ?_ ?_); rfl)
            | (go_at_call 14; (with_reducible refine (HAN.out u14).mono ?_); rintro e u20 ⟨rfl, b⟩; have R20 := Lib.hid (R14.out.step b); have B20 := Lib.hid (B14.out.next b); clear b)
            | ((with_reducible refine R20.out.wpLoadG 43 fits_rec rfl ?_ ?_); rfl)
            | (simp only [R20.out.cell]; go_simp)
            | (simp only [R14.out.cell]; go_simp)
            | (go_at_call 15; (with_reducible refine (log_compact_nil _ _).mono ?_); rintro e u21 ⟨rfl, b⟩; have B21 := Lib.hid (B20.out.next ((alloc_below _ _).next b)); clear b)
            | (go_at_call 20; (with_reducible refine (log_all_nil u21).mono ?_); rintro e _ ⟨rfl, rfl⟩)
            | (go_at_call 25; (with_reducible refine (log_clean_nil u21).mono ?_); rintro e _ ⟨rfl, rfl⟩)
            | (go_at_call 26; (with_reducible refine (log_room_nil u21).mono ?_); rintro e _ ⟨rfl, rfl⟩)
            | (go_at_call 24; (with_reducible refine (log_gen_nil u21).mono ?_); rintro e _ ⟨rfl, rfl⟩))
          go_ret
          exact ⟨rfl, B21.out⟩
end Go.Proofs.YtnbindmmbbiifaaGreat
