/- Get of the program (gen_rec_f.py). -/
import Derived.Test.YtpeofjlecgenbaaRecC
import Derived.Test.YtpeofjlecgenbaaOpK
import Derived.Test.YtpeofjlecgenbaaInvT
import Derived.Test.YtpeofjlecgenbaaLst
namespace Go.Proofs.Ytpeofjlecgenbaa
open Go.RowKit CrcMath NumMath
set_option linter.unusedVariables false
set_option maxRecDepth 100000

theorem built_rec (k s n v : Int) : Try.prog.built 23 [(0, .int .i64 k), (1, .int .i64 s), (2, .int .i64 n), (3, .int .i64 v)] = some (rcv k s n v).toArray := by kernel_rfl
theorem built_rec0 : Try.prog.built 23 [] = some (rcv 0 0 0 0).toArray := by kernel_rfl
theorem takeR_page {L : List UInt8} (h : 10 ≤ L.length) : takeR L [1, 1, 2, 6] = ([pK L, pS L, pN L, pV L], 0) := by
  rw [takeR_ok (by decide) (by exact h), nnums_page]
theorem takeR_few {L : List UInt8} (h : L.length < 10) : takeR L [1, 1, 2, 6] = ([], 13) := takeR_short (by decide) (by exact h)

set_option maxHeartbeats 1000000 in
theorem rec_get_short (cp : Option Addr) (s : ByteArray) (w : World) (h : s.size < 10) :
    Calls Try.prog 12 #[.pointer cp, .string s] w fun e w' => e = .returned (.tuple #[.agg (rcv 0 0 0 0).toArray, .bool false]) ∧ Below w.heap.size w w' := by
  have HK : Hid (∀ u, Calls Try.prog 28 #[.string s, .slice (some ⟨u.heap.size, 0, none⟩) 4 4] (u.alloc (.cells #[.int .i64 1, .int .i64 1, .int .i64 2, .int .i64 6] 3)) fun e u' => ∃ a cap, e = .returned (.tuple #[.slice a 0 cap, .int .i64 13]) ∧ Below u.heap.size u u') := Lib.hid fun u => by
    refine (num_take_at s s.data.toList _ 4 4 [1, 1, 2, 6] [] 13 (u.alloc (.cells #[.int .i64 1, .int .i64 1, .int .i64 2, .int .i64 6] 3)) rfl (by omega) rfl (takeR_few (by rw [size_list]; exact h)) (by omega) (Lies.new (ints [1, 1, 2, 6]) u 3)).mono fun e u' h => ?_
    obtain ⟨a, cap, h1, h2, h3⟩ := h
    exact ⟨a, cap, h1, (alloc_below u _).next h3⟩
  have HB0 := Lib.hid built_rec0
  clear h
  go_enter Try.func12, Try.ntmps12
  go_wp2_with (first
    | ((with_reducible refine wpAllocK (w := w) (rcv 0 0 0 0) 23 zero_rec ?_ ?_); rfl; intro u1 r1 b1 s1; have R1 := Lib.hid r1; have B1 := Lib.hid b1; clear r1 b1 s1)
    | (go_at_call 28; (with_reducible refine (HK.out u1).mono ?_); rintro e u2 ⟨a2, c2, rfl, b2⟩; have R2 := Lib.hid (R1.out.step b2); have B2 : Hid (Below w.heap.size w u2) := Lib.hid (B1.out.next b2); clear b2)
    | ((with_reducible refine wpBuildZeroK (rcv 0 0 0 0) 23 HB0.out ?_ ?_); rfl)
    | ((with_reducible refine R2.out.wpStoreK 23 (rcv 0 0 0 0) fits_rec rfl rfl rfl ?_ ?_); rfl; intro u4 r4 o4 s4; have R4 := Lib.hid r4; have B4 : Hid (Below w.heap.size w u4) := Lib.hid (B2.out.trans (o4.below (Nat.le_refl _) B2.out.size)); clear r4 o4 s4))
  exact bodyPost_ret (R4.out.resultT rfl _ _ rfl Try.underlying23 rfl fits_rec.size) rfl ⟨rfl, B4.out⟩

set_option maxHeartbeats 2000000 in
/-- Of bytes enough: what Put answers of what stands there decides. -/
theorem rec_get_core (cp : Option Addr) (s T : ByteArray) (E k sl n v : Int) (w : World) (h10 : 10 ≤ s.size) (hz : s.size ≤ 140737488355328) (hk : pK s.data.toList = k) (hsl : pS s.data.toList = sl) (hn : pN s.data.toList = n) (hv : pV s.data.toList = v)
    (hp : ∀ u, Below w.heap.size w u → Calls Try.prog 9 #[.pointer cp, .agg (rcv k sl n v).toArray] u fun e u' => e = .returned (.tuple #[.string T, .int .i64 E]) ∧ Below u.heap.size u u') (W : List Value) (r : Bool)
    (hc : (E = 0 ∧ T = s ∧ W = rcv k sl n v ∧ r = true) ∨ (E = 1 ∧ W = rcv 0 0 0 0 ∧ r = false) ∨ (E = 0 ∧ T ≠ s ∧ W = rcv 0 0 0 0 ∧ r = false)) :
    Calls Try.prog 12 #[.pointer cp, .string s] w fun e w' => e = .returned (.tuple #[.agg W.toArray, .bool r]) ∧ Below w.heap.size w w' := by
  have HK : Hid (∀ u, Calls Try.prog 28 #[.string s, .slice (some ⟨u.heap.size, 0, none⟩) 4 4] (u.alloc (.cells #[.int .i64 1, .int .i64 1, .int .i64 2, .int .i64 6] 3)) fun e u' => ∃ g cap, e = .returned (.tuple #[.slice (some ⟨g, 0, none⟩) 4 cap, .int .i64 0]) ∧ g < u'.heap.size ∧ u'.cell? ⟨g, 0, none⟩ = some (.int .i64 k) ∧ u'.cell? ⟨g, 1, none⟩ = some (.int .i64 sl) ∧ u'.cell? ⟨g, 2, none⟩ = some (.int .i64 n) ∧ u'.cell? ⟨g, 3, none⟩ = some (.int .i64 v) ∧ Below u.heap.size u u') := Lib.hid fun u => by
    refine (num_take_new s s.data.toList _ 4 4 [1, 1, 2, 6] [k, sl, n, v] 0 (u.alloc (.cells #[.int .i64 1, .int .i64 1, .int .i64 2, .int .i64 6] 3)) rfl hz rfl (by rw [takeR_page (by rw [size_list]; exact h10), hk, hsl, hn, hv]) (by simp) (by omega) (Lies.new (ints [1, 1, 2, 6]) u 3)).mono fun e u' h => ?_
    obtain ⟨g, cap, ys, h1, h2, h3, h4, h5⟩ := h
    exact ⟨g, cap, h1, h4.lt, h4.cell 0, h4.cell 1, h4.cell 2, h4.cell 3, (alloc_below u _).next h5⟩
  have HP := Lib.hid hp
  have HB0 := Lib.hid built_rec0
  have HCS := Lib.hid hc
  clear hk hsl hn hv hp hc h10 hz
  go_enter Try.func12, Try.ntmps12
  go_wp2_with (first
    | ((with_reducible refine wpAllocK (w := w) (rcv 0 0 0 0) 23 zero_rec ?_ ?_); rfl; intro u1 r1 b1 s1; have R1 := Lib.hid r1; have B1 := Lib.hid b1; clear r1 b1 s1)
    | (go_at_call 28; (with_reducible refine (HK.out u1).mono ?_); rintro e u2 ⟨g, cap, rfl, hgl, hc0, hc1, hc2, hc3, b2⟩; have HGL := Lib.hid hgl; have HC0 := Lib.hid hc0; have HC1 := Lib.hid hc1; have HC2 := Lib.hid hc2; have HC3 := Lib.hid hc3; have R2 := Lib.hid (R1.out.step b2); have B2 : Hid (Below w.heap.size w u2) := Lib.hid (B1.out.next b2); clear b2 hgl hc0 hc1 hc2 hc3))
  refine region_storeT 14 13 [] (by decide) [(0, 20), (1, 21), (2, 22), (3, 23), (4, 24), (5, 25), (6, 26), (7, 27), (8, 28), (9, 29), (10, 30), (11, 31), (12, 32), (13, 8)]
    (fun ii => [Is (.slice (some ⟨g, 0, none⟩) 4 cap), Is (.pointer (some ⟨g, 0, none⟩)), Is (.int .i64 k), Is (.slice (some ⟨g, 0, none⟩) 4 cap), Is (.pointer (some ⟨g, 1, none⟩)), Is (.int .i64 sl), Is (.slice (some ⟨g, 0, none⟩) 4 cap), Is (.pointer (some ⟨g, 2, none⟩)), Is (.int .i64 n), Is (.slice (some ⟨g, 0, none⟩) 4 cap), Is (.pointer (some ⟨g, 3, none⟩)), Is (.int .i64 v), Is (.agg (rcv k sl n v).toArray), Nb u2 23 (rcv 0 0 0 0), Is undef].getD ii (Is undef))
    (fun w' => Below u2.heap.size u2 w') (fun zz w' => ∃ g2, zz = .pointer (some ⟨g2, 0, none⟩) ∧ Row w' g2 23 (rcv k sl n v) ∧ Below u2.heap.size u2 w') (by kernel_rfl) (by decide) (by kernel_rfl) (by kernel_rfl) (by decide) (by decide) (by kernel_rfl) rfl (by kernel_rfl) ?monoA ((Below.refl _ _).drew) ?stepA ?stepXA ?stepSA ?finA
  case monoA =>
    intro i
    match i with
    | 0 | 1 | 2 | 3 | 4 | 5 | 6 | 7 | 8 | 9 | 10 | 11 | 12 | 14 => exact Is.monot _
    | 13 => exact Nb.monot _ _ _
    | _ + 15 => exact Is.monot _
  case stepA =>
    refine List.forall_mem_cons.2 ⟨?As0, List.forall_mem_cons.2 ⟨?As1, List.forall_mem_cons.2 ⟨?As2, List.forall_mem_cons.2 ⟨?As3, List.forall_mem_cons.2 ⟨?As4, List.forall_mem_cons.2 ⟨?As5, List.forall_mem_cons.2 ⟨?As6, List.forall_mem_cons.2 ⟨?As7, List.forall_mem_cons.2 ⟨?As8, List.forall_mem_cons.2 ⟨?As9, List.forall_mem_cons.2 ⟨?As10, List.forall_mem_cons.2 ⟨?As11, List.forall_mem_cons.2 ⟨?As12, List.forall_mem_cons.2 ⟨?As13, List.forall_mem_nil _⟩⟩⟩⟩⟩⟩⟩⟩⟩⟩⟩⟩⟩⟩
    case As0 =>
      intro _
      intro u wx hg hC
      clear hC
      refine wpOp_step rfl (fun K hK => ?_)
      simp only [puts, List.foldl]
      go_simp
      exact hK _ _ ⟨rfl, rfl, hg, Below.refl _ _⟩
    case As1 =>
      intro _
      intro u wx hg hC
      have hJ0 : u 0 = (.slice (some ⟨g, 0, none⟩) 4 cap) := hC.at 0 (by kernel_rfl)
      clear hC
      refine wpOp_step rfl (fun K hK => ?_)
      simp only [puts, List.foldl]
      go_simp
      exact hK _ _ ⟨rfl, rfl, hg, Below.refl _ _⟩
    case As2 =>
      intro _
      intro u wx hg hC
      have hJ1 : u 1 = (.pointer (some ⟨g, 0, none⟩)) := hC.at 1 (by kernel_rfl)
      clear hC
      have hcl : wx.cell? ⟨g, 0, none⟩ = some (.int .i64 k) := (hg.cell (p := ⟨g, 0, none⟩) HGL.out).trans HC0.out
      refine wpOp_step rfl (fun K hK => ?_)
      simp only [puts, List.foldl]
      go_simp
      exact hK _ _ ⟨rfl, rfl, hg, Below.refl _ _⟩
    case As3 =>
      intro _
      intro u wx hg hC
      clear hC
      refine wpOp_step rfl (fun K hK => ?_)
      simp only [puts, List.foldl]
      go_simp
      exact hK _ _ ⟨rfl, rfl, hg, Below.refl _ _⟩
    case As4 =>
      intro _
      intro u wx hg hC
      have hJ3 : u 3 = (.slice (some ⟨g, 0, none⟩) 4 cap) := hC.at 3 (by kernel_rfl)
      clear hC
      refine wpOp_step rfl (fun K hK => ?_)
      simp only [puts, List.foldl]
      go_simp
      exact hK _ _ ⟨rfl, rfl, hg, Below.refl _ _⟩
    case As5 =>
      intro _
      intro u wx hg hC
      have hJ4 : u 4 = (.pointer (some ⟨g, 1, none⟩)) := hC.at 4 (by kernel_rfl)
      clear hC
      have hcl : wx.cell? ⟨g, 1, none⟩ = some (.int .i64 sl) := (hg.cell (p := ⟨g, 1, none⟩) HGL.out).trans HC1.out
      refine wpOp_step rfl (fun K hK => ?_)
      simp only [puts, List.foldl]
      go_simp
      exact hK _ _ ⟨rfl, rfl, hg, Below.refl _ _⟩
    case As6 =>
      intro _
      intro u wx hg hC
      clear hC
      refine wpOp_step rfl (fun K hK => ?_)
      simp only [puts, List.foldl]
      go_simp
      exact hK _ _ ⟨rfl, rfl, hg, Below.refl _ _⟩
    case As7 =>
      intro _
      intro u wx hg hC
      have hJ6 : u 6 = (.slice (some ⟨g, 0, none⟩) 4 cap) := hC.at 6 (by kernel_rfl)
      clear hC
      refine wpOp_step rfl (fun K hK => ?_)
      simp only [puts, List.foldl]
      go_simp
      exact hK _ _ ⟨rfl, rfl, hg, Below.refl _ _⟩
    case As8 =>
      intro _
      intro u wx hg hC
      have hJ7 : u 7 = (.pointer (some ⟨g, 2, none⟩)) := hC.at 7 (by kernel_rfl)
      clear hC
      have hcl : wx.cell? ⟨g, 2, none⟩ = some (.int .i64 n) := (hg.cell (p := ⟨g, 2, none⟩) HGL.out).trans HC2.out
      refine wpOp_step rfl (fun K hK => ?_)
      simp only [puts, List.foldl]
      go_simp
      exact hK _ _ ⟨rfl, rfl, hg, Below.refl _ _⟩
    case As9 =>
      intro _
      intro u wx hg hC
      clear hC
      refine wpOp_step rfl (fun K hK => ?_)
      simp only [puts, List.foldl]
      go_simp
      exact hK _ _ ⟨rfl, rfl, hg, Below.refl _ _⟩
    case As10 =>
      intro _
      intro u wx hg hC
      have hJ9 : u 9 = (.slice (some ⟨g, 0, none⟩) 4 cap) := hC.at 9 (by kernel_rfl)
      clear hC
      refine wpOp_step rfl (fun K hK => ?_)
      simp only [puts, List.foldl]
      go_simp
      exact hK _ _ ⟨rfl, rfl, hg, Below.refl _ _⟩
    case As11 =>
      intro _
      intro u wx hg hC
      have hJ10 : u 10 = (.pointer (some ⟨g, 3, none⟩)) := hC.at 10 (by kernel_rfl)
      clear hC
      have hcl : wx.cell? ⟨g, 3, none⟩ = some (.int .i64 v) := (hg.cell (p := ⟨g, 3, none⟩) HGL.out).trans HC3.out
      refine wpOp_step rfl (fun K hK => ?_)
      simp only [puts, List.foldl]
      go_simp
      exact hK _ _ ⟨rfl, rfl, hg, Below.refl _ _⟩
    case As12 =>
      intro _
      intro u wx hg hC
      have hJ2 : u 2 = (.int .i64 k) := hC.at 2 (by kernel_rfl)
      have hJ5 : u 5 = (.int .i64 sl) := hC.at 5 (by kernel_rfl)
      have hJ8 : u 8 = (.int .i64 n) := hC.at 8 (by kernel_rfl)
      have hJ11 : u 11 = (.int .i64 v) := hC.at 11 (by kernel_rfl)
      clear hC
      generalize hA : puts [(0, 20), (1, 21), (2, 22), (3, 23), (4, 24), (5, 25), (6, 26), (7, 27), (8, 28), (9, 29), (10, 30), (11, 31), (12, 32), (13, 8)] _ u = A
      have q0 : A.tmps.getD 22 undef = (.int .i64 k) := by rw [← hA]; exact (puts_get u 2 22 _ _ (by decide) (by decide) (by kernel_rfl)).trans hJ2
      have q1 : A.tmps.getD 25 undef = (.int .i64 sl) := by rw [← hA]; exact (puts_get u 5 25 _ _ (by decide) (by decide) (by kernel_rfl)).trans hJ5
      have q2 : A.tmps.getD 28 undef = (.int .i64 n) := by rw [← hA]; exact (puts_get u 8 28 _ _ (by decide) (by decide) (by kernel_rfl)).trans hJ8
      have q3 : A.tmps.getD 31 undef = (.int .i64 v) := by rw [← hA]; exact (puts_get u 11 31 _ _ (by decide) (by decide) (by kernel_rfl)).trans hJ11
      have hsz : 32 < A.tmps.size := by rw [← hA]; exact puts_room u (by kernel_rfl)
      refine wpOp_step rfl (fun K hK => ?_)
      clear hA
      exact opBuildK (φ := Is (.agg (rcv k sl n v).toArray)) _ _ _ (built_rec k sl n v) 32 rfl hsz hK _ rfl (by rw [Array.toList_map]; show [(0, A.tmps.getD 22 undef), (1, A.tmps.getD 25 undef), (2, A.tmps.getD 28 undef), (3, A.tmps.getD 31 undef)] = _; rw [q0, q1, q2, q3]) rfl hg
    case As13 =>
      intro _
      intro u wx hg hC
      clear hC
      generalize hA : puts [(0, 20), (1, 21), (2, 22), (3, 23), (4, 24), (5, 25), (6, 26), (7, 27), (8, 28), (9, 29), (10, 30), (11, 31), (12, 32), (13, 8)] _ u = A
      have hsz : 8 < A.tmps.size := by rw [← hA]; exact puts_room u (by kernel_rfl)
      refine wpOp_step rfl (fun K hK => ?_)
      clear hA
      exact opAllocK (φ := Nb u2 23 (rcv 0 0 0 0)) ((rcv 0 0 0 0)) _ (zero_rec) 8 rfl hsz hK rfl fun w' hr hb => ⟨⟨_, rfl, hg.size, hr⟩, hg.next hb⟩
  case stepXA =>
    refine List.forall_mem_cons.2 ⟨?Ax0, List.forall_mem_cons.2 ⟨?Ax1, List.forall_mem_cons.2 ⟨?Ax2, List.forall_mem_cons.2 ⟨?Ax3, List.forall_mem_cons.2 ⟨?Ax4, List.forall_mem_cons.2 ⟨?Ax5, List.forall_mem_cons.2 ⟨?Ax6, List.forall_mem_cons.2 ⟨?Ax7, List.forall_mem_cons.2 ⟨?Ax8, List.forall_mem_cons.2 ⟨?Ax9, List.forall_mem_cons.2 ⟨?Ax10, List.forall_mem_cons.2 ⟨?Ax11, List.forall_mem_cons.2 ⟨?Ax12, List.forall_mem_cons.2 ⟨?Ax13, List.forall_mem_nil _⟩⟩⟩⟩⟩⟩⟩⟩⟩⟩⟩⟩⟩⟩
    case Ax0 =>
      intro hx; exact absurd hx (by decide)
    case Ax1 =>
      intro hx; exact absurd hx (by decide)
    case Ax2 =>
      intro hx; exact absurd hx (by decide)
    case Ax3 =>
      intro hx; exact absurd hx (by decide)
    case Ax4 =>
      intro hx; exact absurd hx (by decide)
    case Ax5 =>
      intro hx; exact absurd hx (by decide)
    case Ax6 =>
      intro hx; exact absurd hx (by decide)
    case Ax7 =>
      intro hx; exact absurd hx (by decide)
    case Ax8 =>
      intro hx; exact absurd hx (by decide)
    case Ax9 =>
      intro hx; exact absurd hx (by decide)
    case Ax10 =>
      intro hx; exact absurd hx (by decide)
    case Ax11 =>
      intro hx; exact absurd hx (by decide)
    case Ax12 =>
      intro hx; exact absurd hx (by decide)
    case Ax13 =>
      intro hx; exact absurd hx (by decide)
  case stepSA =>
    intro u wx hg hC
    have hJ12 : u 12 = .agg (rcv k sl n v).toArray := hC (12, 32) (by decide) (by decide)
    obtain ⟨g2, hJ13, hge, hr13⟩ : Nb u2 23 (rcv 0 0 0 0) (u 13) wx := hC (13, 8) (by decide) (by decide)
    clear hC
    generalize hA : puts [(0, 20), (1, 21), (2, 22), (3, 23), (4, 24), (5, 25), (6, 26), (7, 27), (8, 28), (9, 29), (10, 30), (11, 31), (12, 32), (13, 8)] _ u = A
    have hp : A.tmps.getD 8 undef = .pointer (some ⟨g2, 0, none⟩) := by rw [← hA]; exact (puts_get u 13 8 _ _ (by decide) (by decide) (by kernel_rfl)).trans hJ13
    have hq : A.tmps.getD 32 undef = .agg (rcv k sl n v).toArray := by rw [← hA]; exact (puts_get u 12 32 _ _ (by decide) (by decide) (by kernel_rfl)).trans hJ12
    refine wpOp_step rfl (fun K hK => ?_)
    clear hA
    exact opStoreK (H := fun w' => ∃ g2, u 13 = .pointer (some ⟨g2, 0, none⟩) ∧ Row w' g2 23 (rcv k sl n v) ∧ Below u2.heap.size u2 w') hr13 _ (rcv k sl n v) fits_rec rfl rfl rfl hK (.tmp 8) (.tmp 32) rfl hp hq fun w' h1 h2 h3 => ⟨g2, hJ13, h1, hg.trans (h2.below hge hg.size)⟩
  case finA =>
    intro u ux hh hφ
    obtain ⟨g2, hJ13, rx, bx⟩ := hh
    clear hφ
    simp only [puts, List.foldl]
    rw [hJ13]
    clear hJ13
    go_simp
    have K3 := Lib.hid rx
    have R3 := Lib.hid (R2.out.step bx)
    have B3 : Hid (Below w.heap.size w ux) := Lib.hid (B2.out.next bx)
    clear rx bx
    rcases HCS.out with ⟨rfl, rfl, rfl, rfl⟩ | ⟨rfl, rfl, rfl⟩ | ⟨rfl, hne, rfl, rfl⟩
    · have heq : (T.toList == T.toList) = true := beq_self_eq_true _
      go_wp2_with (first
          | ((with_reducible refine K3.out.wpLoadK 23 fits_rec rfl ?_ ?_); rfl)
          | (go_at_call 9; (with_reducible refine (HP.out ux B3.out).mono ?_); rintro e u4 ⟨rfl, b4⟩; have K4 := Lib.hid (K3.out.step b4); have R4 := Lib.hid (R3.out.step b4); have B4 : Hid (Below w.heap.size w u4) := Lib.hid (B3.out.next b4); clear b4)
          | ((with_reducible refine K4.out.wpLoadK 23 fits_rec rfl ?_ ?_); rfl)
          | ((with_reducible refine R4.out.wpStoreK 23 (rcv k sl n v) fits_rec rfl rfl rfl ?_ ?_); rfl; intro u5 r5 o5 s5; have R5 := Lib.hid r5; have B5 : Hid (Below w.heap.size w u5) := Lib.hid (B4.out.trans (o5.below (Nat.le_refl _) B4.out.size)); clear r5 o5 s5))
      exact bodyPost_ret (R5.out.resultT rfl _ _ rfl Try.underlying23 rfl fits_rec.size) rfl ⟨rfl, B5.out⟩
    · skip
      go_wp2_with (first
          | ((with_reducible refine K3.out.wpLoadK 23 fits_rec rfl ?_ ?_); rfl)
          | (go_at_call 9; (with_reducible refine (HP.out ux B3.out).mono ?_); rintro e u4 ⟨rfl, b4⟩; have K4 := Lib.hid (K3.out.step b4); have R4 := Lib.hid (R3.out.step b4); have B4 : Hid (Below w.heap.size w u4) := Lib.hid (B3.out.next b4); clear b4)
          | ((with_reducible refine wpBuildZeroK (rcv 0 0 0 0) 23 HB0.out ?_ ?_); rfl)
          | ((with_reducible refine R4.out.wpStoreK 23 (rcv 0 0 0 0) fits_rec rfl rfl rfl ?_ ?_); rfl; intro u5 r5 o5 s5; have R5 := Lib.hid r5; have B5 : Hid (Below w.heap.size w u5) := Lib.hid (B4.out.trans (o5.below (Nat.le_refl _) B4.out.size)); clear r5 o5 s5))
      exact bodyPost_ret (R5.out.resultT rfl _ _ rfl Try.underlying23 rfl fits_rec.size) rfl ⟨rfl, B5.out⟩
    · have heq : (T.toList == s.toList) = false := beq_no hne
      go_wp2_with (first
          | ((with_reducible refine K3.out.wpLoadK 23 fits_rec rfl ?_ ?_); rfl)
          | (go_at_call 9; (with_reducible refine (HP.out ux B3.out).mono ?_); rintro e u4 ⟨rfl, b4⟩; have K4 := Lib.hid (K3.out.step b4); have R4 := Lib.hid (R3.out.step b4); have B4 : Hid (Below w.heap.size w u4) := Lib.hid (B3.out.next b4); clear b4)
          | ((with_reducible refine wpBuildZeroK (rcv 0 0 0 0) 23 HB0.out ?_ ?_); rfl)
          | ((with_reducible refine R4.out.wpStoreK 23 (rcv 0 0 0 0) fits_rec rfl rfl rfl ?_ ?_); rfl; intro u5 r5 o5 s5; have R5 := Lib.hid r5; have B5 : Hid (Below w.heap.size w u5) := Lib.hid (B4.out.trans (o5.below (Nat.le_refl _) B4.out.size)); clear r5 o5 s5))
      exact bodyPost_ret (R5.out.resultT rfl _ _ rfl Try.underlying23 rfl fits_rec.size) rfl ⟨rfl, B5.out⟩

/-- What Get answers. -/
def getV (L : List UInt8) : List Value := if isP L then rcv (pK L) (pS L) (pN L) (pV L) else rcv 0 0 0 0
theorem rec_get_any (b : Nat) (s : ByteArray) (w : World) (ht : Tab w b 0) (hb : b < w.heap.size) (hz : s.size ≤ 140737488355328) :
    Calls Try.prog 12 #[.pointer (some ⟨b, 0, none⟩), .string s] w fun e w' => e = .returned (.tuple #[.agg (getV s.data.toList).toArray, .bool (isP s.data.toList)]) ∧ Below w.heap.size w w' := by
  by_cases h10 : s.size < 10
  · have hno : isP s.data.toList = false := by
      cases h : isP s.data.toList with
      | false => rfl
      | true => have := (isP_is h).1; rw [size_list] at this; omega
    unfold getV
    rw [hno, if_neg (by decide)]
    exact rec_get_short _ s w h10
  · obtain ⟨L, hL⟩ : ∃ L, s.data.toList = L := ⟨_, rfl⟩
    obtain ⟨T, E, hTE⟩ : ∃ T E, putE (pK L) (pS L) (pN L) (pV L) = (T, E) := ⟨_, _, rfl⟩
    refine rec_get_core _ s T E (pK L) (pS L) (pN L) (pV L) w (by omega) hz (by rw [hL]) (by rw [hL]) (by rw [hL]) (by rw [hL]) (fun u hu => rec_put_any b _ _ _ _ u (ht.below hu hb) (Nat.lt_of_lt_of_le hb hu.size) T E hTE) _ _ ?_
    rw [hL]
    have hs : s = str L := by rw [← hL, str_of]
    unfold putE at hTE
    cases hr : rOk (pK L) (pS L) (pN L) (pV L) with
    | true =>
      rw [hr, if_pos rfl] at hTE
      obtain ⟨rfl, rfl⟩ := Prod.mk.inj hTE
      cases h : isP L with
      | true =>
        left
        refine ⟨rfl, by rw [(isP_is h).2.2, hs], by unfold getV; rw [h, if_pos rfl], rfl⟩
      | false =>
        right; right
        refine ⟨rfl, fun e => ?_, by unfold getV; rw [h, if_neg (by decide)], rfl⟩
        have e2 := str_inj (e.trans hs)
        have : isP L = true := by
          have h2 := page_is hr
          rw [e2] at h2
          exact h2
        rw [h] at this
        cases this
    | false =>
      rw [hr, if_neg (by decide)] at hTE
      obtain ⟨rfl, rfl⟩ := Prod.mk.inj hTE
      have hno : isP L = false := by
        cases h : isP L with
        | false => rfl
        | true => have := (isP_is h).2.1; rw [hr] at this; cases this
      rw [hno]
      exact .inr (.inl ⟨rfl, by unfold getV; rw [hno, if_neg (by decide)], rfl⟩)
end Go.Proofs.Ytpeofjlecgenbaa
