/- Contract of flash.New. (gen_fla_new.py) -/
import Derived.Test.YtgdfcfbccjdecaaFlaL
import Derived.Test.YtgdfcfbccjdecaaMake
namespace Go.Proofs.Ytgdfcfbccjdecaa
open Go.RowKit FlaMath
set_option linter.unusedVariables false
set_option maxRecDepth 100000

/-- A new device. -/
def D0 (n : Nat) : Dv := ⟨0, 0, false, 0, List.replicate (n * 64) 255, List.replicate n false, List.replicate n 0, 0, false⟩
def Stv (B n : Nat) : Value → World → Prop := fun v w => ∃ g tot, v = .slice (some ⟨g, 0, none⟩) n n ∧ B ≤ g ∧ St g 255 tot n w
theorem Stv.monot (B n : Nat) : Monot (Stv B n) := fun _ _ _ ⟨g, t, h1, h2, h3⟩ hb => ⟨g, t, h1, h2, h3.step hb⟩
def Mk (B n : Nat) (t : TypeId) (z : Value) : Value → World → Prop := fun v w => ∃ g, v = .slice (some ⟨g, 0, none⟩) n n ∧ B ≤ g ∧ Row w g t (List.replicate n z)
theorem Mk.monot (B n : Nat) (t : TypeId) (z : Value) : Monot (Mk B n t z) := fun _ _ _ ⟨g, h1, h2, h3⟩ hb => ⟨g, h1, h2, h3.step hb⟩
theorem row_ne {w : World} {a b : Nat} {t t' : TypeId} {l l' : List Value} (h : Row w a t l) (h' : Row w b t' l') (hne : t ≠ t') : a ≠ b := by
  intro e
  subst e
  have : some (Obj.cells l.toArray t (0, 0)) = some (Obj.cells l'.toArray t' (0, 0)) := h.symm.trans h'
  injection this with this
  injection this with h1 h2 h3
  exact hne h2
theorem fmk_bool : (Try.prog.info? 4).map (fun i => (i.zero, i.size, i.bytes)) = some (some (.bool false), 1, 8) ∨ (Try.prog.info? 4).map (fun i => (i.zero, i.size, i.bytes)) = some (some (.bool false), 1, 1) := Or.inr (by kernel_rfl)
theorem fmk_int : (Try.prog.info? 3).map (fun i => (i.zero, i.size, i.bytes)) = some (some (.int .i64 0), 1, 8) ∨ (Try.prog.info? 3).map (fun i => (i.zero, i.size, i.bytes)) = some (some (.int .i64 0), 1, 1) := Or.inl (by kernel_rfl)
theorem D0_ok (n : Nat) (h1 : 1 ≤ n) (h2 : n ≤ 512) : (D0 n).Ok := ⟨by simp [D0]; omega, by simp [D0]; omega, by simp [D0]; omega, by simp [D0]⟩
theorem rep_bytes (n : Nat) : rep n 255 = bytes (List.replicate n 255) := by simp [rep, bytes]

theorem flnew_bad (n : Int) (w : World) (h : n < 1 ∨ 512 < n) : Calls Try.prog 9 #[.int .i64 n] w fun e w' => e = .returned (.tuple #[.pointer none, .int .i64 1]) ∧ w = w' := by
  by_cases h1 : n < 1
  · clear h
    go_enter Try.func9, Try.ntmps9
    go_wp2
    go_ret2
    exact ⟨rfl, rfl⟩
  · have h2 : 512 < n := by omega
    clear h
    go_enter Try.func9, Try.ntmps9
    go_wp2
    go_ret2
    exact ⟨rfl, rfl⟩

set_option maxHeartbeats 1000000 in
theorem flnew_any (n : Nat) (w : World) (h1 : 1 ≤ n) (h2 : n ≤ 512) :
    Calls Try.prog 9 #[.int .i64 (n : Int)] w fun e w' => ∃ s : Sh, e = .returned (.tuple #[.pointer (some ⟨s.b, 0, none⟩), .int .i64 0]) ∧ Dev w' s (D0 n) ∧ (∀ k ∈ s.S, w.heap.size ≤ k) ∧ Below w.heap.size w w' := by
  obtain ⟨N, hN⟩ : ∃ N, n * 64 = N := ⟨_, rfl⟩
  have HN := Lib.hid hN
  have H1 := Lib.hid h1
  have H2 := Lib.hid h2
  have HR : Hid (∀ wx q, Lies wx wx.heap.size (some ⟨q, 0, none⟩) [.int .u8 255] → Calls Try.prog 25 #[.slice (some ⟨q, 0, none⟩) 1 1, .int .i64 (N : Int)] wx fun e w' => ∃ g tot, e = .returned (.slice (some ⟨g, 0, none⟩) N N) ∧ wx.heap.size ≤ g ∧ St g 255 tot N w' ∧ Below wx.heap.size wx w') := Lib.hid fun wx q h => brepeat_any q 255 N wx (by omega) (by omega) h
  have k1 : (n : Int) ≤ 512 := by omega
  have k2 : 1 ≤ (n : Int) := by omega
  have ew2 : IntKind.i64.wrap ((n : Int) * 64) = (N : Int) := by rw [IntKind.wrap_i64]; omega
  have ew : wrap64 ((n : Int) * 64) = (N : Int) := by rw [← hN]; unfold wrap64; omega
  clear hN h1 h2
  go_enter Try.func9, Try.ntmps9
  go_wp2
  refine region_tail 8 [(0, 10), (1, 11), (2, 12), (3, 13), (4, 14), (5, 15), (6, 16), (7, 17)]
    (fun ii => [New [.int .u8 255], Is (.int .i64 (n : Int)), Is (.int .i64 (N : Int)), Stv w.heap.size N, Is (.int .i64 (n : Int)), Mk w.heap.size n 4 (.bool false), Is (.int .i64 (n : Int)), Mk w.heap.size n 3 (.int .i64 0)].getD ii (Is undef))
    (fun w' => Below w.heap.size w w') (by kernel_rfl) (by decide) (by kernel_rfl) (by kernel_rfl) (by kernel_rfl) (by decide) (by decide) (by kernel_rfl) rfl ?mono ((Below.refl _ _).drew) ?step ?fin
  case mono =>
    intro i
    match i with
    | 0 => exact New.monot _
    | 3 => exact Stv.monot _ _
    | 5 | 7 => exact Mk.monot _ _ _ _
    | 1 | 2 | 4 | 6 => exact Is.monot _
    | _ + 8 => exact Is.monot _
  case step =>
    refine List.forall_mem_cons.2 ⟨?s0, List.forall_mem_cons.2 ⟨?s1, List.forall_mem_cons.2 ⟨?s2, List.forall_mem_cons.2 ⟨?s3, List.forall_mem_cons.2 ⟨?s4, List.forall_mem_cons.2 ⟨?s5, List.forall_mem_cons.2 ⟨?s6, List.forall_mem_cons.2 ⟨?s7, List.forall_mem_nil _⟩⟩⟩⟩⟩⟩⟩⟩
    case s0 =>
      intro u wx hg hC
      clear hC
      refine wpOp_step rfl (fun K hK => ?_)
      simp only [puts, List.foldl]
      go_simp
      exact hK _ _ ⟨rfl, ⟨wx.heap.size, rfl, Lies.new [_] _ _⟩, hg.alloc hg.size _, alloc_below _ _⟩
    case s1 =>
      intro u wx hg hC
      clear hC
      refine wpOp_step rfl (fun K hK => ?_)
      simp only [puts, List.foldl]
      go_simp
      exact hK _ _ ⟨rfl, rfl, hg, Below.refl _ _⟩
    case s2 =>
      intro u wx hg hC
      have h1 : u 1 = .int .i64 (n : Int) := hC.at 1 (by kernel_rfl)
      clear hC
      refine wpOp_step rfl (fun K hK => ?_)
      simp only [puts, List.foldl]
      go_simp
      exact hK _ _ ⟨rfl, rfl, hg, Below.refl _ _⟩
    case s3 =>
      intro u wx hg hC
      obtain ⟨q, h0, hl⟩ : New [.int .u8 255] (u 0) wx := hC.at 0 (by kernel_rfl)
      simp only [List.length_singleton] at h0
      have h2 : u 2 = .int .i64 (N : Int) := hC.at 2 (by kernel_rfl)
      clear hC
      refine wpOp_step rfl (fun K hK => ?_)
      simp only [puts, List.foldl]
      go_simp
      refine (HR.out wx q hl).mono ?_
      rintro e w' ⟨g, tot, rfl, hg1, hst, hb'⟩
      exact hK _ _ ⟨rfl, ⟨g, tot, rfl, Nat.le_trans hg.size hg1, hst⟩, hg.next hb', hb'⟩
    case s4 =>
      intro u wx hg hC
      clear hC
      refine wpOp_step rfl (fun K hK => ?_)
      simp only [puts, List.foldl]
      go_simp
      exact hK _ _ ⟨rfl, rfl, hg, Below.refl _ _⟩
    case s5 =>
      intro u wx hg hC
      have hJ : u 4 = .int .i64 (n : Int) := hC.at 4 (by kernel_rfl)
      clear hC
      refine wpOp_step rfl (fun K hK => ?_)
      generalize hA : puts [(0, 10), (1, 11), (2, 12), (3, 13), (4, 14), (5, 15), (6, 16), (7, 17)] _ u = A at hK ⊢
      have hs : A.tmps.getD 14 undef = .int .i64 (n : Int) := by rw [← hA, ← hJ]; exact puts_get u 4 14 _ _ (by decide) (by decide) (by kernel_rfl)
      have hsz : 15 < A.tmps.size := by rw [← hA]; exact puts_room u (by kernel_rfl)
      clear hA hJ
      refine opMakeK (φ := Mk w.heap.size n 4 (.bool false)) (G := fun w' => Below w.heap.size w w') 15 ?_ ?_ ?_ 54 4 (.bool false) n n ?_ ?_ ?_ ?_ ?_ ?_ ?_
      · rfl
      · exact hsz
      · exact hK
      · exact Try.underlying54
      · exact fmk_bool
      · rfl
      · exact Nat.le_refl _
      · have := H2.out; omega
      · exact makeOf_tmp 54 14 rfl rfl hs
      · exact fun w' r' b' => ⟨⟨wx.heap.size, rfl, hg.size, r'⟩, hg.next b'⟩
    case s6 =>
      intro u wx hg hC
      clear hC
      refine wpOp_step rfl (fun K hK => ?_)
      simp only [puts, List.foldl]
      go_simp
      exact hK _ _ ⟨rfl, rfl, hg, Below.refl _ _⟩
    case s7 =>
      intro u wx hg hC
      have hJ : u 6 = .int .i64 (n : Int) := hC.at 6 (by kernel_rfl)
      clear hC
      refine wpOp_step rfl (fun K hK => ?_)
      generalize hA : puts [(0, 10), (1, 11), (2, 12), (3, 13), (4, 14), (5, 15), (6, 16), (7, 17)] _ u = A at hK ⊢
      have hs : A.tmps.getD 16 undef = .int .i64 (n : Int) := by rw [← hA, ← hJ]; exact puts_get u 6 16 _ _ (by decide) (by decide) (by kernel_rfl)
      have hsz : 17 < A.tmps.size := by rw [← hA]; exact puts_room u (by kernel_rfl)
      clear hA hJ
      refine opMakeK (φ := Mk w.heap.size n 3 (.int .i64 0)) (G := fun w' => Below w.heap.size w w') 17 ?_ ?_ ?_ 47 3 (.int .i64 0) n n ?_ ?_ ?_ ?_ ?_ ?_ ?_
      · rfl
      · exact hsz
      · exact hK
      · exact Try.underlying47
      · exact fmk_int
      · rfl
      · exact Nat.le_refl _
      · have := H2.out; omega
      · exact makeOf_tmp 47 16 rfl rfl hs
      · exact fun w' r' b' => ⟨⟨wx.heap.size, rfl, hg.size, r'⟩, hg.next b'⟩
  case fin =>
    intro u w4 hb4 hφ
    obtain ⟨g1, tot, e3, hg1, z, hr1, ht1⟩ : Stv w.heap.size N (u 3) w4 := hφ (3, 13) (by decide)
    obtain ⟨g2, e5, hg2, hr2⟩ : Mk w.heap.size n 4 (.bool false) (u 5) w4 := hφ (5, 15) (by decide)
    obtain ⟨g3, e7, hg3, hr3⟩ : Mk w.heap.size n 3 (.int .i64 0) (u 7) w4 := hφ (7, 17) (by decide)
    clear hφ
    have n12 := row_ne hr1 hr2 (by decide)
    have n13 := row_ne hr1 hr3 (by decide)
    have n23 := row_ne hr2 hr3 (by decide)
    have R1 := Lib.hid hr1
    have R2 := Lib.hid hr2
    have R3 := Lib.hid hr3
    have B4 := Lib.hid hb4
    have HG := Lib.hid (And.intro hg1 (And.intro hg2 hg3))
    have HNE := Lib.hid (And.intro n12 (And.intro n13 n23))
    simp only [puts, List.foldl]
    go_simp
    clear hb4 hr1 hr2 hr3 hg1 hg2 hg3 n12 n13 n23 ht1 e3 e5 e7
    go_wp2_with ((with_reducible refine wpBoxK [Value.int .i64 0, .int .u8 0, .bool false, .int .i64 0, .slice (some ⟨g1, 0, none⟩) N N, .slice (some ⟨g2, 0, none⟩) n n, .slice (some ⟨g3, 0, none⟩) n n, .int .i64 0, .bool false] 58 ?_ ?_); rfl; intro w5 r5 b5 s5; have R5 := Lib.hid r5; have B5 := Lib.hid b5; clear r5 b5 s5)
    go_ret2
    refine ⟨⟨w4.heap.size, g1, N, z, g2, n, [], g3, n, []⟩, rfl, ⟨?_, ?_, ?_, ?_, ?_, ?_, ?_, D0_ok n H1.out H2.out⟩, ?_, B4.out.next B5.out⟩
    · have e : devL ⟨w4.heap.size, g1, N, z, g2, n, [], g3, n, []⟩ (D0 n) = [Value.int .i64 0, .int .u8 0, .bool false, .int .i64 0, .slice (some ⟨g1, 0, none⟩) N N, .slice (some ⟨g2, 0, none⟩) n n, .slice (some ⟨g3, 0, none⟩) n n, .int .i64 0, .bool false] := by
        simp [devL, D0, HN.out]
      rw [e]; exact R5.out
    · have e : bytes (D0 n).C = rep N 255 := by rw [rep_bytes, ← HN.out]; rfl
      show Row _ g1 _ (bytes (D0 n).C ++ z)
      rw [e]; exact R1.out.step B5.out
    · show Row _ g2 _ (fbools (List.replicate n false) ++ [])
      rw [List.append_nil, show fbools (List.replicate n false) = List.replicate n (.bool false) by simp [fbools]]; exact R2.out.step B5.out
    · show Row _ g3 _ (ints (List.replicate n 0) ++ [])
      rw [List.append_nil, show ints (List.replicate n 0) = List.replicate n (.int .i64 0) by simp [ints]]; exact R3.out.step B5.out
    · have q1 := R1.out.lt
      have q2 := R2.out.lt
      have q3 := R3.out.lt
      obtain ⟨a1, a2, a3⟩ := HNE.out
      simp only [Sh.S, List.nodup_cons, List.mem_cons, List.not_mem_nil, or_false, not_or, not_false_eq_true, List.nodup_nil, and_true]
      exact ⟨⟨by omega, by omega, by omega⟩, ⟨a1, a2⟩, a3⟩
    · show (List.replicate (n * 64) (255 : UInt8)).length ≤ N
      rw [List.length_replicate, HN.out]; exact Nat.le_refl _
    · show N ≤ _
      have := H2.out; have := HN.out; omega
    · intro k hk
      obtain ⟨a1, a2, a3⟩ := HG.out
      have := B4.out.size
      simp only [Sh.S, List.mem_cons, List.not_mem_nil, or_false] at hk
      rcases hk with rfl | rfl | rfl | rfl
      · exact this
      · exact a1
      · exact a2
      · exact a3
end Go.Proofs.Ytgdfcfbccjdecaa
