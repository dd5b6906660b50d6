/- Contracts of tag's first, Seal, Open, Blank. -/
import Derived.Test.YtmffkfgcopaoeaaTagMath
import Derived.Test.YtmffkfgcopaoeaaOpK
namespace Go.Proofs.Ytmffkfgcopaoeaa
open Go.RowKit CrcMath
set_option linter.unusedVariables false
set_option maxRecDepth 100000

theorem tag_zero : ∀ u, (zeroValue 23).run Try.prog u = .ok (.agg (bytes (List.replicate 60 0)).toArray) u := fun u => by kernel_rfl
theorem fits_block : Fits Try.prog 23 60 := ⟨⟨_, Try.underlying23, rfl⟩, by kernel_rfl⟩
theorem tag_byte : One Try.prog 5 := One.of (by kernel_rfl)
theorem Row.resultT {w : World} {g : Nat} {t : TypeId} {l : List Value} (h : Row w g t l) {fn : Func} {p q : Tmp} {ty : TypeId} (hf : fn.results = #[.cell p ty, .tmp q]) (tmps : Array Value) (d : TypeDesc)
    (hp : tmps.getD p undef = .pointer (some ⟨g, 0, none⟩)) (hu : Try.prog.underlying ty = some d) (hd : d.isRow = true) (hi : (Try.prog.info? ty).map (·.size) = some l.length) :
    (results fn tmps).run Try.prog w = .ok (.tuple #[.agg l.toArray, tmps.getD q undef]) w := by
  have hp' : tmps[p]?.getD undef = .pointer (some ⟨g, 0, none⟩) := by simpa using hp
  have := run_loadVar_row (P := Try.prog) w g t ty l.toArray (0, 0) d h hu (by cases d <;> simp_all) (by simpa using hi)
  simp [results, hf, hp', asAddr, this]

set_option maxHeartbeats 1000000 in
theorem tag_first_any (s : ByteArray) (w : World) (hs : s.size ≤ 140737488355328) :
    Calls Try.prog 21 #[.string s] w fun e w' => e = .returned (.tuple #[.agg (bytes (blk s.data.toList)).toArray, .string (str (s.data.toList.drop 60))]) ∧ Below w.heap.size w w' := by
  obtain ⟨O, hO⟩ : ∃ O : List UInt8, O = List.replicate 60 0 := ⟨_, rfl⟩
  obtain ⟨B, hB⟩ : ∃ B, B = bytes (blk s.data.toList) := ⟨_, rfl⟩
  obtain ⟨n, hn⟩ : ∃ n, n = Nat.min s.size 60 := ⟨_, rfl⟩
  obtain ⟨Y, hY⟩ : ∃ Y : List Value, Y = bytes (List.replicate n 0) := ⟨_, rfl⟩
  obtain ⟨Z, hZ⟩ : ∃ Z : List Value, Z = bytes (List.replicate (60 - n) 0) := ⟨_, rfl⟩
  obtain ⟨X, hX⟩ : ∃ X, X = s.extract n s.size := ⟨_, rfl⟩
  have hn1 : n ≤ s.size := by rw [hn]; exact Nat.min_le_left _ _
  have hn2 : n ≤ 60 := by rw [hn]; exact Nat.min_le_right _ _
  have hnc : (n = s.size ∧ s.size ≤ 60) ∨ (n = 60 ∧ 60 ≤ s.size) := by
    have h : n = min s.size 60 := hn
    omega
  have hsl := size_list s
  have HZ0 : Hid (∀ u, (zeroValue 23).run Try.prog u = .ok (.agg (bytes O).toArray) u) := Lib.hid (by rw [hO]; exact tag_zero)
  have HOY : Hid (bytes O = [] ++ Y ++ Z) := Lib.hid (by rw [hO, hY, hZ, List.nil_append, ← bytes_append, List.replicate_append_replicate, show n + (60 - n) = 60 by omega])
  have HBY : Hid ([] ++ bytes (s.data.toList.take n) ++ Z = B) := Lib.hid (by
    rw [hB, hZ, List.nil_append, ← bytes_append, blk, size_list]
    congr 2
    · rcases hnc with h | h
      · rw [h.1, List.take_of_length_le (by omega), List.take_of_length_le (by omega)]
      · rw [h.1]
    · congr 1
      omega)
  have HN : Hid (Nat.min s.size 60 = n) := Lib.hid hn.symm
  have LY : Hid (Y.length = n) := Lib.hid (by rw [hY, bytes_length, List.length_replicate])
  have LB : Hid (B.length = 60) := Lib.hid (by rw [hB, bytes_length, blk_length])
  have LO : Hid ((bytes O).length = 60) := Lib.hid (by rw [hO, bytes_length, List.length_replicate])
  have HB1 : Hid (B.all (·.oneCell') = true) := Lib.hid (by rw [hB]; exact bytes_oneC _)
  have HXE : Hid (X = str (s.data.toList.drop 60)) := Lib.hid (by
    have e : X.data.toList = s.data.toList.drop 60 := by
      rw [hX, ByteArray.data_extract]
      simp only [Array.toList_extract]
      rw [List.extract_eq_take_drop, ← hsl]
      rcases hnc with h | h
      · rw [List.drop_of_length_le (by omega), List.drop_of_length_le (by omega), List.take_nil]
      · rw [h.1, List.take_of_length_le (by simp)]
    rw [← e, str_of])
  rw [← hB, ← HXE.out]
  have HXX : Hid (s.extract n s.size = X) := Lib.hid hX.symm
  have hn3 : (n : Int) ≤ (s.size : Int) := by omega
  clear hO hB hn hY hZ hnc hsl hX
  go_enter Try.func21, Try.ntmps21
  go_wp2_with (first
    | ((with_reducible refine wpAllocK (w := w) (bytes O) 23 HZ0.out ?_ ?_); rfl; intro u1 r1 b1 s1; have R1 := Lib.hid r1; have B1 := Lib.hid b1; have S1 := Lib.hid s1; clear r1 b1 s1)
    | ((with_reducible refine wpAllocK (w := u1) (bytes O) 23 HZ0.out ?_ ?_); rfl; intro u2 r2 b2 s2; rw [HOY.out] at r2; have R2 := Lib.hid r2; have Q2 := Lib.hid (R1.out.step b2); have B2 : Hid (Below w.heap.size w u2) := Lib.hid (B1.out.next b2); have S2 := Lib.hid s2; clear r2 b2 s2)
    | ((with_reducible refine R2.out.wpCopyK (s := s) (dLen := 60) rfl 9 60 Try.underlying39 tag_byte HN.out LY.out ?_ ?_); rfl; intro u3 r3 o3 s3; rw [HBY.out] at r3; have R3 := Lib.hid r3; have Q3 := Lib.hid (Q2.out.only o3 (by have := S1.out; omega)); have B3 : Hid (Below w.heap.size w u3) := Lib.hid (B2.out.trans (o3.below B1.out.size B2.out.size)); clear r3 o3 s3))
  -- R3
  refine region_storeT 4 0 [1, 2, 3, 5] (by decide) [(0, 9), (1, 10), (2, 11), (3, 12), (5, 3)]
    (fun ii => [Is (.agg (B).toArray), Is (.string s), Is (.int .i64 (n : Int)), Is (.string X), Is undef, Is (.string X)].getD ii (Is undef))
    (fun w' => Below u3.heap.size u3 w') (fun _ w' => Below w.heap.size w w' ∧ Row w' w.heap.size 23 B) (by kernel_rfl) (by decide) (by kernel_rfl) (by kernel_rfl) (by decide) (by decide) (by kernel_rfl) rfl (by kernel_rfl) ?monoA ((Below.refl _ _).drew) ?stepA ?stepXA ?stepSA ?finA
  case monoA =>
    intro i
    match i with
    | 0 | 1 | 2 | 3 | 4 | 5 => exact Is.monot _
    | _ + 6 => exact Is.monot _
  case stepA =>
    refine List.forall_mem_cons.2 ⟨?As0, List.forall_mem_cons.2 ⟨?As1, List.forall_mem_cons.2 ⟨?As2, List.forall_mem_cons.2 ⟨?As3, List.forall_mem_cons.2 ⟨?As5, List.forall_mem_nil _⟩⟩⟩⟩⟩
    case As0 =>
      intro _
      intro u wx hg hC
      clear hC
      generalize hA : puts [(0, 9), (1, 10), (2, 11), (3, 12), (5, 3)] _ u = A
      have hp : A.tmps.getD 4 undef = (.pointer (some ⟨u1.heap.size, 0, none⟩)) := by rw [← hA]; exact (puts_get_out u _ _ 4 (by decide)).trans (by rfl)
      have hsz : 9 < A.tmps.size := by rw [← hA]; exact puts_room u (by kernel_rfl)
      refine wpOp_step rfl (fun K hK => ?_)
      clear hA
      exact opLoadK (φ := Is (.agg (B).toArray)) (R3.out.step hg) _ (fits_block) (LB.out) 9 rfl hsz hK (.tmp 4) rfl hp rfl hg
    case As1 =>
      intro _
      intro u wx hg hC
      clear hC
      refine wpOp_step rfl (fun K hK => ?_)
      simp only [puts, List.foldl]
      go_simp
      exact hK _ _ ⟨rfl, rfl, hg, Below.refl _ _⟩
    case As2 =>
      intro _
      intro u wx hg hC
      clear hC
      refine wpOp_step rfl (fun K hK => ?_)
      simp only [puts, List.foldl]
      go_simp
      exact hK _ _ ⟨rfl, rfl, hg, Below.refl _ _⟩
    case As3 =>
      intro _
      intro u wx hg hC
      have hJ1 : u 1 = (.string s) := hC.at 1 (by kernel_rfl)
      have hJ2 : u 2 = (.int .i64 (n : Int)) := hC.at 2 (by kernel_rfl)
      clear hC
      have hxx : s.extract n s.size = X := HXX.out
      refine wpOp_step rfl (fun K hK => ?_)
      simp only [puts, List.foldl]
      go_simp
      exact hK _ _ ⟨rfl, rfl, hg, Below.refl _ _⟩
    case As5 =>
      intro hw; exact Bool.noConfusion (hw.symm.trans (show waitsB _ 5 4 = true by kernel_rfl))
  case stepXA =>
    refine List.forall_mem_cons.2 ⟨?Ax0, List.forall_mem_cons.2 ⟨?Ax1, List.forall_mem_cons.2 ⟨?Ax2, List.forall_mem_cons.2 ⟨?Ax3, List.forall_mem_cons.2 ⟨?Ax5, List.forall_mem_nil _⟩⟩⟩⟩⟩
    case Ax0 =>
      intro hx; exact absurd hx (by decide)
    case Ax1 =>
      intro _ u wx hh hC
      clear hC
      refine wpOp_step rfl (fun K hK => ?_)
      simp only [puts, List.foldl]
      go_simp
      exact hK _ _ ⟨rfl, ⟨wx, rfl⟩, hh⟩
    case Ax2 =>
      intro _ u wx hh hC
      clear hC
      refine wpOp_step rfl (fun K hK => ?_)
      simp only [puts, List.foldl]
      go_simp
      exact hK _ _ ⟨rfl, ⟨wx, rfl⟩, hh⟩
    case Ax3 =>
      intro _ u wx hh hC
      have hJ1 : u 1 = (.string s) := by obtain ⟨_, hq⟩ := hC.at 1 (by kernel_rfl) (by decide); exact hq
      have hJ2 : u 2 = (.int .i64 (n : Int)) := by obtain ⟨_, hq⟩ := hC.at 2 (by kernel_rfl) (by decide); exact hq
      clear hC
      have hxx : s.extract n s.size = X := HXX.out
      refine wpOp_step rfl (fun K hK => ?_)
      simp only [puts, List.foldl]
      go_simp
      exact hK _ _ ⟨rfl, ⟨wx, rfl⟩, hh⟩
    case Ax5 =>
      intro _ u wx hh hC
      have hJ3 : u 3 = (.string X) := by obtain ⟨_, hq⟩ := hC.at 3 (by kernel_rfl) (by decide); exact hq
      clear hC
      refine wpOp_step rfl (fun K hK => ?_)
      simp only [puts, List.foldl]
      go_simp
      exact hK _ _ ⟨rfl, ⟨wx, rfl⟩, hh⟩
  case stepSA =>
    intro u wx hg hC
    have hJ0 : u 0 = .agg B.toArray := hC (0, 9) (by decide) (by decide)
    clear hC
    generalize hA : puts [(0, 9), (1, 10), (2, 11), (3, 12), (5, 3)] _ u = A
    have hp : A.tmps.getD 2 undef = .pointer (some ⟨w.heap.size, 0, none⟩) := by rw [← hA]; exact (puts_get_out u _ _ 2 (by decide)).trans (by rfl)
    have hq : A.tmps.getD 9 undef = .agg B.toArray := by rw [← hA]; exact (puts_get u 0 9 _ _ (by decide) (by decide) (by kernel_rfl)).trans hJ0
    refine wpOp_step rfl (fun K hK => ?_)
    clear hA
    exact opStoreK (Q3.out.step hg) _ B fits_block LO.out LB.out HB1.out hK (.tmp 2) (.tmp 9) rfl hp hq fun w' h1 h2 h3 => ⟨(B3.out.next hg).trans (h2.below (Nat.le_refl _) (B3.out.next hg).size), h1⟩
  case finA =>
    intro u wx hh hφ
    obtain ⟨_, hJ5⟩ : ∃ w1 : World, u 5 = .string X := hφ (5, 3) (by decide)
    simp only [puts, List.foldl]
    rw [hJ5]
    obtain ⟨hb, hr⟩ := hh
    have HR := Lib.hid hr
    have HB := Lib.hid hb
    clear hr hb
    go_wp2
    exact bodyPost_ret (HR.out.resultT rfl _ _ rfl Try.underlying23 rfl (by rw [LB.out]; exact fits_block.size)) rfl ⟨rfl, HB.out⟩
  -- end R3
end Go.Proofs.Ytmffkfgcopaoeaa
