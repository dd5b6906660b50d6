/- Contract of bytes.Repeat, of one byte. (gen_fla_rep.py) -/
import Derived.Test.YtgdfcfbccjdecaaFlaK
import Derived.Test.YtgdfcfbccjdecaaInvR
import Derived.Test.YtgdfcfbccjdecaaShelf
import Derived.Lib.MakeNoZero
namespace Go.Proofs.Ytgdfcfbccjdecaa
open Go.RowKit FlaMath
set_option linter.unusedVariables false
set_option maxRecDepth 100000

def rep (n : Nat) (x : Nat) : List Value := List.replicate n (.int .u8 (x : Int))
theorem rep_length (n x : Nat) : (rep n x).length = n := by simp [rep]
theorem rep_add (n m x : Nat) : rep (n + m) x = rep n x ++ rep m x := by simp [rep, List.replicate_append_replicate]
theorem rep_get (n x j : Nat) (h : j < n) : (rep n x)[j]? = some (.int .u8 (x : Int)) := by simp [rep, h]
theorem fone_byte : One Try.prog 5 := One.of (by kernel_rfl)
/-- A block of tot cells whose first k are x. -/
def St (g x tot k : Nat) (w : World) : Prop := ∃ z, Row w g 5 (rep k x ++ z) ∧ k + z.length = tot
theorem St.less {g x tot k m : Nat} {w : World} (h : St g x tot (k + m) w) : St g x tot k w := by
  obtain ⟨z, h1, h2⟩ := h
  exact ⟨rep m x ++ z, by rw [← List.append_assoc, ← rep_add]; exact h1, by rw [List.length_append, rep_length]; omega⟩
theorem St.step {g x tot k : Nat} {w w' : World} (h : St g x tot k w) (hb : Below w.heap.size w w') : St g x tot k w' := by
  obtain ⟨z, h1, h2⟩ := h
  exact ⟨z, h1.step hb, h2⟩
theorem copy_run (g x tot b c d m cap1 cap2 : Nat) (w : World) (h : St g x tot b w) (hm : m = Nat.min c d) (hcb : m ≤ b) (hbt : b + m ≤ tot) (ty : TypeId) :
    ∃ w', (Builtin.copy_ #[48, 48] ty #[.slice (some ⟨g, b, none⟩) d cap1, .slice (some ⟨g, 0, none⟩) c cap2]).run Try.prog w = .ok (.int .i64 (m : Int)) w' ∧ St g x tot (b + m) w' ∧ Only g w w' := by
  obtain ⟨z, h1, h2⟩ := h
  have hr := run_copy_row (P := Try.prog) w 48 48 ty 5 g b d cap1 ⟨g, 0, none⟩ c cap2 (rep b x ++ z).toArray 5 (rep m x) Try.underlying48 finfo_byte h1 (by rw [rep_length]; exact hm)
    (fun j v hj => by
      have hj2 : j < m := by
        rcases Nat.lt_or_ge j m with h | h
        · exact h
        · rw [List.getElem?_eq_none (by rw [rep_length]; exact h)] at hj; cases hj
      rw [rep_get m x j hj2] at hj
      rw [Addr.add_lit, Nat.zero_add, h1.cell, List.getElem?_append_left (by rw [rep_length]; omega), rep_get b x j (by omega)]
      exact hj) (by simp only [List.size_toArray, List.length_append, rep_length]; omega) (fun v hv => by simp [rep] at hv; rw [hv.2]; rfl)
  refine ⟨_, by rw [hr, rep_length]; rfl, ⟨z.drop m, ?_, by rw [List.length_drop]; omega⟩, (Only.refl g w).putRow g _ (Or.inl rfl)⟩
  have e : ((rep b x ++ z).toArray.toList.take b ++ rep m x ++ (rep b x ++ z).toArray.toList.drop (b + m)) = rep (b + m) x ++ z.drop m := by
    rw [rep_add]
    show (rep b x ++ z).take b ++ rep m x ++ (rep b x ++ z).drop (b + m) = _
    rw [List.take_left' (rep_length b x), ← List.drop_drop, List.drop_left' (rep_length b x)]
  rw [e]
  exact h1.put _
theorem made (n : Nat) (w : World) (hn : n ≤ 281474976710656) :
    ∃ cs w1, (callFunc 45 #[.int .i64 (n : Int)]).run Try.prog w = .ok (.value (.slice (some ⟨w.heap.size, 0, none⟩) n cs)) w1 ∧ (∃ l : List Value, Row w1 w.heap.size 5 l ∧ l.length = cs) ∧ Below w.heap.size w w1 ∧ n ≤ cs := by
  obtain ⟨cs, hrun, hle, _⟩ := Lib.run_makeNoZero (P := Try.prog) w #[3] 48 5 Try.underlying48 n hn
  have hb0 : Below w.heap.size w w.drew.drew := ((Below.refl w.heap.size w).drew).drew
  refine ⟨cs.size, w.drew.drew.alloc (.cells cs 5), ?_, ⟨cs.toList, ?_, by simp⟩, hb0.alloc (Nat.le_refl _) _, hle⟩
  · rw [run_callFunc_extern Try.func45 (by kernel_rfl) (by kernel_rfl) (by kernel_rfl) (e := Extern.BytealgMakeNoZero.makeNoZero #[3] #[48]) (by kernel_rfl), hrun]
    rfl
  · have := Row.new w.drew.drew 5 cs.toList
    simpa using this

set_option maxHeartbeats 1000000 in
theorem brepeat_small (q x n : Nat) (w : World) (h1 : 1 ≤ n) (hn : n ≤ 32768) (hcc : n ≤ 8192) (hs : Lies w w.heap.size (some ⟨q, 0, none⟩) [.int .u8 (x : Int)]) :
    Calls Try.prog 25 #[.slice (some ⟨q, 0, none⟩) 1 1, .int .i64 (n : Int)] w fun e w' => ∃ g tot, e = .returned (.slice (some ⟨g, 0, none⟩) n n) ∧ w.heap.size ≤ g ∧ St g x tot n w' ∧ Below w.heap.size w w' := by
  have hMul := Try.bits_Mul 1 n (by omega) (by omega) w
  rw [show 1 * n / 18446744073709551616 = 0 by omega, show 1 * n % 18446744073709551616 = n by omega] at hMul
  have HMU : Hid (Calls Try.prog 31 #[.int .u64 1, .int .u64 (n : Int)] w fun e w' => e = .returned (.tuple #[.int .u64 0, .int .u64 (n : Int)]) ∧ w = w') := Lib.hid (Calls.mono hMul fun e w' h => ⟨h.1, h.2.symm⟩)
  obtain ⟨cs, w1, hcall, ⟨l, hl1, hl2⟩, hb1, hle⟩ := made n w (by omega)
  obtain ⟨B, hB⟩ : ∃ B, w.heap.size = B := ⟨_, rfl⟩
  rw [hB] at hcall hl1
  have HB := Lib.hid hB
  clear hB
  obtain ⟨y, zl, rfl⟩ : ∃ y zl, l = y :: zl := by
    cases l with
    | nil => simp at hl2; omega
    | cons y zl => exact ⟨y, zl, rfl⟩
  have R1 : Hid (Row w1 B 5 ([] ++ [y] ++ zl)) := Lib.hid hl1
  have HS1 : Hid (Lies w1 w1.heap.size (some ⟨q, 0, none⟩) [.int .u8 (x : Int)]) := Lib.hid (hs.step hb1)
  have B1 := Lib.hid hb1
  have HL2 : Hid (1 + zl.length = cs) := Lib.hid (by rw [← hl2, List.length_cons]; omega)
  have k1 : (1 : Int) ≤ n := by omega
  have k2 : (n : Int) ≤ 32768 := by omega
  have k3 : (n : Int) ≤ cs := by omega
  have k4 : ((n : Int) == 0) = false := beq_eq_false_iff_ne.2 (by omega)
  have k5 : IntKind.u64.wrap (n : Int) = n := by rw [IntKind.wrap_u64]; omega
  have k6 : IntKind.u64.wrap 1 = 1 := by decide
  have k7 : wrap64 (n : Int) = n := by unfold wrap64; omega
  have k8 : ¬ (9223372036854775807 : Int) < n := by omega
  have k9 : ¬ (8192 : Int) < n := by omega
  have HA1 : Hid (([] : List Value).length = 0) := Lib.hid rfl
  have HA2 : Hid (([.int .u8 (x : Int)] : List Value).length = 1) := Lib.hid rfl
  have HA3 : Hid (0 < 1) := Lib.hid (by decide)
  have HA4 : Hid ([y].length = 1) := Lib.hid rfl
  have HA5 : Hid ([Value.int .u8 (x : Int)].all (·.oneCell') = true) := Lib.hid rfl
  have HN := Lib.hid hn
  have HH1 := Lib.hid h1
  have HCC := Lib.hid hcc
  clear hMul hs hl1 hl2 hb1 hn h1 hcc
  go_enter Try.func25, Try.ntmps25
  go_wp2_with (first
    | (go_at_call 31; (with_reducible refine HMU.out.mono ?_); rintro e u1 ⟨rfl, rfl⟩)
    | ((with_reducible refine R1.out.wpCopyLK HA1.out 48 n 1 Try.underlying48 fone_byte HS1.out HA2.out HA3.out HH1.out HA4.out HA5.out ?_ ?_); rfl; intro w2 r2 o2 s2; have R2 := Lib.hid r2; have O2 := Lib.hid o2; have S2 := Lib.hid s2; clear r2 o2 s2))
  have HST0 : Hid (St B x cs 1 w2) := Lib.hid ⟨zl, R2.out, HL2.out⟩
  have HO0 : Hid (Onl [] w w2) := Lib.hid ((Onl.of_below B1.out).only O2.out (Or.inr (Nat.le_of_eq HB.out)))
  clear R1 hcall
  go_loopw [10] (fun v wr => ∃ b : Nat, 1 ≤ b ∧ b ≤ n ∧ v = .int .i64 b ∧ St B x cs b wr ∧ Onl [] w wr) (fun v _ => n - (intOf v).toNat)
  case atStart => exact ⟨1, Nat.le_refl _, HH1.out, rfl, HST0.out, HO0.out⟩
  case round =>
    obtain ⟨b, hb1, hb2, rfl, hst, ho⟩ := hrel
    by_cases hlt : b < n
    · obtain ⟨c, hc⟩ : ∃ c, (if n < b then n else b) = c := ⟨_, rfl⟩
      have hc1 : 1 ≤ c ∧ c ≤ b := by
        have := HH1.out
        split at hc <;> omega
      have hmin : ∀ (ts : Array TypeId) (t : TypeId) (W : World), (Builtin.min_ ts t #[.int .i64 (b : Int), .int .i64 ((n : Int))]).run Try.prog W = .ok (.int .i64 (c : Int)) W := fun ts t W => by
        by_cases hq : n < b
        · have hcq : c = n := by rw [if_pos hq] at hc; exact hc.symm
          simp [Builtin.min_, Builtin.min2, hq, hcq]
        · have hcq : c = b := by rw [if_neg hq] at hc; exact hc.symm
          simp [Builtin.min_, Builtin.min2, hq, hcq]
      obtain ⟨m, hm⟩ : ∃ m, m = Nat.min c (n - b) := ⟨_, rfl⟩
      have hm1 : 1 ≤ m ∧ m ≤ c ∧ m ≤ n - b := by
        refine ⟨?_, by rw [hm]; exact Nat.min_le_left _ _, by rw [hm]; exact Nat.min_le_right _ _⟩
        rw [hm]
        exact Nat.le_min.2 ⟨hc1.1, by omega⟩
      have HMM := Lib.hid hm
      have HMB : Hid (m ≤ b) := Lib.hid (by omega)
      have HMB1 : Hid (1 ≤ m) := Lib.hid hm1.1
      have HMN : Hid (b + m ≤ n) := Lib.hid (by omega)
      have HMT : Hid (b + m ≤ cs) := Lib.hid (by omega)
      have HG : Hid (w.heap.size ≤ B) := Lib.hid (Nat.le_of_eq HB.out)
      have HST := Lib.hid hst
      have HO := Lib.hid ho
      have e1 : (b : Int) < n := by omega
      have e2 : (b : Int) ≤ n := by omega
      have e3 : ¬ n - b = 0 := by omega
      have e4 : ¬ (n : Int) - b = 0 := by omega
      have e5 : ¬ n = b := by omega
      have e6 : ¬ n ≤ b := by omega
      have e7 : (c : Int) ≤ n := by omega
      have e8 : 0 ≤ (c : Int) := by omega
      have e9 : b ≤ n := by omega
      have e10 : c ≤ n := by omega
      have ew : wrap64 ((b : Int) + m) = (b : Int) + m := by have := HN.out; unfold wrap64; omega
      have ew2 : IntKind.i64.wrap ((b : Int) + m) = (b : Int) + m := by rw [IntKind.wrap_i64]; unfold wrap64 at ew; exact ew
      clear hst ho hm hm1 hc hc1 hb1 hb2 k5 k6 k7 k8
      go_wp2
      refine region_invR (fun w1 w2 => St B x cs (b + m) w1 → St B x cs (b + m) w2) [(0, 67), (1, 68), (2, 69), (3, 70), (4, 71), (5, 72), (6, 73), (7, 74), (8, 75), (9, 10)]
        (fun i => [Is (.int .i64 (b : Int)), Is (.slice (some ⟨B, 0, none⟩) n n), Is (.int .i64 (b : Int)), Is (.slice (some ⟨B, b, none⟩) (n - b) (n - b)), Is (.slice (some ⟨B, 0, none⟩) n n), Is (.int .i64 (c : Int)), Is (.slice (some ⟨B, 0, none⟩) c n),
          (fun v wx => v = .int .i64 (m : Int) ∧ St B x cs (b + m) wx), Is (.int .i64 ((b : Int) + m)), Is (.int .i64 ((b : Int) + m))].getD i (Is undef))
        (fun wx => St B x cs b wx ∧ Onl [] w wx) (by kernel_rfl) (by kernel_rfl) (by decide) (by decide) (by kernel_rfl) rfl ?mono ⟨HST.out.step ((Below.refl _ _).drew), HO.out.step ((Below.refl _ _).drew)⟩ ?step ?fin
      case mono =>
        intro i
        match i with
        | 7 => exact fun v w1 w2 ⟨h1, h2⟩ hr => ⟨h1, hr h2⟩
        | 0 | 1 | 2 | 3 | 4 | 5 | 6 | 8 | 9 => exact fun v w1 w2 h _ => h
        | _ + 10 => exact fun v w1 w2 h _ => h
      case step =>
        refine List.forall_mem_cons.2 ⟨?s0, List.forall_mem_cons.2 ⟨?s1, List.forall_mem_cons.2 ⟨?s2, List.forall_mem_cons.2 ⟨?s3, List.forall_mem_cons.2 ⟨?s4, List.forall_mem_cons.2 ⟨?s5, List.forall_mem_cons.2 ⟨?s6, List.forall_mem_cons.2 ⟨?s7, List.forall_mem_cons.2 ⟨?s8, List.forall_mem_cons.2 ⟨?s9, (fun p hp => absurd hp (by simp))⟩⟩⟩⟩⟩⟩⟩⟩⟩⟩
        case s0 =>
          intro u wx hg hC hOld
          have hO9 : u 9 = .int .i64 (b : Int) := hOld (9, 10) (by decide) (by kernel_rfl)
          clear hC hOld
          refine wpOp_step rfl (fun K hK => ?_)
          simp only [puts, List.foldl]
          go_simp
          exact hK _ _ ⟨rfl, rfl, hg, id⟩
        case s1 =>
          intro u wx hg hC hOld
          clear hC hOld
          refine wpOp_step rfl (fun K hK => ?_)
          simp only [puts, List.foldl]
          go_simp
          exact hK _ _ ⟨rfl, rfl, hg, id⟩
        case s2 =>
          intro u wx hg hC hOld
          have hO9 : u 9 = .int .i64 (b : Int) := hOld (9, 10) (by decide) (by kernel_rfl)
          clear hC hOld
          refine wpOp_step rfl (fun K hK => ?_)
          simp only [puts, List.foldl]
          go_simp
          exact hK _ _ ⟨rfl, rfl, hg, id⟩
        case s3 =>
          intro u wx hg hC hOld
          have h1 : u 1 = .slice (some ⟨B, 0, none⟩) n n := hC.at 1 (by kernel_rfl)
          have h2 : u 2 = .int .i64 (b : Int) := hC.at 2 (by kernel_rfl)
          clear hC hOld
          refine wpOp_step rfl (fun K hK => ?_)
          simp only [puts, List.foldl]
          go_simp
          exact hK _ _ ⟨rfl, rfl, hg, id⟩
        case s4 =>
          intro u wx hg hC hOld
          clear hC hOld
          refine wpOp_step rfl (fun K hK => ?_)
          simp only [puts, List.foldl]
          go_simp
          exact hK _ _ ⟨rfl, rfl, hg, id⟩
        case s5 =>
          intro u wx hg hC hOld
          clear hC hOld
          refine wpOp_step rfl (fun K hK => ?_)
          simp only [puts, List.foldl]
          go_simp
          exact hK _ _ ⟨rfl, rfl, hg, id⟩
        case s6 =>
          intro u wx hg hC hOld
          have h4 : u 4 = .slice (some ⟨B, 0, none⟩) n n := hC.at 4 (by kernel_rfl)
          have h5 : u 5 = .int .i64 (c : Int) := hC.at 5 (by kernel_rfl)
          clear hC hOld
          refine wpOp_step rfl (fun K hK => ?_)
          simp only [puts, List.foldl]
          go_simp
          exact hK _ _ ⟨rfl, rfl, hg, id⟩
        case s7 =>
          intro u wx hg hC hOld
          have h3 : u 3 = .slice (some ⟨B, b, none⟩) (n - b) (n - b) := hC.at 3 (by kernel_rfl)
          have h6 : u 6 = .slice (some ⟨B, 0, none⟩) c n := hC.at 6 (by kernel_rfl)
          obtain ⟨wy, hrun, hst, hon⟩ := copy_run B x cs b c (n - b) m (n - b) n wx hg.1 HMM.out HMB.out HMT.out 3
          clear hC hOld
          refine wpOp_step rfl (fun K hK => ?_)
          simp only [puts, List.foldl]
          go_simp
          exact hK _ _ ⟨rfl, ⟨rfl, hst⟩, ⟨hst.less, hg.2.only hon (Or.inr HG.out)⟩, fun _ => hst⟩
        case s8 =>
          intro u wx hg hC hOld
          have h0 : u 0 = .int .i64 (b : Int) := hC.at 0 (by kernel_rfl)
          obtain ⟨h7, hst⟩ : u 7 = .int .i64 (m : Int) ∧ St B x cs (b + m) wx := hC.at 7 (by kernel_rfl)
          clear hC hOld
          refine wpOp_step rfl (fun K hK => ?_)
          simp only [puts, List.foldl]
          go_simp
          exact hK _ _ ⟨rfl, rfl, hg, id⟩
        case s9 =>
          intro u wx hg hC hOld
          have h8 : u 8 = .int .i64 ((b : Int) + m) := hC.at 8 (by kernel_rfl)
          clear hC hOld
          refine wpOp_step rfl (fun K hK => ?_)
          simp only [puts, List.foldl]
          go_simp
          exact hK _ _ ⟨rfl, rfl, hg, id⟩
      case fin =>
        intro u wx hg hφ
        have h9 : u 9 = .int .i64 ((b : Int) + m) := hφ (9, 10) (by decide)
        obtain ⟨h7, hst⟩ : u 7 = .int .i64 (m : Int) ∧ St B x cs (b + m) wx := hφ (7, 74) (by decide)
        have HST2 := Lib.hid hst
        have HO2 := Lib.hid hg.2
        clear hφ hst hg
        simp only [puts, List.foldl]
        go_simp
        go_wp2
        go_roundw
        case rel => exact ⟨b + m, by have := HMB1.out; omega, by have := HMN.out; omega, by simp, HST2.out, HO2.out⟩
        case measure => have := HMN.out; have := HMB1.out; simp [intOf]; omega
    · have eb : b = n := by omega
      subst eb
      have HST := Lib.hid hst
      have HO := Lib.hid ho
      clear hst ho
      go_wp2
      go_ret
      exact ⟨B, cs, rfl, Nat.le_of_eq HB.out, HST.out, HO.out.below (by simp) (Nat.le_refl _)⟩

set_option maxHeartbeats 1000000 in
theorem brepeat_great (q x n : Nat) (w : World) (h1 : 1 ≤ n) (hn : n ≤ 32768) (hcc : 8192 < n) (hs : Lies w w.heap.size (some ⟨q, 0, none⟩) [.int .u8 (x : Int)]) :
    Calls Try.prog 25 #[.slice (some ⟨q, 0, none⟩) 1 1, .int .i64 (n : Int)] w fun e w' => ∃ g tot, e = .returned (.slice (some ⟨g, 0, none⟩) n n) ∧ w.heap.size ≤ g ∧ St g x tot n w' ∧ Below w.heap.size w w' := by
  have hMul := Try.bits_Mul 1 n (by omega) (by omega) w
  rw [show 1 * n / 18446744073709551616 = 0 by omega, show 1 * n % 18446744073709551616 = n by omega] at hMul
  have HMU : Hid (Calls Try.prog 31 #[.int .u64 1, .int .u64 (n : Int)] w fun e w' => e = .returned (.tuple #[.int .u64 0, .int .u64 (n : Int)]) ∧ w = w') := Lib.hid (Calls.mono hMul fun e w' h => ⟨h.1, h.2.symm⟩)
  obtain ⟨cs, w1, hcall, ⟨l, hl1, hl2⟩, hb1, hle⟩ := made n w (by omega)
  obtain ⟨B, hB⟩ : ∃ B, w.heap.size = B := ⟨_, rfl⟩
  rw [hB] at hcall hl1
  have HB := Lib.hid hB
  clear hB
  obtain ⟨y, zl, rfl⟩ : ∃ y zl, l = y :: zl := by
    cases l with
    | nil => simp at hl2; omega
    | cons y zl => exact ⟨y, zl, rfl⟩
  have R1 : Hid (Row w1 B 5 ([] ++ [y] ++ zl)) := Lib.hid hl1
  have HS1 : Hid (Lies w1 w1.heap.size (some ⟨q, 0, none⟩) [.int .u8 (x : Int)]) := Lib.hid (hs.step hb1)
  have B1 := Lib.hid hb1
  have HL2 : Hid (1 + zl.length = cs) := Lib.hid (by rw [← hl2, List.length_cons]; omega)
  have k1 : (1 : Int) ≤ n := by omega
  have k2 : (n : Int) ≤ 32768 := by omega
  have k3 : (n : Int) ≤ cs := by omega
  have k4 : ((n : Int) == 0) = false := beq_eq_false_iff_ne.2 (by omega)
  have k5 : IntKind.u64.wrap (n : Int) = n := by rw [IntKind.wrap_u64]; omega
  have k6 : IntKind.u64.wrap 1 = 1 := by decide
  have k7 : wrap64 (n : Int) = n := by unfold wrap64; omega
  have k8 : ¬ (9223372036854775807 : Int) < n := by omega
  have k9 : (8192 : Int) < n := by omega
  have HA1 : Hid (([] : List Value).length = 0) := Lib.hid rfl
  have HA2 : Hid (([.int .u8 (x : Int)] : List Value).length = 1) := Lib.hid rfl
  have HA3 : Hid (0 < 1) := Lib.hid (by decide)
  have HA4 : Hid ([y].length = 1) := Lib.hid rfl
  have HA5 : Hid ([Value.int .u8 (x : Int)].all (·.oneCell') = true) := Lib.hid rfl
  have HN := Lib.hid hn
  have HH1 := Lib.hid h1
  have HCC := Lib.hid hcc
  clear hMul hs hl1 hl2 hb1 hn h1 hcc
  go_enter Try.func25, Try.ntmps25
  go_wp2_with (first
    | (go_at_call 31; (with_reducible refine HMU.out.mono ?_); rintro e u1 ⟨rfl, rfl⟩)
    | ((with_reducible refine R1.out.wpCopyLK HA1.out 48 n 1 Try.underlying48 fone_byte HS1.out HA2.out HA3.out HH1.out HA4.out HA5.out ?_ ?_); rfl; intro w2 r2 o2 s2; have R2 := Lib.hid r2; have O2 := Lib.hid o2; have S2 := Lib.hid s2; clear r2 o2 s2))
  have HST0 : Hid (St B x cs 1 w2) := Lib.hid ⟨zl, R2.out, HL2.out⟩
  have HO0 : Hid (Onl [] w w2) := Lib.hid ((Onl.of_below B1.out).only O2.out (Or.inr (Nat.le_of_eq HB.out)))
  clear R1 hcall
  go_loopw [10] (fun v wr => ∃ b : Nat, 1 ≤ b ∧ b ≤ n ∧ v = .int .i64 b ∧ St B x cs b wr ∧ Onl [] w wr) (fun v _ => n - (intOf v).toNat)
  case atStart => exact ⟨1, Nat.le_refl _, HH1.out, rfl, HST0.out, HO0.out⟩
  case round =>
    obtain ⟨b, hb1, hb2, rfl, hst, ho⟩ := hrel
    by_cases hlt : b < n
    · obtain ⟨c, hc⟩ : ∃ c, (if 8192 < b then 8192 else b) = c := ⟨_, rfl⟩
      have hc1 : 1 ≤ c ∧ c ≤ b := by
        have := HH1.out
        split at hc <;> omega
      have hmin : ∀ (ts : Array TypeId) (t : TypeId) (W : World), (Builtin.min_ ts t #[.int .i64 (b : Int), .int .i64 ((8192 : Int))]).run Try.prog W = .ok (.int .i64 (c : Int)) W := fun ts t W => by
        by_cases hq : 8192 < b
        · have hcq : c = 8192 := by rw [if_pos hq] at hc; exact hc.symm
          have hq2 : (8192 : Int) < (b : Int) := by omega
          simp [Builtin.min_, Builtin.min2, hq2, hcq]
        · have hcq : c = b := by rw [if_neg hq] at hc; exact hc.symm
          have hq2 : ¬ (8192 : Int) < (b : Int) := by omega
          simp [Builtin.min_, Builtin.min2, hq2, hcq]
      obtain ⟨m, hm⟩ : ∃ m, m = Nat.min c (n - b) := ⟨_, rfl⟩
      have hm1 : 1 ≤ m ∧ m ≤ c ∧ m ≤ n - b := by
        refine ⟨?_, by rw [hm]; exact Nat.min_le_left _ _, by rw [hm]; exact Nat.min_le_right _ _⟩
        rw [hm]
        exact Nat.le_min.2 ⟨hc1.1, by omega⟩
      have HMM := Lib.hid hm
      have HMB : Hid (m ≤ b) := Lib.hid (by omega)
      have HMB1 : Hid (1 ≤ m) := Lib.hid hm1.1
      have HMN : Hid (b + m ≤ n) := Lib.hid (by omega)
      have HMT : Hid (b + m ≤ cs) := Lib.hid (by omega)
      have HG : Hid (w.heap.size ≤ B) := Lib.hid (Nat.le_of_eq HB.out)
      have HST := Lib.hid hst
      have HO := Lib.hid ho
      have e1 : (b : Int) < n := by omega
      have e2 : (b : Int) ≤ n := by omega
      have e3 : ¬ n - b = 0 := by omega
      have e4 : ¬ (n : Int) - b = 0 := by omega
      have e5 : ¬ n = b := by omega
      have e6 : ¬ n ≤ b := by omega
      have e7 : (c : Int) ≤ n := by omega
      have e8 : 0 ≤ (c : Int) := by omega
      have e9 : b ≤ n := by omega
      have e10 : c ≤ n := by omega
      have ew : wrap64 ((b : Int) + m) = (b : Int) + m := by have := HN.out; unfold wrap64; omega
      have ew2 : IntKind.i64.wrap ((b : Int) + m) = (b : Int) + m := by rw [IntKind.wrap_i64]; unfold wrap64 at ew; exact ew
      clear hst ho hm hm1 hc hc1 hb1 hb2 k5 k6 k7 k8
      go_wp2
      refine region_invR (fun w1 w2 => St B x cs (b + m) w1 → St B x cs (b + m) w2) [(0, 67), (1, 68), (2, 69), (3, 70), (4, 71), (5, 72), (6, 73), (7, 74), (8, 75), (9, 10)]
        (fun i => [Is (.int .i64 (b : Int)), Is (.slice (some ⟨B, 0, none⟩) n n), Is (.int .i64 (b : Int)), Is (.slice (some ⟨B, b, none⟩) (n - b) (n - b)), Is (.slice (some ⟨B, 0, none⟩) n n), Is (.int .i64 (c : Int)), Is (.slice (some ⟨B, 0, none⟩) c n),
          (fun v wx => v = .int .i64 (m : Int) ∧ St B x cs (b + m) wx), Is (.int .i64 ((b : Int) + m)), Is (.int .i64 ((b : Int) + m))].getD i (Is undef))
        (fun wx => St B x cs b wx ∧ Onl [] w wx) (by kernel_rfl) (by kernel_rfl) (by decide) (by decide) (by kernel_rfl) rfl ?mono ⟨HST.out.step ((Below.refl _ _).drew), HO.out.step ((Below.refl _ _).drew)⟩ ?step ?fin
      case mono =>
        intro i
        match i with
        | 7 => exact fun v w1 w2 ⟨h1, h2⟩ hr => ⟨h1, hr h2⟩
        | 0 | 1 | 2 | 3 | 4 | 5 | 6 | 8 | 9 => exact fun v w1 w2 h _ => h
        | _ + 10 => exact fun v w1 w2 h _ => h
      case step =>
        refine List.forall_mem_cons.2 ⟨?s0, List.forall_mem_cons.2 ⟨?s1, List.forall_mem_cons.2 ⟨?s2, List.forall_mem_cons.2 ⟨?s3, List.forall_mem_cons.2 ⟨?s4, List.forall_mem_cons.2 ⟨?s5, List.forall_mem_cons.2 ⟨?s6, List.forall_mem_cons.2 ⟨?s7, List.forall_mem_cons.2 ⟨?s8, List.forall_mem_cons.2 ⟨?s9, (fun p hp => absurd hp (by simp))⟩⟩⟩⟩⟩⟩⟩⟩⟩⟩
        case s0 =>
          intro u wx hg hC hOld
          have hO9 : u 9 = .int .i64 (b : Int) := hOld (9, 10) (by decide) (by kernel_rfl)
          clear hC hOld
          refine wpOp_step rfl (fun K hK => ?_)
          simp only [puts, List.foldl]
          go_simp
          exact hK _ _ ⟨rfl, rfl, hg, id⟩
        case s1 =>
          intro u wx hg hC hOld
          clear hC hOld
          refine wpOp_step rfl (fun K hK => ?_)
          simp only [puts, List.foldl]
          go_simp
          exact hK _ _ ⟨rfl, rfl, hg, id⟩
        case s2 =>
          intro u wx hg hC hOld
          have hO9 : u 9 = .int .i64 (b : Int) := hOld (9, 10) (by decide) (by kernel_rfl)
          clear hC hOld
          refine wpOp_step rfl (fun K hK => ?_)
          simp only [puts, List.foldl]
          go_simp
          exact hK _ _ ⟨rfl, rfl, hg, id⟩
        case s3 =>
          intro u wx hg hC hOld
          have h1 : u 1 = .slice (some ⟨B, 0, none⟩) n n := hC.at 1 (by kernel_rfl)
          have h2 : u 2 = .int .i64 (b : Int) := hC.at 2 (by kernel_rfl)
          clear hC hOld
          refine wpOp_step rfl (fun K hK => ?_)
          simp only [puts, List.foldl]
          go_simp
          exact hK _ _ ⟨rfl, rfl, hg, id⟩
        case s4 =>
          intro u wx hg hC hOld
          clear hC hOld
          refine wpOp_step rfl (fun K hK => ?_)
          simp only [puts, List.foldl]
          go_simp
          exact hK _ _ ⟨rfl, rfl, hg, id⟩
        case s5 =>
          intro u wx hg hC hOld
          clear hC hOld
          refine wpOp_step rfl (fun K hK => ?_)
          simp only [puts, List.foldl]
          go_simp
          exact hK _ _ ⟨rfl, rfl, hg, id⟩
        case s6 =>
          intro u wx hg hC hOld
          have h4 : u 4 = .slice (some ⟨B, 0, none⟩) n n := hC.at 4 (by kernel_rfl)
          have h5 : u 5 = .int .i64 (c : Int) := hC.at 5 (by kernel_rfl)
          clear hC hOld
          refine wpOp_step rfl (fun K hK => ?_)
          simp only [puts, List.foldl]
          go_simp
          exact hK _ _ ⟨rfl, rfl, hg, id⟩
        case s7 =>
          intro u wx hg hC hOld
          have h3 : u 3 = .slice (some ⟨B, b, none⟩) (n - b) (n - b) := hC.at 3 (by kernel_rfl)
          have h6 : u 6 = .slice (some ⟨B, 0, none⟩) c n := hC.at 6 (by kernel_rfl)
          obtain ⟨wy, hrun, hst, hon⟩ := copy_run B x cs b c (n - b) m (n - b) n wx hg.1 HMM.out HMB.out HMT.out 3
          clear hC hOld
          refine wpOp_step rfl (fun K hK => ?_)
          simp only [puts, List.foldl]
          go_simp
          exact hK _ _ ⟨rfl, ⟨rfl, hst⟩, ⟨hst.less, hg.2.only hon (Or.inr HG.out)⟩, fun _ => hst⟩
        case s8 =>
          intro u wx hg hC hOld
          have h0 : u 0 = .int .i64 (b : Int) := hC.at 0 (by kernel_rfl)
          obtain ⟨h7, hst⟩ : u 7 = .int .i64 (m : Int) ∧ St B x cs (b + m) wx := hC.at 7 (by kernel_rfl)
          clear hC hOld
          refine wpOp_step rfl (fun K hK => ?_)
          simp only [puts, List.foldl]
          go_simp
          exact hK _ _ ⟨rfl, rfl, hg, id⟩
        case s9 =>
          intro u wx hg hC hOld
          have h8 : u 8 = .int .i64 ((b : Int) + m) := hC.at 8 (by kernel_rfl)
          clear hC hOld
          refine wpOp_step rfl (fun K hK => ?_)
          simp only [puts, List.foldl]
          go_simp
          exact hK _ _ ⟨rfl, rfl, hg, id⟩
      case fin =>
        intro u wx hg hφ
        have h9 : u 9 = .int .i64 ((b : Int) + m) := hφ (9, 10) (by decide)
        obtain ⟨h7, hst⟩ : u 7 = .int .i64 (m : Int) ∧ St B x cs (b + m) wx := hφ (7, 74) (by decide)
        have HST2 := Lib.hid hst
        have HO2 := Lib.hid hg.2
        clear hφ hst hg
        simp only [puts, List.foldl]
        go_simp
        go_wp2
        go_roundw
        case rel => exact ⟨b + m, by have := HMB1.out; omega, by have := HMN.out; omega, by simp, HST2.out, HO2.out⟩
        case measure => have := HMN.out; have := HMB1.out; simp [intOf]; omega
    · have eb : b = n := by omega
      subst eb
      have HST := Lib.hid hst
      have HO := Lib.hid ho
      clear hst ho
      go_wp2
      go_ret
      exact ⟨B, cs, rfl, Nat.le_of_eq HB.out, HST.out, HO.out.below (by simp) (Nat.le_refl _)⟩

theorem brepeat_any (q x n : Nat) (w : World) (h1 : 1 ≤ n) (hn : n ≤ 32768) (hs : Lies w w.heap.size (some ⟨q, 0, none⟩) [.int .u8 (x : Int)]) :
    Calls Try.prog 25 #[.slice (some ⟨q, 0, none⟩) 1 1, .int .i64 (n : Int)] w fun e w' => ∃ g tot, e = .returned (.slice (some ⟨g, 0, none⟩) n n) ∧ w.heap.size ≤ g ∧ St g x tot n w' ∧ Below w.heap.size w w' := by
  rcases Nat.lt_or_ge 8192 n with h | h
  · exact brepeat_great q x n w h1 hn h hs
  · exact brepeat_small q x n w h1 hn h hs
end Go.Proofs.Ytgdfcfbccjdecaa
