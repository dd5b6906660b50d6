/- TagSplits: its walk. -/
import Derived.Test.YtmffkfgcopaoeaaTagG
namespace Go.Proofs.Ytmffkfgcopaoeaa
open Go.RowKit CrcMath
set_option linter.unusedVariables false
set_option maxRecDepth 100000

/-- Blocks that came in. -/
theorem reads_blocks {w : World} {a : Option Addr} {cap : Nat} {l : List (List Int)} {by_ : Nat} (h : Open.Reads w (.sl by_ (.arr 60 (.int .u8))) [.slice a l.length cap] l) :
    ∃ L : List (List UInt8), L.length = l.length ∧ (∀ b ∈ L, b.length = 60) ∧ Lies w w.heap.size a (bytes L.flatten) ∧ l.length ≤ cap := by
  obtain ⟨a', cap', e, h1, h2, h3, h4⟩ := h
  simp at e
  obtain ⟨rfl, rfl⟩ := e
  by_cases h0 : 0 < l.length
  · obtain ⟨b, off, e1, e2, e3⟩ := h4 h0
    have hc : ∀ i, i < l.length → ∃ H : List UInt8, H.length = 60 ∧ ∀ j, j < 60 → w.cell? ⟨b, off + (i * 60 + j), none⟩ = (bytes H)[j]? := fun i hi => by
      obtain ⟨cs', q1, q2, q3⟩ := e3 i hi
      obtain ⟨H, hH, rfl⟩ := reads_bytes q3
      exact ⟨H, hH, fun j hj => by simpa [Open.Ty.size] using q2 j (by simpa [Open.Ty.size] using hj)⟩
    have hL : ∀ n, n ≤ l.length → ∃ L : List (List UInt8), L.length = n ∧ ∀ i (hi : i < L.length), L[i].length = 60 ∧ ∀ j, j < 60 → w.cell? ⟨b, off + (i * 60 + j), none⟩ = (bytes L[i])[j]? := by
      intro n
      induction n with
      | zero => exact fun _ => ⟨[], rfl, fun i hi => by simp at hi⟩
      | succ n ih =>
        intro hn
        obtain ⟨L, hl, hp⟩ := ih (by omega)
        obtain ⟨H, hH, hq⟩ := hc n (by omega)
        refine ⟨L ++ [H], by simp [hl], fun i hi => ?_⟩
        by_cases hin : i < L.length
        · rw [List.getElem_append_left hin]; exact hp i hin
        · have e : i = n := by simp at hi; omega
          subst e
          rw [List.getElem_append_right (by omega)]
          simp only [hl, Nat.sub_self, List.getElem_cons_zero]
          exact ⟨hH, hq⟩
    obtain ⟨L, hl, hp⟩ := hL l.length (Nat.le_refl _)
    have h60 : ∀ c ∈ L, c.length = 60 := fun c hc => by
      obtain ⟨i, hi, rfl⟩ := List.mem_iff_getElem.1 hc
      exact (hp i hi).1
    refine ⟨L, hl, h60, fun _ => ⟨b, off, e1, e2, fun j u hj => ?_⟩, h1⟩
    have hjl : j < 60 * L.length := by
      have := (List.getElem?_eq_some_iff.1 hj).1
      rwa [bytes_length, flat_length L h60] at this
    have hk : j / 60 < L.length := by omega
    obtain ⟨z, e4, e5⟩ := flat_mid L h60 (j / 60) hk
    have hx := (hp (j / 60) hk).2 (j % 60) (Nat.mod_lt _ (by decide))
    rw [show j / 60 * 60 + j % 60 = j by omega] at hx
    rw [hx]
    have hlen := (hp (j / 60) hk).1
    generalize L[j / 60] = C at e4 hx hlen ⊢
    rw [e4, bytes_append, bytes_append, List.append_assoc, List.getElem?_append_right (by rw [bytes_length, e5]; omega), bytes_length, e5, List.getElem?_append_left (by rw [bytes_length, hlen]; omega), show j - 60 * (j / 60) = j % 60 by omega] at hj
    exact hj
  · exact ⟨[], by simp; omega, fun b hb => by simp at hb, fun h => by simp [bytes] at h, h1⟩

set_option maxHeartbeats 4000000 in
theorem tagSplits_walk (s : ByteArray) (m : Int) (a : Option Addr) (cap : Nat) (L : List (List UInt8)) (w : World) (hs : s.size ≤ 140737488351232) (hL : ∀ b ∈ L, b.length = 60) (hr : Lies w w.heap.size a (bytes L.flatten)) :
    L.length ≤ 9223372036854775807 → Calls Try.prog 4 #[.string s, .int .i64 m, .slice a L.length cap] w fun e w' => e = .returned (.bool true) ∧ Below w.heap.size w w' := by
  intro hLL
  have HAW : Hid (∀ wx, Calls Try.prog 6 #[] wx fun e w' => e = .returned (.bool true) ∧ Below wx.heap.size wx w') := Lib.hid tag_awake
  by_cases hbig : 5000 < s.size
  · have hb2 : 5000 < (s.size : Int) := by omega
    clear hbig hL hr
    go_enter Try.func4, Try.ntmps4
    go_wp2_with (first
      | (go_at_call 6; (with_reducible refine (HAW.out w).mono ?_); rintro e u2 ⟨rfl, b2⟩; have B2 := Lib.hid b2; clear b2))
    go_ret
    exact ⟨rfl, B2.out⟩
  by_cases hbig2 : 100 < L.length
  · have hb2 : 100 < (L.length : Int) := by omega
    have hb3 : (s.size : Int) ≤ 5000 := by omega
    clear hbig hbig2 hL hr
    go_enter Try.func4, Try.ntmps4
    go_wp2_with (first
      | (go_at_call 6; (with_reducible refine (HAW.out w).mono ?_); rintro e u2 ⟨rfl, b2⟩; have B2 := Lib.hid b2; clear b2))
    go_ret
    exact ⟨rfl, B2.out⟩
  have hb2 : (L.length : Int) ≤ 100 := by omega
  have hb3 : (s.size : Int) ≤ 5000 := by omega
  have hb4 : s.size ≤ 5000 := by omega
  have hb5 : L.length ≤ 100 := by omega
  clear hbig hbig2 hLL hs
  obtain ⟨n, hn⟩ : ∃ n, n = manyF m := ⟨_, rfl⟩
  have hmn : min (max m 0) 64 = (n : Int) := by rw [hn]; unfold manyF; omega
  have hn64 : n ≤ 64 := by rw [hn]; exact manyF_le m
  obtain ⟨N, hN⟩ : ∃ N, 60 * n = N := ⟨_, rfl⟩
  have hNi : 60 * (n : Int) = (N : Int) := by omega
  obtain ⟨G, hG⟩ : ∃ G, G = str (splitF n s.data.toList).flatten := ⟨_, rfl⟩
  have HSP : Hid (∀ u, Calls Try.prog 15 #[.string s, .int .i64 m] u fun e w' => ∃ g, e = .returned (.slice (some ⟨g, 0, none⟩) n n) ∧ Lies w' w'.heap.size (some ⟨g, 0, none⟩) (bytes (splitF n s.data.toList).flatten) ∧ Below u.heap.size u w') := Lib.hid fun u => by
    rw [hn]
    refine (tag_split_any s m u (by omega)).mono ?_
    rintro e w' ⟨g, h1, h2, h3, h4⟩
    exact ⟨g, h1, fun _ => ⟨g, 0, rfl, h3.lt, fun j v hj => by rw [Nat.zero_add, h3.cell]; exact hj⟩, h4⟩
  have HJ : Hid (∀ u g, Lies u u.heap.size (some ⟨g, 0, none⟩) (bytes (splitF n s.data.toList).flatten) → Calls Try.prog 16 #[.slice (some ⟨g, 0, none⟩) n n] u fun e w' => e = .returned (.string G) ∧ Below u.heap.size u w') := Lib.hid fun u g h => by
    have := tag_join_any (some ⟨g, 0, none⟩) n (splitF n s.data.toList) u (splitF_all _ _) (by rw [splitF_length]; omega) h
    rw [splitF_length] at this
    rw [hG]
    exact this
  have HJL : Hid (∀ u, Below w.heap.size w u → Calls Try.prog 16 #[.slice a L.length cap] u fun e w' => e = .returned (.string (str L.flatten)) ∧ Below u.heap.size u w') := Lib.hid fun u hu =>
    tag_join_any a cap L u hL (by omega) ((hr.below hu).mono hu.size)
  obtain ⟨W, hW⟩ : ∃ W, W = s.extract 0 N := ⟨_, rfl⟩
  have hsl := size_list s
  -- what the text is, cut, and with noughts behind
  have hcat1 : N < s.size → W.size = N ∧ W ++ str (List.replicate 0 0) = G := fun h => by
    refine ⟨by rw [hW, ByteArray.size_extract]; omega, ?_⟩
    have e : W.data.toList = s.data.toList.take N := by rw [hW, ByteArray.data_extract]; simp
    rw [hG, splitF_flat, hN, ← str_of W, e, str_append]
    congr 2
    rw [show N - s.data.toList.length = 0 by omega]
  have hcat2 : ¬ N < s.size → s ++ str (List.replicate (N - s.size) 0) = G := fun h => by
    rw [hG, splitF_flat, hN, hsl, List.take_of_length_le (by omega), ← str_append, str_of]
  have HL := Lib.hid hL
  have HR := Lib.hid hr
  have HG := Lib.hid hG
  have HW := Lib.hid hW
  have hn64i : (n : Int) ≤ 64 := by omega
  have hNi2 : (N : Int) ≤ 3840 := by omega
  have HREP : Hid (∀ (u : World) (c : Nat), c ≤ 5000 → Calls Try.prog 10 #[.string { data := #[0] }, .int .i64 (c : Int)] u fun e w' => e = .returned (.string (str (List.replicate c 0))) ∧ Below u.heap.size u w') := Lib.hid fun u c hc => tag_rep 0 c u (by omega)
  have HWE : Hid (s.extract 0 N = W) := Lib.hid hW.symm
  have HGQ : Hid ((G.toList == G.toList) = true) := Lib.hid (beq_self_eq_true _)
  have hGz : G.size ≤ 10000 := by rw [hG, str_size, flat_length _ (splitF_all _ _), splitF_length]; omega
  clear hn hL hr hG hW hsl
  obtain ⟨O, hO⟩ : ∃ O : List UInt8, O = List.replicate 60 0 := ⟨_, rfl⟩
  have HZ0 : Hid (∀ u, (zeroValue 23).run Try.prog u = .ok (.agg (bytes O).toArray) u) := Lib.hid (by rw [hO]; exact tag_zero)
  have LO : Hid ((bytes O).length = 60) := Lib.hid (by rw [hO, bytes_length, List.length_replicate])
  clear hO
  generalize bytes O = OO at HZ0 LO
  by_cases hc : N < s.size
  · obtain ⟨hWz, hcat⟩ := hcat1 hc
    have HREP0 : Hid (∀ u, Calls Try.prog 10 #[.string { data := #[0] }, .int .i64 0] u fun e w' => e = .returned (.string (str (List.replicate 0 0))) ∧ Below u.heap.size u w') := Lib.hid fun u => HREP.out u 0 (by omega)
    have hz0 : (str (List.replicate 0 0)).size = 0 := rfl
    generalize str (List.replicate 0 0) = Z at HREP0 hcat hz0
    have hci : (N : Int) < (s.size : Int) := by omega
    have hwe := HWE.out
    have hgq := HGQ.out
    clear hcat1 hcat2 hc HWE
    go_enter Try.func4, Try.ntmps4
    go_wp2_with (first
      | (go_at_call 6; (with_reducible refine (HAW.out w).mono ?_); rintro e u1 ⟨rfl, b1⟩; have B1 := Lib.hid b1; clear b1)
      | (go_at_call 15; (with_reducible refine (HSP.out u1).mono ?_); rintro e u2 ⟨g, rfl, l2, b2⟩; have L2 := Lib.hid l2; have B2 : Hid (Below w.heap.size w u2) := Lib.hid (B1.out.next b2); clear l2 b2)
      | (go_at_call 16; (with_reducible refine (HJ.out u2 g L2.out).mono ?_); rintro e u3 ⟨rfl, b3⟩; have B3 : Hid (Below w.heap.size w u3) := Lib.hid (B2.out.next b3); clear b3)
      | (go_at_call 10; (with_reducible refine (HREP0.out u3).mono ?_); rintro e u4 ⟨rfl, b4⟩; have B4 : Hid (Below w.heap.size w u4) := Lib.hid (B3.out.next b4); clear b4))
    go_loopw [11, 13, 58] (fun t _ i wr => ∃ k : Nat, k ≤ L.length ∧ i = .int .i64 k ∧ t = .string (str (L.take k).flatten) ∧ Below w.heap.size w wr) (fun _ _ i _ => L.length - (intOf i).toNat)
    case atStart => exact ⟨0, by omega, rfl, rfl, B4.out⟩
    case round =>
      obtain ⟨k, hk, rfl, rfl, hbw⟩ := hrel
      by_cases hlt : k < L.length
      · have hl60 := HL.out L[k] (List.getElem_mem _)
        obtain ⟨z, e1, e2⟩ := flat_mid L HL.out k hlt
        obtain ⟨bl, off, rfl, hbb, hcc⟩ := HR.out (by rw [bytes_length, flat_length L HL.out]; omega)
        obtain ⟨C, hC⟩ : ∃ C, L[k] = C := ⟨_, rfl⟩
        rw [hC] at hl60 e1
        obtain ⟨D, hD⟩ : ∃ D, D = str (L.take k).flatten := ⟨_, rfl⟩
        obtain ⟨D2, hD2⟩ : ∃ D, D = str (L.take (k + 1)).flatten := ⟨_, rfl⟩
        have hDD : D ++ str C = D2 := by rw [hD, hD2, str_append, flat_take L k hlt, hC]
        have hDz : D.size ≤ 6000 := by rw [hD, str_size, e2]; omega
        have HRG : Hid (wr.rangeAt bl (off + k * 60) (bytes C)) := Lib.hid (Lies.range (w := wr) (B := 0) (fun j u hj => (hbw.cell (p := ⟨bl, off + j, none⟩) hbb).trans (hcc j u hj)) (bytes (L.take k).flatten) (bytes C) (bytes z) (by rw [e1, bytes_append, bytes_append]) (k * 60) (by rw [bytes_length, e2]; omega))
        have LC : Hid ((bytes C).length = 60) := Lib.hid (by rw [bytes_length, hl60])
        have HC1 : Hid ((bytes C).all (·.oneCell') = true) := Lib.hid (bytes_oneC C)
        have hCz : (str C).size ≤ 60 := by rw [str_size, hl60]; omega
        have HTX : Hid (∀ u, Calls Try.prog 17 #[.agg (bytes C).toArray] u fun e w' => e = .returned (.string (str C)) ∧ Below u.heap.size u w') := Lib.hid fun u => refText_any C u hl60
        have HD2 := Lib.hid hD2
        have HBW := Lib.hid hbw
        rw [← hD]
        generalize bytes C = M at HRG LC HC1 HTX
        generalize str C = TC at HTX hDD hCz
        clear hcc hl60 e1 e2 hC hbw hD hD2
        go_wp2_with (first
          | ((with_reducible refine wpLoadRK HRG.out 23 fits_block LC.out ?_ ?_); rfl)
          | ((with_reducible refine wpAllocK (w := wr) OO 23 HZ0.out ?_ ?_); rfl; intro v1 r1 b1 s1; have Q1 := Lib.hid r1; have A1 := Lib.hid b1; clear r1 b1 s1)
          | ((with_reducible refine Q1.out.wpStoreK 23 M fits_block LO.out LC.out HC1.out ?_ ?_); rfl; intro v2 r2 o2 s2; have Q2 := Lib.hid r2; have A2 : Hid (Below w.heap.size w v2) := Lib.hid (HBW.out.next (A1.out.trans (o2.below (Nat.le_refl _) A1.out.size))); clear r2 o2 s2)
          | ((with_reducible refine Q2.out.wpLoadK 23 fits_block LC.out ?_ ?_); rfl)
          | (go_at_call 17; (with_reducible refine (HTX.out v2).mono ?_); rintro e v3 ⟨rfl, b3⟩; have A3 : Hid (Below w.heap.size w v3) := Lib.hid (A2.out.next b3); clear b3))
        go_roundw
        case rel => exact ⟨k + 1, by omega, by go_num, by rw [HD2.out], A3.out⟩
        case measure => simp [intOf]; omega
      · have ek : L.take k = L := List.take_of_length_le (by omega)
        rw [ek]
        have HJ2 := Lib.hid (HJL.out wr hbw)
        generalize str L.flatten = LF at HJ2 ⊢
        have hq : (LF.toList == LF.toList) = true := beq_self_eq_true _
        go_wp2_with (go_at_call 16; (with_reducible refine HJ2.out.mono ?_); rintro e v3 ⟨rfl, b3⟩; have A3 : Hid (Below w.heap.size w v3) := Lib.hid (hbw.next b3); clear b3)
        go_ret
        exact ⟨rfl, A3.out⟩
  · have hcat := hcat2 hc
    obtain ⟨c, hcc⟩ : ∃ c, c = N - s.size := ⟨_, rfl⟩
    rw [← hcc] at hcat
    have hci : (N : Int) - (s.size : Int) = (c : Int) := by omega
    have hci3 : (c : Int) ≤ 3840 := by omega
    have hci4 : IntKind.i64.wrap (c : Int) = (c : Int) := by rw [IntKind.wrap_i64]; omega
    have HREPC : Hid (∀ u, Calls Try.prog 10 #[.string { data := #[0] }, .int .i64 (c : Int)] u fun e w' => e = .returned (.string (str (List.replicate c 0))) ∧ Below u.heap.size u w') := Lib.hid fun u => HREP.out u c (by omega)
    have hz0 : (str (List.replicate c 0)).size ≤ 5000 := by rw [str_size, List.length_replicate]; omega
    generalize str (List.replicate c 0) = Z at HREPC hcat hz0
    have hci2 : (s.size : Int) ≤ (N : Int) := by omega
    have hgq := HGQ.out
    clear hcat1 hcat2 hc HWE hcc
    go_enter Try.func4, Try.ntmps4
    go_wp2_with (first
      | (go_at_call 6; (with_reducible refine (HAW.out w).mono ?_); rintro e u1 ⟨rfl, b1⟩; have B1 := Lib.hid b1; clear b1)
      | (go_at_call 15; (with_reducible refine (HSP.out u1).mono ?_); rintro e u2 ⟨g, rfl, l2, b2⟩; have L2 := Lib.hid l2; have B2 : Hid (Below w.heap.size w u2) := Lib.hid (B1.out.next b2); clear l2 b2)
      | (go_at_call 16; (with_reducible refine (HJ.out u2 g L2.out).mono ?_); rintro e u3 ⟨rfl, b3⟩; have B3 : Hid (Below w.heap.size w u3) := Lib.hid (B2.out.next b3); clear b3)
      | (go_at_call 10; (with_reducible refine (HREPC.out u3).mono ?_); rintro e u4 ⟨rfl, b4⟩; have B4 : Hid (Below w.heap.size w u4) := Lib.hid (B3.out.next b4); clear b4))
    go_loopw [11, 13, 58] (fun t _ i wr => ∃ k : Nat, k ≤ L.length ∧ i = .int .i64 k ∧ t = .string (str (L.take k).flatten) ∧ Below w.heap.size w wr) (fun _ _ i _ => L.length - (intOf i).toNat)
    case atStart => exact ⟨0, by omega, rfl, rfl, B4.out⟩
    case round =>
      obtain ⟨k, hk, rfl, rfl, hbw⟩ := hrel
      by_cases hlt : k < L.length
      · have hl60 := HL.out L[k] (List.getElem_mem _)
        obtain ⟨z, e1, e2⟩ := flat_mid L HL.out k hlt
        obtain ⟨bl, off, rfl, hbb, hcc⟩ := HR.out (by rw [bytes_length, flat_length L HL.out]; omega)
        obtain ⟨C, hC⟩ : ∃ C, L[k] = C := ⟨_, rfl⟩
        rw [hC] at hl60 e1
        obtain ⟨D, hD⟩ : ∃ D, D = str (L.take k).flatten := ⟨_, rfl⟩
        obtain ⟨D2, hD2⟩ : ∃ D, D = str (L.take (k + 1)).flatten := ⟨_, rfl⟩
        have hDD : D ++ str C = D2 := by rw [hD, hD2, str_append, flat_take L k hlt, hC]
        have hDz : D.size ≤ 6000 := by rw [hD, str_size, e2]; omega
        have HRG : Hid (wr.rangeAt bl (off + k * 60) (bytes C)) := Lib.hid (Lies.range (w := wr) (B := 0) (fun j u hj => (hbw.cell (p := ⟨bl, off + j, none⟩) hbb).trans (hcc j u hj)) (bytes (L.take k).flatten) (bytes C) (bytes z) (by rw [e1, bytes_append, bytes_append]) (k * 60) (by rw [bytes_length, e2]; omega))
        have LC : Hid ((bytes C).length = 60) := Lib.hid (by rw [bytes_length, hl60])
        have HC1 : Hid ((bytes C).all (·.oneCell') = true) := Lib.hid (bytes_oneC C)
        have hCz : (str C).size ≤ 60 := by rw [str_size, hl60]; omega
        have HTX : Hid (∀ u, Calls Try.prog 17 #[.agg (bytes C).toArray] u fun e w' => e = .returned (.string (str C)) ∧ Below u.heap.size u w') := Lib.hid fun u => refText_any C u hl60
        have HD2 := Lib.hid hD2
        have HBW := Lib.hid hbw
        rw [← hD]
        generalize bytes C = M at HRG LC HC1 HTX
        generalize str C = TC at HTX hDD hCz
        clear hcc hl60 e1 e2 hC hbw hD hD2
        go_wp2_with (first
          | ((with_reducible refine wpLoadRK HRG.out 23 fits_block LC.out ?_ ?_); rfl)
          | ((with_reducible refine wpAllocK (w := wr) OO 23 HZ0.out ?_ ?_); rfl; intro v1 r1 b1 s1; have Q1 := Lib.hid r1; have A1 := Lib.hid b1; clear r1 b1 s1)
          | ((with_reducible refine Q1.out.wpStoreK 23 M fits_block LO.out LC.out HC1.out ?_ ?_); rfl; intro v2 r2 o2 s2; have Q2 := Lib.hid r2; have A2 : Hid (Below w.heap.size w v2) := Lib.hid (HBW.out.next (A1.out.trans (o2.below (Nat.le_refl _) A1.out.size))); clear r2 o2 s2)
          | ((with_reducible refine Q2.out.wpLoadK 23 fits_block LC.out ?_ ?_); rfl)
          | (go_at_call 17; (with_reducible refine (HTX.out v2).mono ?_); rintro e v3 ⟨rfl, b3⟩; have A3 : Hid (Below w.heap.size w v3) := Lib.hid (A2.out.next b3); clear b3))
        go_roundw
        case rel => exact ⟨k + 1, by omega, by go_num, by rw [HD2.out], A3.out⟩
        case measure => simp [intOf]; omega
      · have ek : L.take k = L := List.take_of_length_le (by omega)
        rw [ek]
        have HJ2 := Lib.hid (HJL.out wr hbw)
        generalize str L.flatten = LF at HJ2 ⊢
        have hq : (LF.toList == LF.toList) = true := beq_self_eq_true _
        go_wp2_with (go_at_call 16; (with_reducible refine HJ2.out.mono ?_); rintro e v3 ⟨rfl, b3⟩; have A3 : Hid (Below w.heap.size w v3) := Lib.hid (hbw.next b3); clear b3)
        go_ret
        exact ⟨rfl, A3.out⟩
end Go.Proofs.Ytmffkfgcopaoeaa
