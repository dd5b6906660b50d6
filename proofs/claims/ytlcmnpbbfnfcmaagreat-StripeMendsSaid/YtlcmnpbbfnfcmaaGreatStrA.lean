/- Contracts of stripe's word, lay. -/
import Derived.Test.YtlcmnpbbfnfcmaaGreatStrMath
import Derived.Test.YtlcmnpbbfnfcmaaGreatB5
namespace Go.Proofs.YtlcmnpbbfnfcmaaGreat
open Go.RowKit CrcMath GfMath PolyMath RsMath SolMath
set_option linter.unusedVariables false
set_option maxRecDepth 100000

theorem str_info8 : (Tryz.prog.info? 5).map (fun i => (i.zero, i.size, i.bytes)) = some (some (.int .u8 0), 1, 8) ∨ (Tryz.prog.info? 5).map (fun i => (i.zero, i.size, i.bytes)) = some (some (.int .u8 0), 1, 1) := Or.inr info_byte
/-- The word while it is filled. -/
def colP (f : Fb) (n b k : Nat) : List Nat := tab n fun i => if i < k then (f i b).toNat else 0
theorem colP_zero (f : Fb) (n b : Nat) : colP f n b 0 = List.replicate n 0 := by rw [tab_zero]; exact tab_congr _ fun i _ => if_neg (by omega)
theorem colP_full (f : Fb) (n b : Nat) : colP f n b n = colF f n b := tab_congr _ fun i hi => if_pos hi
theorem colP_next (f : Fb) (n b k : Nat) : (colP f n b k).set k (f k b).toNat = colP f n b (k + 1) := by
  rw [colP, tab_set]
  refine tab_congr _ fun i _ => ?_
  by_cases e : i = k
  · rw [if_pos e, if_pos (by omega), e]
  · rw [if_neg e]
    by_cases h : i < k
    · rw [if_pos h, if_pos (by omega)]
    · rw [if_neg h, if_neg (by omega)]
/-- A block among those that lie somewhere. -/
theorem grid_range {w : World} {bl off n : Nat} {f : Fb} (hc : ∀ j u, (bytes (grid n f))[j]? = some u → w.cell? ⟨bl, off + j, none⟩ = some u) (k : Nat) (hk : k < n) : w.rangeAt bl (off + k * 60) (bytes (bkF f k)) :=
  Lies.range (w := w) (B := 0) hc (bytes (grid k f)) (bytes (bkF f k)) (bytes (grid (n - k - 1) (fun j => f (k + 1 + j)))) (by rw [grid_split f hk, bytes_append, bytes_append]) (k * 60) (by rw [bytes_length, grid_length])

set_option maxHeartbeats 1000000 in
theorem str_word_any (a : Option Addr) (cap n : Nat) (f : Fb) (b : Nat) (w : World) (hn : n ≤ 1000) (hb : b < 60) (hr : Lies w w.heap.size a (bytes (grid n f))) :
    Calls Tryz.prog 47 #[.slice a n cap, .int .i64 (b : Int)] w fun e w' => (∃ g, e = .returned (.slice (some ⟨g, 0, none⟩) n n) ∧ w.heap.size ≤ g ∧ Row w' g 5 (u8s (colF f n b))) ∧ Below w.heap.size w w' := by
  obtain ⟨O, hO⟩ : ∃ O : List UInt8, O = List.replicate 60 0 := ⟨_, rfl⟩
  have HZ0 : Hid (∀ u, (zeroValue 47).run Tryz.prog u = .ok (.agg (bytes O).toArray) u) := Lib.hid (by rw [hO]; exact tag_zero)
  have LO : Hid ((bytes O).length = 60) := Lib.hid (by rw [hO, bytes_length, List.length_replicate])
  have HR := Lib.hid hr
  have HI8 := Lib.hid str_info8
  have HZC : Hid ((Value.int .u8 0).cells = #[.int .u8 0]) := Lib.hid rfl
  have HNN : Hid (n ≤ n) := Lib.hid (Nat.le_refl _)
  have HNM : Hid (n ≤ 1099511627776) := Lib.hid (by omega)
  have HZR : Hid (List.replicate n (Value.int .u8 0) = u8s (colP f n b 0)) := Lib.hid (by rw [colP_zero, u8s_zero])
  have HB := Lib.hid hb
  have hb1 : (b : Int) < 60 := by omega
  have hn1 : (n : Int) ≤ 1000 := by omega
  clear hO hr hb hn
  go_enter Tryz.func47, Tryz.ntmps47
  go_wp2_with ((with_reducible refine wpMakeK 67 5 (.int .u8 0) n n Tryz.underlying67 HI8.out HZC.out HNN.out HNM.out ?_ ?_); rfl; intro u1 r1 b1 s1; rw [HZR.out] at r1; have R1 := Lib.hid r1; have B1 := Lib.hid b1; clear r1 b1 s1)
  go_loopw [13] (fun i wr => ∃ k : Nat, k ≤ n ∧ i = .int .i64 k ∧ Row wr w.heap.size 5 (u8s (colP f n b k)) ∧ Below w.heap.size w wr) (fun i _ => n - (intOf i).toNat)
  case atStart => exact ⟨0, by omega, rfl, R1.out, B1.out⟩
  case round =>
    clear R1 B1
    obtain ⟨k, hk, rfl, hrow, hbw⟩ := hrel
    by_cases hlt : k < n
    · have hki : (k : Int) < (n : Int) := by omega
      obtain ⟨bl, off, rfl, hbb, hc⟩ := HR.out (by rw [bytes_length, grid_length]; omega)
      have HRG : Hid (wr.rangeAt bl (off + k * 60) (bytes (bkF f k))) := Lib.hid (grid_range (fun j u hj => (hbw.cell (p := ⟨bl, off + j, none⟩) hbb).trans (hc j u hj)) k hlt)
      have LM : Hid ((bytes (bkF f k)).length = 60) := Lib.hid (by rw [bytes_length, bkF_length])
      have HM1 : Hid ((bytes (bkF f k)).all (·.oneCell') = true) := Lib.hid (bytes_oneC _)
      obtain ⟨x, hx⟩ : ∃ x, (f k b).toNat = x := ⟨_, rfl⟩
      have HMB : Hid ((bytes (bkF f k))[b]? = some (.int .u8 (x : Int))) := Lib.hid (by rw [← hx, bytes, List.getElem?_map, bkF_get _ _ _ HB.out]; rfl)
      have HNX : Hid ((u8s (colP f n b k)).set k (.int .u8 (x : Int)) = u8s (colP f n b (k + 1))) := Lib.hid (by rw [u8s_set, ← hx, colP_next])
      have HLN : Hid (k < (u8s (colP f n b k)).length) := Lib.hid (by rw [u8s_length, colP, tab_length]; exact hlt)
      have HROW := Lib.hid hrow
      have HBW := Lib.hid hbw
      generalize bytes (bkF f k) = M at HRG LM HM1 HMB
      generalize u8s (colP f n b k) = F at HROW HNX HLN
      clear hrow hbw hc hx hlt
      go_wp2_with (first
        | ((with_reducible refine wpLoadRK HRG.out 47 fits_block LM.out ?_ ?_); rfl)
        | ((with_reducible refine wpAllocK (w := wr) (bytes O) 47 HZ0.out ?_ ?_); rfl; intro u1 r1 b1 s1; have R1 := Lib.hid r1; have Q1 := Lib.hid (HROW.out.step b1); have B1 := Lib.hid (HBW.out.next b1); clear r1 b1 s1)
        | ((with_reducible refine R1.out.wpStoreK 47 M fits_block LO.out LM.out HM1.out ?_ ?_); rfl; intro u2 r2 o2 s2; have hcell : u2.cell? ⟨wr.heap.size, b, none⟩ = some (.int .u8 (x : Int)) := (by rw [r2.cell]; exact HMB.out); have Q2 := Lib.hid (Q1.out.only o2 (by have := HROW.out.lt; omega)); have B2 : Hid (Below w.heap.size w u2) := Lib.hid (B1.out.trans (o2.below HBW.out.size B1.out.size)); clear r2 o2 s2)
        | ((with_reducible refine Q2.out.wpStore1K k 5 (.int .u8 (x : Int)) tag_size_byte HLN.out ?_ ?_ ?_ ?_); rfl; rfl; rfl; intro u3 r3 o3 s3; rw [HNX.out] at r3; have R3 := Lib.hid r3; have B3 : Hid (Below w.heap.size w u3) := Lib.hid (B2.out.trans (o3.below (Nat.le_refl _) B2.out.size)); clear r3 o3 s3))
      go_roundw
      case rel => exact ⟨k + 1, by omega, by go_num, R3.out, B3.out⟩
      case measure => simp [intOf]; omega
    · obtain rfl : k = n := by omega
      rw [colP_full] at hrow
      have HROW := Lib.hid hrow
      have HBW := Lib.hid hbw
      clear hrow hbw
      go_wp2
      go_ret
      exact ⟨⟨_, rfl, Nat.le_refl _, HROW.out⟩, HBW.out⟩

theorem grid_set_ys (N : Nat) (f : Fb) (ys : List Value) (i b : Nat) (v : UInt8) (x : Nat) (hv : v.toNat = x) (hi : i < N) (hb : b < 60) : (bytes (grid N f) ++ ys).set (i * 60 + b) (.int .u8 (x : Int)) = bytes (grid N (setF f i b v)) ++ ys := by
  rw [List.set_append_left _ _ (by rw [bytes_length, grid_length]; omega), ← grid_set N f i b v hi hb, bytes, bytes, List.map_set, hv]
theorem grid_cell_ys (N : Nat) (f : Fb) (ys : List Value) (i b : Nat) (hi : i < N) (hb : b < 60) : (bytes (grid N f) ++ ys)[i * 60 + b]? = some (.int .u8 ((f i b).toNat : Int)) := by
  rw [List.getElem?_append_left (by rw [bytes_length, grid_length]; omega), bytes, List.getElem?_map, grid_at _ _ _ _ hi hb]
  rfl

set_option maxHeartbeats 1000000 in
theorem str_lay_any (g o n cap N : Nat) (T : TypeId) (f : Fb) (ys : List Value) (b g2 o2 cap2 : Nat) (X : List Nat) (w : World) (hn : n ≤ 1000) (hN : o + n ≤ N) (hb : b < 60) (hX : By X) (hXl : X.length = n) (hg : g2 ≠ g)
    (hr : Row w g T (bytes (grid N f) ++ ys)) (hx : Lies w w.heap.size (some ⟨g2, o2, none⟩) (u8s X)) :
    Calls Tryz.prog 48 #[.slice (some ⟨g, o * 60, none⟩) n cap, .int .i64 (b : Int), .slice (some ⟨g2, o2, none⟩) n cap2] w fun e w' => e = .returned (.tuple #[]) ∧ Row w' g T (bytes (grid N (putF f o b X n)) ++ ys) ∧ Only g w w' := by
  have HR : Hid (Row w g T (bytes (grid N (putF f o b X 0)) ++ ys)) := Lib.hid (by rw [putF_zero]; exact hr)
  have HX8 := Lib.hid hX
  have HXL := Lib.hid hXl
  have HXX := Lib.hid hx
  have HB := Lib.hid hb
  have HNN := Lib.hid hN
  have HG := Lib.hid hg
  have hb1 : (b : Int) < 60 := by omega
  have hn1 : (n : Int) ≤ 1000 := by omega
  clear hr hX hXl hx hb hN hn hg
  go_enter Tryz.func48, Tryz.ntmps48
  go_wp2
  go_loopw [9] (fun i wr => ∃ k : Nat, k ≤ n ∧ i = .int .i64 k ∧ Row wr g T (bytes (grid N (putF f o b X k)) ++ ys) ∧ Only g w wr) (fun i _ => n - (intOf i).toNat)
  case atStart => exact ⟨0, by omega, rfl, HR.out, Only.refl _ _⟩
  case round =>
    clear HR
    obtain ⟨k, hk, rfl, hrow, hbw⟩ := hrel
    by_cases hlt : k < n
    · have hki : (k : Int) < (n : Int) := by omega
      obtain ⟨b3, o3, e3, hbb, hc⟩ := HXX.out (by rw [u8s_length, HXL.out]; omega)
      cases e3
      have hx8 := HX8.out.sq k
      obtain ⟨x, hx⟩ : ∃ x, sq X k = x := ⟨_, rfl⟩
      have hcw : w.cell? ⟨g2, o2 + k, none⟩ = some (.int .u8 (x : Int)) := hc k _ (by rw [u8s_get _ _ (by rw [HXL.out]; exact hlt), ← hx, sq_get _ _ (by rw [HXL.out]; exact hlt)])
      have hcell : wr.cell? ⟨g2, o2 + k, none⟩ = some (.int .u8 (x : Int)) := by
        rw [← hcw]
        simp only [World.cell?]
        rw [hbw.2.2.2.2 g2 hbb HG.out]
      have hdst : wr.cell? ⟨g, o * 60 + k * 60 + b, none⟩ = some (.int .u8 ((putF f o b X k (o + k) b).toNat : Int)) := by
        have := grid_cell_ys N (putF f o b X k) ys (o + k) b (by have := HNN.out; omega) HB.out
        rw [hrow.cell, show o * 60 + k * 60 + b = (o + k) * 60 + b by omega]
        exact this
      have hfr : wr.frozen? ⟨g, o * 60 + k * 60 + b, none⟩ = false := hrow.frozen _
      have HNX : Hid ((bytes (grid N (putF f o b X k)) ++ ys).set (o * 60 + k * 60 + b) (.int .u8 (x : Int)) = bytes (grid N (putF f o b X (k + 1))) ++ ys) := Lib.hid (by
        rw [show o * 60 + k * 60 + b = (o + k) * 60 + b by omega, grid_set_ys N _ ys (o + k) b (UInt8.ofNat x) x (ofNat_toNat (by rw [← hx]; exact hx8)) (by have := HNN.out; omega) HB.out, ← hx, putF_succ])
      have HROW := Lib.hid hrow
      have HBW := Lib.hid hbw
      obtain ⟨y, hy⟩ : ∃ y, ((putF f o b X k (o + k) b).toNat : Int) = y := ⟨_, rfl⟩
      rw [hy] at hdst
      clear hrow hbw hc hx hlt hcw hy
      go_wp2
      go_region
      have R2 : Hid (Row ((wr.setCell ⟨g, o * 60 + k * 60 + b, none⟩ (.int .u8 (x : Int))).drew) g T (bytes (grid N (putF f o b X (k + 1))) ++ ys)) := Lib.hid (by
        have h := HROW.out.set (o * 60 + k * 60 + b) (.int .u8 (x : Int))
        rw [HNX.out] at h
        exact h.drew)
      have O2 : Hid (Only g w ((wr.setCell ⟨g, o * 60 + k * 60 + b, none⟩ (.int .u8 (x : Int))).drew)) := Lib.hid (HBW.out.setCell ⟨g, o * 60 + k * 60 + b, none⟩ _ (Or.inl rfl)).drew
      generalize (wr.setCell ⟨g, o * 60 + k * 60 + b, none⟩ (.int .u8 (x : Int))).drew = W2 at *
      clear hcell hdst hfr HROW HBW
      go_wp2
      go_roundw
      case rel => exact ⟨k + 1, by omega, by go_num, R2.out, O2.out⟩
      case measure => simp [intOf]; omega
    · obtain rfl : k = n := by omega
      have HROW := Lib.hid hrow
      have HBW := Lib.hid hbw
      clear hrow hbw
      go_wp2
      go_end0
      exact ⟨rfl, HROW.out, HBW.out⟩
end Go.Proofs.YtlcmnpbbfnfcmaaGreat
