/- FlashTears' walk. (gen_fla_tears.py) -/
import Derived.Test.YtgdfcfbccjdecaaFlaV
import Derived.Laws.RangeAny
import Derived.Test.YtgdfcfbccjdecaaInvG
namespace Go.Proofs.Ytgdfcfbccjdecaa
open Go.RowKit FlaMath
set_option linter.unusedVariables false
set_option maxRecDepth 100000

def l53 : List UInt8 := List.replicate 16 53
theorem offS_take {w : World} {S : List Nat} {a : Option Addr} {l : List UInt8} (h : OffS w S a (bytes l)) (m : Nat) : OffS w S a (bytes (l.take m)) := by
  intro hp
  rw [bytes_length, List.length_take] at hp
  obtain ⟨bl, off, e, h1, h2, h3⟩ := h (by rw [bytes_length]; omega)
  refine ⟨bl, off, e, h1, h2, fun j u hj => h3 j u ?_⟩
  have hjl : j < (l.take m).length := by have := (List.getElem?_eq_some_iff.1 hj).1; rwa [bytes_length] at this
  have hjl2 : j < l.length := by rw [List.length_take] at hjl; omega
  rw [bytes_get _ j hjl] at hj
  rw [bytes_get _ j hjl2, ← hj, List.getElem_take]
theorem conv_laid2 (os : ByteArray) (w : World) (s : Sh) (D : Dv) (h : Dev w s D) : ∃ wx c, (convert 9 48 (.string os)).run Try.prog w = .ok (.slice (some ⟨w.heap.size, 0, none⟩) os.size c) wx ∧ Below w.heap.size w wx ∧ OffS wx s.S (some ⟨w.heap.size, 0, none⟩) (bytes os.data.toList) ∧ os.size ≤ c := by
  have hrun := run_bytes_of_string (P := Try.prog) w 9 48 5 os Try.underlying9 Try.underlying48 Try.underlying5
  have hb0 : Below w.heap.size w w.drew := (Below.refl _ _).drew
  have hB := Bytes.new os (grownCap w os.size 0 5) w.drew 5
  refine ⟨_, _, hrun, hb0.alloc (Nat.le_refl _) _, fun hp => ⟨_, _, rfl, hB.lt, not_mem_new h (Nat.le_refl _), fun j u hj => ?_⟩, grownCap_ge _ _ _ _⟩
  have hjl : j < os.data.toList.length := by have := (List.getElem?_eq_some_iff.1 hj).1; rwa [bytes_length] at this
  rw [bytes_get _ j hjl] at hj
  rw [Nat.zero_add, ← hj]
  exact hB.cell j hjl
theorem str3_zero : ∀ u, (zeroValue 51).run Try.prog u = .ok (.agg ([.string { data := #[] }, .string { data := #[] }, .string { data := #[] }] : List Value).toArray) u := fun u => by kernel_rfl
theorem fits_str3 : Fits Try.prog 51 3 := ⟨⟨_, Try.underlying51, rfl⟩, by kernel_rfl⟩
theorem erase_Clen (D : Dv) (i : Int) : (eraseD D i).C.length = D.C.length := by
  unfold eraseD
  split
  · exact work_length _ _ _ _ _ _
  · rfl
theorem program_Clen (D : Dv) (x : Int) (l : List UInt8) : (programD D x l).C.length = D.C.length := by
  unfold programD
  split
  · exact work_length _ _ _ _ _ _
  · rfl
theorem iter_drewN (W : World) (s : ByteArray) (p n : Nat) : (W.iter s p).drewN n = (W.drewN n).iter s p := rfl
theorem width_pos (s : ByteArray) (pos : Nat) (h : pos < s.size) : 1 ≤ (Utf8.decode s pos).2 := by
  by_cases ha : (s[pos]'h).toNat < 128
  · rw [decode_ascii s pos h ha]; exact Nat.le_refl _
  · exact (decode_high s pos h (by omega)).2
theorem str_getD (l : List UInt8) (i : Nat) (h : i < (str l).size) : (str l)[i] = l.getD i 0 := by
  have hl : i < l.length := by rwa [str_size] at h
  rw [List.getD_eq_getElem?_getD, List.getElem?_eq_getElem hl]; rfl

set_option maxHeartbeats 4000000 in
theorem flashTears_true (t : ByteArray) (fb : Int) (fm : UInt8) (w : World) (ht : t.size ≤ 140737488351232) :
    Calls Try.prog 6 #[.string t, .bool true, .agg #[.int .i64 fb, .int .u8 (fm.toNat : Int)]] w fun e w' => e = .returned (.bool true) ∧ Below w.heap.size w w' := by
  have HA := Lib.hid flash_awake
  have HNW : Hid (∀ w1, Calls Try.prog 9 #[.int .i64 3] w1 fun e w' => ∃ s : Sh, e = .returned (.tuple #[.pointer (some ⟨s.b, 0, none⟩), .int .i64 0]) ∧ Dev w' s (D0 3) ∧ (∀ k ∈ s.S, w1.heap.size ≤ k) ∧ Below w1.heap.size w1 w') := Lib.hid fun w1 => flnew_any 3 w1 (by omega) (by omega)
  have HRP : Hid (∀ w1, Calls Try.prog 11 #[.string { data := #[53] }, .int .i64 16] w1 fun e w' => e = .returned (.string (str l53)) ∧ Below w1.heap.size w1 w') := Lib.hid (frep 53)
  obtain ⟨m, hm⟩ : ∃ m : Int, (fm.toNat : Int) = m := ⟨_, rfl⟩
  have HT2 : Hid (([.int .i64 fb, .int .u8 m] : List Value).length = 2) := Lib.hid rfl
  by_cases hbig : 1000 < t.size
  · have e1 : (1000 : Int) < t.size := by omega
    rw [hm]
    clear hm hbig
    go_enter Try.func6, Try.ntmps6
    go_wp2_with (first
      | ((with_reducible refine wpBoxK [.int .i64 fb, .int .u8 m] 34 ?_ ?_); rfl; intro w1 r1 b1 s1; have R1 := Lib.hid r1; have B1 := Lib.hid b1; clear r1 b1 s1)
      | (go_at_call 7; (with_reducible refine (HA.out w1).mono ?_); rintro e w2 ⟨rfl, b2⟩; have R2 := Lib.hid (R1.out.step b2); have B2 := Lib.hid (B1.out.next b2); clear b2)
      | (go_at_call 9; (with_reducible refine (HNW.out w2).mono ?_); rintro e w3 ⟨s, rfl, d3, n3, b3⟩; have B3 := Lib.hid (B2.out.next b3); clear d3 b3 n3))
    go_ret
    exact ⟨rfl, B3.out⟩
  · have e1 : (t.size : Int) ≤ 1000 := by omega
    obtain ⟨mm, hmm⟩ : ∃ x, (if t.size < 192 then t.size else 192) = x := ⟨_, rfl⟩
    have hm1 : mm ≤ t.size := by rw [← hmm]; split <;> omega
    have hm2 : mm ≤ 192 := by rw [← hmm]; split <;> omega
    have hmin : ∀ (ts : Array TypeId) (ty : TypeId) (W : World), (Builtin.min_ ts ty #[.int .i64 (t.size : Int), .int .i64 192]).run Try.prog W = .ok (.int .i64 (mm : Int)) W := fun ts ty W => by
      by_cases hq : t.size < 192
      · have hcq : mm = t.size := by rw [if_pos hq] at hmm; exact hmm.symm
        have hq2 : ¬ (192 : Int) < t.size := by omega
        simp [Builtin.min_, Builtin.min2, hq2, hcq]
      · have hcq : mm = 192 := by rw [if_neg hq] at hmm; exact hmm.symm
        by_cases hq3 : (192 : Int) < t.size
        · simp [Builtin.min_, Builtin.min2, hq3, hcq]
        · have : t.size = 192 := by omega
          simp [Builtin.min_, Builtin.min2, this, hcq]
    obtain ⟨l, hl⟩ : ∃ l, t.data.toList.take mm = l := ⟨_, rfl⟩
    have hll : l.length = mm := by rw [← hl, List.length_take, size_list]; omega
    have HU := up3_rot 0 l
    have HROT : Hid (∀ s wx p c, Dev wx s (D0 3) → OffS wx s.S p (bytes t.data.toList) → Calls Try.prog 20 #[.pointer (some ⟨s.b, 0, none⟩), .int .i64 0, .slice p mm c] wx fun e w' => (∃ x, e = .returned (.int .i64 x)) ∧ Dev w' s ((D0 3).rot 0 l) ∧ Onl s.S wx w') := Lib.hid fun s wx p c h1 h2 => by
      have := fla_rot_any s (D0 3) 0 p c l wx h1 (by omega) (by rw [← hl]; exact offS_take h2 mm)
      rw [hll] at this
      refine this.mono ?_
      rintro e w' ⟨rfl, h3, h4⟩
      exact ⟨⟨_, rfl⟩, h3, h4⟩
    obtain ⟨D1, hD1⟩ : ∃ D, (D0 3).rot 0 l = D := ⟨_, rfl⟩
    rw [hD1] at HU HROT
    obtain ⟨hE, hT⟩ := tear_erase D1 fb fm HU
    obtain ⟨D3, hD3⟩ : ∃ D, eraseD (D1.fuse 0 fb fm) 1 = D := ⟨_, rfl⟩
    rw [hD3] at hT
    obtain ⟨S0, hS0⟩ : ∃ x, dump D1 0 = x := ⟨_, rfl⟩
    obtain ⟨S1, hS1⟩ : ∃ x, dump D1 1 = x := ⟨_, rfl⟩
    obtain ⟨S2, hS2⟩ : ∃ x, dump D1 2 = x := ⟨_, rfl⟩
    obtain ⟨N1, hN1⟩ : ∃ x, dump D3 1 = x := ⟨_, rfl⟩
    have hl3 : D1.L.length = 3 := by rw [HU.len]; rfl
    have HD0 : Hid (∀ s wx, Dev wx s D1 → Calls Try.prog 12 #[.pointer (some ⟨s.b, 0, none⟩), .int .i64 0] wx fun e w' => e = .returned (.string (str S0)) ∧ wx = w') := Lib.hid fun s wx h => by have := dump_any s D1 0 wx h; rwa [hS0] at this
    have HD1 : Hid (∀ s wx, Dev wx s D1 → Calls Try.prog 12 #[.pointer (some ⟨s.b, 0, none⟩), .int .i64 1] wx fun e w' => e = .returned (.string (str S1)) ∧ wx = w') := Lib.hid fun s wx h => by have := dump_any s D1 1 wx h; rwa [hS1] at this
    have HD2 : Hid (∀ s wx, Dev wx s D1 → Calls Try.prog 12 #[.pointer (some ⟨s.b, 0, none⟩), .int .i64 2] wx fun e w' => e = .returned (.string (str S2)) ∧ wx = w') := Lib.hid fun s wx h => by have := dump_any s D1 2 wx h; rwa [hS2] at this
    have HF : Hid (∀ s wx, Dev wx s D1 → Calls Try.prog 16 #[.pointer (some ⟨s.b, 0, none⟩), .int .i64 0, .agg #[.int .i64 fb, .int .u8 m]] wx fun e w' => e = .returned (.tuple #[]) ∧ Dev w' s (D1.fuse 0 fb fm) ∧ Onl s.S wx w') := Lib.hid fun s wx h => by have := fuse_any s D1 0 fb fm wx h; rwa [hm] at this
    have HOP : Hid (∀ s wx, Dev wx s (D1.fuse 0 fb fm) → Calls Try.prog 15 #[.pointer (some ⟨s.b, 0, none⟩), .int .i64 1] wx fun e w' => e = .returned (.int .i64 5) ∧ Dev w' s D3 ∧ Onl s.S wx w') := Lib.hid fun s wx h => by
      have := fla_erase_any s (D1.fuse 0 fb fm) 1 wx h
      rw [hE, hD3] at this
      exact this
    have K0 : Hid (∀ s u, Dev u s D3 → Calls Try.prog 12 #[.pointer (some ⟨s.b, 0, none⟩), .int .i64 0] u fun e w' => e = .returned (.string (str S0)) ∧ w' = u) := Lib.hid fun s u h => by
      have := dump_any s D3 0 u h
      rw [hT.s0, hS0] at this
      exact this.mono fun e w' h => ⟨h.1, h.2.symm⟩
    have K2 : Hid (∀ s u, Dev u s D3 → Calls Try.prog 12 #[.pointer (some ⟨s.b, 0, none⟩), .int .i64 2] u fun e w' => e = .returned (.string (str S2)) ∧ w' = u) := Lib.hid fun s u h => by
      have := dump_any s D3 2 u h
      rw [hT.s2, hS2] at this
      exact this.mono fun e w' h => ⟨h.1, h.2.symm⟩
    have K1 : Hid (∀ s u, Dev u s D3 → Calls Try.prog 12 #[.pointer (some ⟨s.b, 0, none⟩), .int .i64 1] u fun e w' => e = .returned (.string (str N1)) ∧ u = w') := Lib.hid fun s u h => by
      have := dump_any s D3 1 u h
      rwa [hN1] at this
    have KD : Hid (∀ s u, Dev u s D3 → Calls Try.prog 19 #[.pointer (some ⟨s.b, 0, none⟩)] u fun e w' => e = .returned (.bool true) ∧ w' = u) := Lib.hid fun s u h => by
      have := down_any s D3 u h
      rw [hT.dn] at this
      exact this.mono fun e w' h => ⟨h.1, h.2.symm⟩
    have HS64 : Hid (S1.length = 64) := Lib.hid (by
      have h3 : (dump D1 ((1 : Nat) : Int)).length = 64 := by rw [dump_i D1 1 (by omega), sec, List.length_take, List.length_drop, HU.cel]; rfl
      rw [← hS1]; exact h3)
    have HN64 : Hid (N1.length = 64) := Lib.hid (by
      have h3 : (dump D3 ((1 : Nat) : Int)).length = 64 := by
        have hl : D3.L.length = 3 := by rw [← hD3, eraseD_L, show (D1.fuse 0 fb fm).L = D1.L from rfl]; exact hl3
        rw [dump_i D3 1 (by omega), sec, List.length_take, List.length_drop, ← hD3, erase_Clen, show (D1.fuse 0 fb fm).C = D1.C from rfl, HU.cel]; rfl
      rw [← hN1]; exact h3)
    have HSUB : Hid (∀ i, i < 64 → if true then Sub (S1.getD i 0) (N1.getD i 0) else Sub (N1.getD i 0) (S1.getD i 0) ∧ ((i < 16 ∨ 32 ≤ i) → S1.getD i 0 = N1.getD i 0)) := Lib.hid fun i hi => by
      have := hT.sub i hi
      rwa [hS1, hN1] at this
    have q0 : ((str S0).toList == (str S0).toList) = true := beq_self_eq_true _
    have q2 : ((str S2).toList == (str S2).toList) = true := beq_self_eq_true _
    have hm3 : (mm : Int) ≤ t.size := by omega
    have hm4 : (mm : Int) ≤ 192 := by omega
    rw [hm]
    obtain ⟨Z, hZ⟩ : ∃ Z : List Value, [.string { data := #[] }, .string { data := #[] }, .string { data := #[] }] = Z := ⟨_, rfl⟩
    have HZ : Hid (∀ u, (zeroValue 51).run Try.prog u = .ok (.agg Z.toArray) u) := Lib.hid (by rw [← hZ]; exact str3_zero)
    have HZL : Hid (Z.length = 3) := Lib.hid (by rw [← hZ]; rfl)
    have HS3 : Hid (([.string (str S0), .string (str S1), .string (str S2)] : List Value).length = 3) := Lib.hid rfl
    have HS31 : Hid (([.string (str S0), .string (str S1), .string (str S2)] : List Value).all (·.oneCell') = true) := Lib.hid rfl
    clear hm hbig hmm hm1 hm2 hl hll HU hD1 hE hT hD3 hS0 hS1 hS2 hN1 hl3 hZ ht
    go_enter Try.func6, Try.ntmps6
    go_wp2_with (first
      | ((with_reducible refine wpBoxK [.int .i64 fb, .int .u8 m] 34 ?_ ?_); rfl; intro w1 r1 b1 s1; have R1 := Lib.hid r1; have B1 := Lib.hid b1; clear r1 b1 s1)
      | (go_at_call 7; (with_reducible refine (HA.out w1).mono ?_); rintro e w2 ⟨rfl, b2⟩; have R2 := Lib.hid (R1.out.step b2); have B2 := Lib.hid (B1.out.next b2); clear b2)
      | (go_at_call 9; (with_reducible refine (HNW.out w2).mono ?_); rintro e w3 ⟨s, rfl, d3, n3, b3⟩; have E3 := Lib.hid d3; have N3 : Hid (∀ k ∈ s.S, w2.heap.size ≤ k) := Lib.hid n3; have R3 := Lib.hid (R2.out.step b3); have B3 := Lib.hid (B2.out.next b3); obtain ⟨wx, cx, hcv, bx, ox, hcx⟩ := conv_laid2 t w3 s (D0 3) d3; have hcx2 : (mm : Int) ≤ cx := (by omega); have EX := Lib.hid (d3.step bx); have RX := Lib.hid (R3.out.step bx); have BX := Lib.hid (B3.out.next bx); have OX := Lib.hid ox; clear d3 b3 n3 bx ox)
      | (go_at_call 20; (with_reducible refine (HROT.out s wx _ _ EX.out OX.out).mono ?_); rintro e w4 ⟨⟨x4, rfl⟩, d4, o4⟩; have E4 := Lib.hid d4; have R4 := Lib.hid (RX.out.onl o4 (fun hm => by have := N3.out _ hm; have := R2.out.lt; omega)); have B4 := Lib.hid (BX.out.trans (o4.below (fun k hk => Nat.le_trans B2.out.size (N3.out k hk)) BX.out.size)); clear d4 o4)
      | (go_at_call 12; first
          | ((with_reducible refine (HD0.out s w4 E4.out).mono ?_); rintro e u1 ⟨rfl, rfl⟩)
          | ((with_reducible refine (HD1.out s w4 E4.out).mono ?_); rintro e u1 ⟨rfl, rfl⟩)
          | ((with_reducible refine (HD2.out s w4 E4.out).mono ?_); rintro e u1 ⟨rfl, rfl⟩))
      | ((with_reducible refine wpAllocK Z 51 HZ.out ?_ ?_); rfl; intro w5 r5 b5 s5; have R5 := Lib.hid r5; have E5 := Lib.hid (E4.out.step b5); have RT5 := Lib.hid (R4.out.step b5); have B5 := Lib.hid (B4.out.next b5); clear r5 b5 s5)
      | ((with_reducible refine R5.out.wpStoreK 51 [.string (str S0), .string (str S1), .string (str S2)] fits_str3 HZL.out HS3.out HS31.out ?_ ?_); rfl; intro w6 r6 o6 s6; have RS6 := Lib.hid r6; have E6 := Lib.hid (E5.out.onl (S := [w4.heap.size]) (Onl.of_only o6 (by simp)) (fun k hk hq => by have := E4.out.lt k hk; simp at hq; omega)); have RT6 := Lib.hid (RT5.out.only o6 (by have := R4.out.lt; omega)); have B6 := Lib.hid (B5.out.trans (o6.below B4.out.size B5.out.size)); clear r6 o6 s6)
      | ((with_reducible refine RT6.out.wpLoadK 34 fits_torn HT2.out ?_ ?_); rfl)
      | (go_at_call 16; (with_reducible refine (HF.out s w6 E6.out).mono ?_); rintro e w7 ⟨rfl, d7, o7⟩; have E7 := Lib.hid d7; have RS7 := Lib.hid (RS6.out.onl o7 (fun hm => by have := E4.out.lt _ hm; omega)); have B7 := Lib.hid (B6.out.trans (o7.below (fun k hk => Nat.le_trans B2.out.size (N3.out k hk)) B6.out.size)); clear d7 o7)
      | (go_at_call 15; (with_reducible refine (HOP.out s w7 E7.out).mono ?_); rintro e w8 ⟨rfl, d8, o8⟩; have E8 := Lib.hid d8; have RS8 := Lib.hid (RS7.out.onl o8 (fun hm => by have := E4.out.lt _ hm; omega)); have B8 := Lib.hid (B7.out.trans (o8.below (fun k hk => Nat.le_trans B2.out.size (N3.out k hk)) B7.out.size)); clear d8 o8))
    have KD' : Hid (∀ wx, Below w8.heap.size w8 wx → Calls Try.prog 19 #[.pointer (some ⟨s.b, 0, none⟩)] wx fun e w' => e = .returned (.bool true) ∧ Below wx.heap.size wx w') := Lib.hid fun wx hb => (KD.out s wx (E8.out.step hb)).mono fun e w' h => ⟨h.1, h.2 ▸ Below.refl _ _⟩
    have K0' : Hid (∀ wx, Below w8.heap.size w8 wx → Calls Try.prog 12 #[.pointer (some ⟨s.b, 0, none⟩), .int .i64 0] wx fun e w' => e = .returned (.string (str S0)) ∧ Below wx.heap.size wx w') := Lib.hid fun wx hb => (K0.out s wx (E8.out.step hb)).mono fun e w' h => ⟨h.1, h.2 ▸ Below.refl _ _⟩
    have K2' : Hid (∀ wx, Below w8.heap.size w8 wx → Calls Try.prog 12 #[.pointer (some ⟨s.b, 0, none⟩), .int .i64 2] wx fun e w' => e = .returned (.string (str S2)) ∧ Below wx.heap.size wx w') := Lib.hid fun wx hb => (K2.out s wx (E8.out.step hb)).mono fun e w' h => ⟨h.1, h.2 ▸ Below.refl _ _⟩
    have CS0 : Hid (w8.cell? ⟨w4.heap.size, 0, none⟩ = some (.string (str S0))) := Lib.hid (RS8.out.cell 0)
    have CS2 : Hid (w8.cell? ⟨w4.heap.size, 2, none⟩ = some (.string (str S2))) := Lib.hid (RS8.out.cell 2)
    have HGL : Hid (w4.heap.size < w8.heap.size) := Lib.hid RS8.out.lt
    clear HA HNW HRP HROT HD0 HD1 HD2 HF HOP
    refine region_invX [(0, 53), (1, 54), (2, 55), (3, 56), (4, 57), (5, 58), (6, 59), (7, 60), (8, 61), (9, 62), (10, 63), (11, 64), (12, 65), (13, 66), (14, 67), (15, 68), (16, 69), (17, 70), (18, 71), (19, 72), (20, 73)]
      (fun ii => [Is (.int .i64 5), Is (.bool false), Is (.bool false), Is (.pointer (some ⟨s.b, 0, none⟩)), Is (.bool true), Is (.bool false), Is (.bool false), Is (.bool false), Is (.pointer (some ⟨s.b, 0, none⟩)), Is (.string (str S0)), Is (.pointer (some ⟨w4.heap.size, 0, none⟩)), Is (.string (str S0)), Is (.bool false), Is (.bool false), Is (.bool false), Is (.pointer (some ⟨s.b, 0, none⟩)), Is (.string (str S2)), Is (.pointer (some ⟨w4.heap.size, 2, none⟩)), Is (.string (str S2)), Is (.bool false), Is (.bool false)].getD ii (Is undef))
      (fun w' => Below w8.heap.size w8 w') (by kernel_rfl) (by kernel_rfl) (by decide) (by decide) (by kernel_rfl) rfl ?monot ((Below.refl _ _).drew) ?stept ?fint
    case monot =>
      intro i
      match i with
      | 0 | 1 | 2 | 3 | 4 | 5 | 6 | 7 | 8 | 9 | 10 | 11 | 12 | 13 | 14 | 15 | 16 | 17 | 18 | 19 | 20 => exact Is.monot _
      | _ + 21 => exact Is.monot _
    case stept =>
      refine List.forall_mem_cons.2 ⟨?ts0, List.forall_mem_cons.2 ⟨?ts1, List.forall_mem_cons.2 ⟨?ts2, List.forall_mem_cons.2 ⟨?ts3, List.forall_mem_cons.2 ⟨?ts4, List.forall_mem_cons.2 ⟨?ts5, List.forall_mem_cons.2 ⟨?ts6, List.forall_mem_cons.2 ⟨?ts7, List.forall_mem_cons.2 ⟨?ts8, List.forall_mem_cons.2 ⟨?ts9, List.forall_mem_cons.2 ⟨?ts10, List.forall_mem_cons.2 ⟨?ts11, List.forall_mem_cons.2 ⟨?ts12, List.forall_mem_cons.2 ⟨?ts13, List.forall_mem_cons.2 ⟨?ts14, List.forall_mem_cons.2 ⟨?ts15, List.forall_mem_cons.2 ⟨?ts16, List.forall_mem_cons.2 ⟨?ts17, List.forall_mem_cons.2 ⟨?ts18, List.forall_mem_cons.2 ⟨?ts19, List.forall_mem_cons.2 ⟨?ts20, List.forall_mem_nil _⟩⟩⟩⟩⟩⟩⟩⟩⟩⟩⟩⟩⟩⟩⟩⟩⟩⟩⟩⟩⟩
      case ts0 =>
        intro u wx hg hC
        clear hC
        refine wpOp_step rfl (fun K hK => ?_)
        simp only [puts, List.foldl]
        go_simp
        exact hK _ _ ⟨rfl, rfl, hg, Below.refl _ _⟩
      case ts1 =>
        intro u wx hg hC
        have hJ0 : u 0 = (.int .i64 5) := hC.at 0 (by kernel_rfl)
        clear hC
        refine wpOp_step rfl (fun K hK => ?_)
        simp only [puts, List.foldl]
        go_simp
        exact hK _ _ ⟨rfl, rfl, hg, Below.refl _ _⟩
      case ts2 =>
        intro u wx hg hC
        have hJ1 : u 1 = (.bool false) := hC.at 1 (by kernel_rfl)
        clear hC
        refine wpOp_step rfl (fun K hK => ?_)
        simp only [puts, List.foldl]
        go_simp
        exact hK _ _ ⟨rfl, rfl, hg, Below.refl _ _⟩
      case ts3 =>
        intro u wx hg hC
        have hJ2 : u 2 = (.bool false) := hC.at 2 (by kernel_rfl)
        clear hC
        generalize hA : puts [(0, 53), (1, 54), (2, 55), (3, 56), (4, 57), (5, 58), (6, 59), (7, 60), (8, 61), (9, 62), (10, 63), (11, 64), (12, 65), (13, 66), (14, 67), (15, 68), (16, 69), (17, 70), (18, 71), (19, 72), (20, 73)] _ u = A
        have hgv : A.tmps.getD 55 undef = .bool false := by rw [← hA]; exact (puts_get u 2 55 _ _ (by decide) (by decide) (by kernel_rfl)).trans hJ2
        have hgs : 55 < A.tmps.size := by rw [← hA]; exact puts_room u (by kernel_rfl)
        refine wpOp_guard rfl 2 55 false rfl rfl hgs hgv (fun K hK => ?_)
        subst hA
        simp only [puts, List.foldl]
        go_simp
        exact hK _ _ ⟨rfl, rfl, hg, Below.refl _ _⟩
      case ts4 =>
        intro u wx hg hC
        have hJ2 : u 2 = (.bool false) := hC.at 2 (by kernel_rfl)
        have hJ3 : u 3 = (.pointer (some ⟨s.b, 0, none⟩)) := hC.at 3 (by kernel_rfl)
        clear hC
        generalize hA : puts [(0, 53), (1, 54), (2, 55), (3, 56), (4, 57), (5, 58), (6, 59), (7, 60), (8, 61), (9, 62), (10, 63), (11, 64), (12, 65), (13, 66), (14, 67), (15, 68), (16, 69), (17, 70), (18, 71), (19, 72), (20, 73)] _ u = A
        have hgv : A.tmps.getD 55 undef = .bool false := by rw [← hA]; exact (puts_get u 2 55 _ _ (by decide) (by decide) (by kernel_rfl)).trans hJ2
        have hgs : 55 < A.tmps.size := by rw [← hA]; exact puts_room u (by kernel_rfl)
        refine wpOp_guard rfl 2 55 false rfl rfl hgs hgv (fun K hK => ?_)
        subst hA
        simp only [puts, List.foldl]
        go_simp
        refine (KD'.out wx hg).mono ?_
        rintro e w' ⟨rfl, hb'⟩
        exact hK _ _ ⟨rfl, rfl, hg.next hb', hb'⟩
      case ts5 =>
        intro u wx hg hC
        have hJ2 : u 2 = (.bool false) := hC.at 2 (by kernel_rfl)
        have hJ4 : u 4 = (.bool true) := hC.at 4 (by kernel_rfl)
        clear hC
        generalize hA : puts [(0, 53), (1, 54), (2, 55), (3, 56), (4, 57), (5, 58), (6, 59), (7, 60), (8, 61), (9, 62), (10, 63), (11, 64), (12, 65), (13, 66), (14, 67), (15, 68), (16, 69), (17, 70), (18, 71), (19, 72), (20, 73)] _ u = A
        have hgv : A.tmps.getD 55 undef = .bool false := by rw [← hA]; exact (puts_get u 2 55 _ _ (by decide) (by decide) (by kernel_rfl)).trans hJ2
        have hgs : 55 < A.tmps.size := by rw [← hA]; exact puts_room u (by kernel_rfl)
        refine wpOp_guard rfl 2 55 false rfl rfl hgs hgv (fun K hK => ?_)
        subst hA
        simp only [puts, List.foldl]
        go_simp
        exact hK _ _ ⟨rfl, rfl, hg, Below.refl _ _⟩
      case ts6 =>
        intro u wx hg hC
        have hJ2 : u 2 = (.bool false) := hC.at 2 (by kernel_rfl)
        have hJ5 : u 5 = (.bool false) := hC.at 5 (by kernel_rfl)
        clear hC
        refine wpOp_step rfl (fun K hK => ?_)
        simp only [puts, List.foldl]
        go_simp
        exact hK _ _ ⟨rfl, rfl, hg, Below.refl _ _⟩
      case ts7 =>
        intro u wx hg hC
        have hJ6 : u 6 = (.bool false) := hC.at 6 (by kernel_rfl)
        clear hC
        refine wpOp_step rfl (fun K hK => ?_)
        simp only [puts, List.foldl]
        go_simp
        exact hK _ _ ⟨rfl, rfl, hg, Below.refl _ _⟩
      case ts8 =>
        intro u wx hg hC
        have hJ7 : u 7 = (.bool false) := hC.at 7 (by kernel_rfl)
        clear hC
        generalize hA : puts [(0, 53), (1, 54), (2, 55), (3, 56), (4, 57), (5, 58), (6, 59), (7, 60), (8, 61), (9, 62), (10, 63), (11, 64), (12, 65), (13, 66), (14, 67), (15, 68), (16, 69), (17, 70), (18, 71), (19, 72), (20, 73)] _ u = A
        have hgv : A.tmps.getD 60 undef = .bool false := by rw [← hA]; exact (puts_get u 7 60 _ _ (by decide) (by decide) (by kernel_rfl)).trans hJ7
        have hgs : 60 < A.tmps.size := by rw [← hA]; exact puts_room u (by kernel_rfl)
        refine wpOp_guard rfl 7 60 false rfl rfl hgs hgv (fun K hK => ?_)
        subst hA
        simp only [puts, List.foldl]
        go_simp
        exact hK _ _ ⟨rfl, rfl, hg, Below.refl _ _⟩
      case ts9 =>
        intro u wx hg hC
        have hJ7 : u 7 = (.bool false) := hC.at 7 (by kernel_rfl)
        have hJ8 : u 8 = (.pointer (some ⟨s.b, 0, none⟩)) := hC.at 8 (by kernel_rfl)
        clear hC
        generalize hA : puts [(0, 53), (1, 54), (2, 55), (3, 56), (4, 57), (5, 58), (6, 59), (7, 60), (8, 61), (9, 62), (10, 63), (11, 64), (12, 65), (13, 66), (14, 67), (15, 68), (16, 69), (17, 70), (18, 71), (19, 72), (20, 73)] _ u = A
        have hgv : A.tmps.getD 60 undef = .bool false := by rw [← hA]; exact (puts_get u 7 60 _ _ (by decide) (by decide) (by kernel_rfl)).trans hJ7
        have hgs : 60 < A.tmps.size := by rw [← hA]; exact puts_room u (by kernel_rfl)
        refine wpOp_guard rfl 7 60 false rfl rfl hgs hgv (fun K hK => ?_)
        subst hA
        simp only [puts, List.foldl]
        go_simp
        refine (K0'.out wx hg).mono ?_
        rintro e w' ⟨rfl, hb'⟩
        exact hK _ _ ⟨rfl, rfl, hg.next hb', hb'⟩
      case ts10 =>
        intro u wx hg hC
        have hJ7 : u 7 = (.bool false) := hC.at 7 (by kernel_rfl)
        clear hC
        generalize hA : puts [(0, 53), (1, 54), (2, 55), (3, 56), (4, 57), (5, 58), (6, 59), (7, 60), (8, 61), (9, 62), (10, 63), (11, 64), (12, 65), (13, 66), (14, 67), (15, 68), (16, 69), (17, 70), (18, 71), (19, 72), (20, 73)] _ u = A
        have hgv : A.tmps.getD 60 undef = .bool false := by rw [← hA]; exact (puts_get u 7 60 _ _ (by decide) (by decide) (by kernel_rfl)).trans hJ7
        have hgs : 60 < A.tmps.size := by rw [← hA]; exact puts_room u (by kernel_rfl)
        refine wpOp_guard rfl 7 60 false rfl rfl hgs hgv (fun K hK => ?_)
        subst hA
        simp only [puts, List.foldl]
        go_simp
        exact hK _ _ ⟨rfl, rfl, hg, Below.refl _ _⟩
      case ts11 =>
        intro u wx hg hC
        have hJ7 : u 7 = (.bool false) := hC.at 7 (by kernel_rfl)
        have hJ10 : u 10 = (.pointer (some ⟨w4.heap.size, 0, none⟩)) := hC.at 10 (by kernel_rfl)
        clear hC
        have hcl : wx.cell? ⟨w4.heap.size, 0, none⟩ = some (.string (str S0)) := (hg.cell (p := ⟨w4.heap.size, 0, none⟩) HGL.out).trans CS0.out
        generalize hA : puts [(0, 53), (1, 54), (2, 55), (3, 56), (4, 57), (5, 58), (6, 59), (7, 60), (8, 61), (9, 62), (10, 63), (11, 64), (12, 65), (13, 66), (14, 67), (15, 68), (16, 69), (17, 70), (18, 71), (19, 72), (20, 73)] _ u = A
        have hgv : A.tmps.getD 60 undef = .bool false := by rw [← hA]; exact (puts_get u 7 60 _ _ (by decide) (by decide) (by kernel_rfl)).trans hJ7
        have hgs : 60 < A.tmps.size := by rw [← hA]; exact puts_room u (by kernel_rfl)
        refine wpOp_guard rfl 7 60 false rfl rfl hgs hgv (fun K hK => ?_)
        subst hA
        simp only [puts, List.foldl]
        go_simp
        exact hK _ _ ⟨rfl, rfl, hg, Below.refl _ _⟩
      case ts12 =>
        intro u wx hg hC
        have hJ7 : u 7 = (.bool false) := hC.at 7 (by kernel_rfl)
        have hJ9 : u 9 = (.string (str S0)) := hC.at 9 (by kernel_rfl)
        have hJ11 : u 11 = (.string (str S0)) := hC.at 11 (by kernel_rfl)
        clear hC
        generalize hA : puts [(0, 53), (1, 54), (2, 55), (3, 56), (4, 57), (5, 58), (6, 59), (7, 60), (8, 61), (9, 62), (10, 63), (11, 64), (12, 65), (13, 66), (14, 67), (15, 68), (16, 69), (17, 70), (18, 71), (19, 72), (20, 73)] _ u = A
        have hgv : A.tmps.getD 60 undef = .bool false := by rw [← hA]; exact (puts_get u 7 60 _ _ (by decide) (by decide) (by kernel_rfl)).trans hJ7
        have hgs : 60 < A.tmps.size := by rw [← hA]; exact puts_room u (by kernel_rfl)
        refine wpOp_guard rfl 7 60 false rfl rfl hgs hgv (fun K hK => ?_)
        subst hA
        simp only [puts, List.foldl]
        go_simp
        exact hK _ _ ⟨rfl, rfl, hg, Below.refl _ _⟩
      case ts13 =>
        intro u wx hg hC
        have hJ7 : u 7 = (.bool false) := hC.at 7 (by kernel_rfl)
        have hJ12 : u 12 = (.bool false) := hC.at 12 (by kernel_rfl)
        clear hC
        refine wpOp_step rfl (fun K hK => ?_)
        simp only [puts, List.foldl]
        go_simp
        exact hK _ _ ⟨rfl, rfl, hg, Below.refl _ _⟩
      case ts14 =>
        intro u wx hg hC
        have hJ13 : u 13 = (.bool false) := hC.at 13 (by kernel_rfl)
        clear hC
        refine wpOp_step rfl (fun K hK => ?_)
        simp only [puts, List.foldl]
        go_simp
        exact hK _ _ ⟨rfl, rfl, hg, Below.refl _ _⟩
      case ts15 =>
        intro u wx hg hC
        have hJ14 : u 14 = (.bool false) := hC.at 14 (by kernel_rfl)
        clear hC
        generalize hA : puts [(0, 53), (1, 54), (2, 55), (3, 56), (4, 57), (5, 58), (6, 59), (7, 60), (8, 61), (9, 62), (10, 63), (11, 64), (12, 65), (13, 66), (14, 67), (15, 68), (16, 69), (17, 70), (18, 71), (19, 72), (20, 73)] _ u = A
        have hgv : A.tmps.getD 67 undef = .bool false := by rw [← hA]; exact (puts_get u 14 67 _ _ (by decide) (by decide) (by kernel_rfl)).trans hJ14
        have hgs : 67 < A.tmps.size := by rw [← hA]; exact puts_room u (by kernel_rfl)
        refine wpOp_guard rfl 14 67 false rfl rfl hgs hgv (fun K hK => ?_)
        subst hA
        simp only [puts, List.foldl]
        go_simp
        exact hK _ _ ⟨rfl, rfl, hg, Below.refl _ _⟩
      case ts16 =>
        intro u wx hg hC
        have hJ14 : u 14 = (.bool false) := hC.at 14 (by kernel_rfl)
        have hJ15 : u 15 = (.pointer (some ⟨s.b, 0, none⟩)) := hC.at 15 (by kernel_rfl)
        clear hC
        generalize hA : puts [(0, 53), (1, 54), (2, 55), (3, 56), (4, 57), (5, 58), (6, 59), (7, 60), (8, 61), (9, 62), (10, 63), (11, 64), (12, 65), (13, 66), (14, 67), (15, 68), (16, 69), (17, 70), (18, 71), (19, 72), (20, 73)] _ u = A
        have hgv : A.tmps.getD 67 undef = .bool false := by rw [← hA]; exact (puts_get u 14 67 _ _ (by decide) (by decide) (by kernel_rfl)).trans hJ14
        have hgs : 67 < A.tmps.size := by rw [← hA]; exact puts_room u (by kernel_rfl)
        refine wpOp_guard rfl 14 67 false rfl rfl hgs hgv (fun K hK => ?_)
        subst hA
        simp only [puts, List.foldl]
        go_simp
        refine (K2'.out wx hg).mono ?_
        rintro e w' ⟨rfl, hb'⟩
        exact hK _ _ ⟨rfl, rfl, hg.next hb', hb'⟩
      case ts17 =>
        intro u wx hg hC
        have hJ14 : u 14 = (.bool false) := hC.at 14 (by kernel_rfl)
        clear hC
        generalize hA : puts [(0, 53), (1, 54), (2, 55), (3, 56), (4, 57), (5, 58), (6, 59), (7, 60), (8, 61), (9, 62), (10, 63), (11, 64), (12, 65), (13, 66), (14, 67), (15, 68), (16, 69), (17, 70), (18, 71), (19, 72), (20, 73)] _ u = A
        have hgv : A.tmps.getD 67 undef = .bool false := by rw [← hA]; exact (puts_get u 14 67 _ _ (by decide) (by decide) (by kernel_rfl)).trans hJ14
        have hgs : 67 < A.tmps.size := by rw [← hA]; exact puts_room u (by kernel_rfl)
        refine wpOp_guard rfl 14 67 false rfl rfl hgs hgv (fun K hK => ?_)
        subst hA
        simp only [puts, List.foldl]
        go_simp
        exact hK _ _ ⟨rfl, rfl, hg, Below.refl _ _⟩
      case ts18 =>
        intro u wx hg hC
        have hJ14 : u 14 = (.bool false) := hC.at 14 (by kernel_rfl)
        have hJ17 : u 17 = (.pointer (some ⟨w4.heap.size, 2, none⟩)) := hC.at 17 (by kernel_rfl)
        clear hC
        have hcl : wx.cell? ⟨w4.heap.size, 2, none⟩ = some (.string (str S2)) := (hg.cell (p := ⟨w4.heap.size, 2, none⟩) HGL.out).trans CS2.out
        generalize hA : puts [(0, 53), (1, 54), (2, 55), (3, 56), (4, 57), (5, 58), (6, 59), (7, 60), (8, 61), (9, 62), (10, 63), (11, 64), (12, 65), (13, 66), (14, 67), (15, 68), (16, 69), (17, 70), (18, 71), (19, 72), (20, 73)] _ u = A
        have hgv : A.tmps.getD 67 undef = .bool false := by rw [← hA]; exact (puts_get u 14 67 _ _ (by decide) (by decide) (by kernel_rfl)).trans hJ14
        have hgs : 67 < A.tmps.size := by rw [← hA]; exact puts_room u (by kernel_rfl)
        refine wpOp_guard rfl 14 67 false rfl rfl hgs hgv (fun K hK => ?_)
        subst hA
        simp only [puts, List.foldl]
        go_simp
        exact hK _ _ ⟨rfl, rfl, hg, Below.refl _ _⟩
      case ts19 =>
        intro u wx hg hC
        have hJ14 : u 14 = (.bool false) := hC.at 14 (by kernel_rfl)
        have hJ16 : u 16 = (.string (str S2)) := hC.at 16 (by kernel_rfl)
        have hJ18 : u 18 = (.string (str S2)) := hC.at 18 (by kernel_rfl)
        clear hC
        generalize hA : puts [(0, 53), (1, 54), (2, 55), (3, 56), (4, 57), (5, 58), (6, 59), (7, 60), (8, 61), (9, 62), (10, 63), (11, 64), (12, 65), (13, 66), (14, 67), (15, 68), (16, 69), (17, 70), (18, 71), (19, 72), (20, 73)] _ u = A
        have hgv : A.tmps.getD 67 undef = .bool false := by rw [← hA]; exact (puts_get u 14 67 _ _ (by decide) (by decide) (by kernel_rfl)).trans hJ14
        have hgs : 67 < A.tmps.size := by rw [← hA]; exact puts_room u (by kernel_rfl)
        refine wpOp_guard rfl 14 67 false rfl rfl hgs hgv (fun K hK => ?_)
        subst hA
        simp only [puts, List.foldl]
        go_simp
        exact hK _ _ ⟨rfl, rfl, hg, Below.refl _ _⟩
      case ts20 =>
        intro u wx hg hC
        have hJ14 : u 14 = (.bool false) := hC.at 14 (by kernel_rfl)
        have hJ19 : u 19 = (.bool false) := hC.at 19 (by kernel_rfl)
        clear hC
        refine wpOp_step rfl (fun K hK => ?_)
        simp only [puts, List.foldl]
        go_simp
        exact hK _ _ ⟨rfl, rfl, hg, Below.refl _ _⟩
    case fint =>
      intro u wx hg hφ
      have h20 : u 20 = .bool false := hφ (20, 73) (by decide)
      clear hφ
      simp only [puts, List.foldl]
      go_simp
      have E9 := Lib.hid (E8.out.step hg)
      have RS9 := Lib.hid (RS8.out.step hg)
      have B9 := Lib.hid (B8.out.next hg)
      clear hg h20
      go_wp2_with (go_at_call 12; (with_reducible refine (K1.out s wx E9.out).mono ?_); rintro e u1 ⟨rfl, rfl⟩)
      have hS1 : S1.length = 64 := HS64.out
      have hN1 : N1.length = 64 := HN64.out
      go_loopw [11] (fun v wr => ∃ W pos, wr = World.iter W (str N1) pos ∧ W.heap.size = wx.heap.size ∧ Below wx.heap.size wx W) (fun v wr => (str N1).size - wr.iterPos wx.heap.size)
      case atStart => exact ⟨wx, 0, rfl, rfl, Below.refl _ _⟩
      case round =>
        obtain ⟨W, pos, rfl, hW, hb⟩ := hrel
        by_cases hp : pos < 64
        · have hp1 : pos < (str S1).size := by rw [str_size]; omega
          have hp2 : pos < (str N1).size := by rw [str_size]; omega
          have hwd := width_pos (str N1) pos hp2
          obtain ⟨wd, hwd2⟩ : ∃ x, (Utf8.decode (str N1) pos).2 = x := ⟨_, rfl⟩
          obtain ⟨rn, hrn⟩ : ∃ x, (Utf8.decode (str N1) pos).1 = x := ⟨_, rfl⟩
          rw [hwd2] at hwd
          have hnx : ∀ ty, (Instr.next (.pointer (some ⟨wx.heap.size, 0, none⟩)) true ty).run Try.prog (W.iter (str N1) pos) = .ok (.tuple #[.bool true, .int .i64 (pos : Int), .int .i32 (rn : Int)]) (W.iter (str N1) (pos + wd)) := fun ty => by
            rw [← hW, ← hrn, ← hwd2]; exact run_next_any W (str N1) pos ty hp2
          have hcs : (W.iter (str N1) (pos + wd)).cell? ⟨w4.heap.size, 1, none⟩ = some (.string (str S1)) := ((RS9.out.step hb).alloc _).cell 1
          have hsub := HSUB.out pos hp
          rw [← str_getD S1 pos hp1, ← str_getD N1 pos hp2] at hsub
          obtain ⟨x, hx⟩ : ∃ x, (str S1)[pos] = x := ⟨_, rfl⟩
          obtain ⟨y, hy⟩ : ∃ y, (str N1)[pos] = y := ⟨_, rfl⟩
          rw [hx, hy] at hsub
          have i1 : (pos : Int) < (str S1).size := by omega
          have i2 : (pos : Int) < (str N1).size := by omega
          have HB := Lib.hid hb
          have HWS := Lib.hid hW
          have HWD := Lib.hid hwd
          have HP2 := Lib.hid hp2
          have HIT : Hid (∀ (W' : World) p, W'.heap.size = wx.heap.size → (W'.iter (str N1) p).iterPos wx.heap.size = p) := Lib.hid fun W' p h => by rw [← h]; exact World.iterPos_iter _ _ _
          clear hwd2 hrn hb hW hwd
          have hs : Sub x y := by simpa using hsub
          have hz := hs.andNot
          clear hsub hs
          go_wp2
          go_quiet (fail)
          go_wp2
          go_roundw
          case rel => exact ⟨_, _, iter_drewN _ _ _ _, HWS.out, HB.out.drewN _⟩
          case measure =>
            have h1 := HWD.out
            have h2 := HP2.out
            rw [iter_drewN, HIT.out (World.drewN W _) _ HWS.out, HIT.out W _ HWS.out]
            omega
        · have hp2 : ¬ pos < (str N1).size := by rw [str_size]; omega
          have hnx : ∀ ty, (Instr.next (.pointer (some ⟨wx.heap.size, 0, none⟩)) true ty).run Try.prog (W.iter (str N1) pos) = .ok (.tuple #[.bool false]) (W.iter (str N1) pos) := fun ty => by rw [← hW]; exact run_next_end W (str N1) pos ty hp2
          have HB := Lib.hid hb
          clear hb hW
          go_wp2
          go_ret
          exact ⟨rfl, (B9.out.next HB.out).alloc (B9.out.next HB.out).size _⟩

set_option maxHeartbeats 4000000 in
theorem flashTears_false (t : ByteArray) (fb : Int) (fm : UInt8) (w : World) (ht : t.size ≤ 140737488351232) :
    Calls Try.prog 6 #[.string t, .bool false, .agg #[.int .i64 fb, .int .u8 (fm.toNat : Int)]] w fun e w' => e = .returned (.bool true) ∧ Below w.heap.size w w' := by
  have HA := Lib.hid flash_awake
  have HNW : Hid (∀ w1, Calls Try.prog 9 #[.int .i64 3] w1 fun e w' => ∃ s : Sh, e = .returned (.tuple #[.pointer (some ⟨s.b, 0, none⟩), .int .i64 0]) ∧ Dev w' s (D0 3) ∧ (∀ k ∈ s.S, w1.heap.size ≤ k) ∧ Below w1.heap.size w1 w') := Lib.hid fun w1 => flnew_any 3 w1 (by omega) (by omega)
  have HRP : Hid (∀ w1, Calls Try.prog 11 #[.string { data := #[53] }, .int .i64 16] w1 fun e w' => e = .returned (.string (str l53)) ∧ Below w1.heap.size w1 w') := Lib.hid (frep 53)
  obtain ⟨m, hm⟩ : ∃ m : Int, (fm.toNat : Int) = m := ⟨_, rfl⟩
  have HT2 : Hid (([.int .i64 fb, .int .u8 m] : List Value).length = 2) := Lib.hid rfl
  by_cases hbig : 1000 < t.size
  · have e1 : (1000 : Int) < t.size := by omega
    rw [hm]
    clear hm hbig
    go_enter Try.func6, Try.ntmps6
    go_wp2_with (first
      | ((with_reducible refine wpBoxK [.int .i64 fb, .int .u8 m] 34 ?_ ?_); rfl; intro w1 r1 b1 s1; have R1 := Lib.hid r1; have B1 := Lib.hid b1; clear r1 b1 s1)
      | (go_at_call 7; (with_reducible refine (HA.out w1).mono ?_); rintro e w2 ⟨rfl, b2⟩; have R2 := Lib.hid (R1.out.step b2); have B2 := Lib.hid (B1.out.next b2); clear b2)
      | (go_at_call 9; (with_reducible refine (HNW.out w2).mono ?_); rintro e w3 ⟨s, rfl, d3, n3, b3⟩; have B3 := Lib.hid (B2.out.next b3); clear d3 b3 n3))
    go_ret
    exact ⟨rfl, B3.out⟩
  · have e1 : (t.size : Int) ≤ 1000 := by omega
    obtain ⟨mm, hmm⟩ : ∃ x, (if t.size < 192 then t.size else 192) = x := ⟨_, rfl⟩
    have hm1 : mm ≤ t.size := by rw [← hmm]; split <;> omega
    have hm2 : mm ≤ 192 := by rw [← hmm]; split <;> omega
    have hmin : ∀ (ts : Array TypeId) (ty : TypeId) (W : World), (Builtin.min_ ts ty #[.int .i64 (t.size : Int), .int .i64 192]).run Try.prog W = .ok (.int .i64 (mm : Int)) W := fun ts ty W => by
      by_cases hq : t.size < 192
      · have hcq : mm = t.size := by rw [if_pos hq] at hmm; exact hmm.symm
        have hq2 : ¬ (192 : Int) < t.size := by omega
        simp [Builtin.min_, Builtin.min2, hq2, hcq]
      · have hcq : mm = 192 := by rw [if_neg hq] at hmm; exact hmm.symm
        by_cases hq3 : (192 : Int) < t.size
        · simp [Builtin.min_, Builtin.min2, hq3, hcq]
        · have : t.size = 192 := by omega
          simp [Builtin.min_, Builtin.min2, this, hcq]
    obtain ⟨l, hl⟩ : ∃ l, t.data.toList.take mm = l := ⟨_, rfl⟩
    have hll : l.length = mm := by rw [← hl, List.length_take, size_list]; omega
    have HU := up3_rot 0 l
    have HROT : Hid (∀ s wx p c, Dev wx s (D0 3) → OffS wx s.S p (bytes t.data.toList) → Calls Try.prog 20 #[.pointer (some ⟨s.b, 0, none⟩), .int .i64 0, .slice p mm c] wx fun e w' => (∃ x, e = .returned (.int .i64 x)) ∧ Dev w' s ((D0 3).rot 0 l) ∧ Onl s.S wx w') := Lib.hid fun s wx p c h1 h2 => by
      have := fla_rot_any s (D0 3) 0 p c l wx h1 (by omega) (by rw [← hl]; exact offS_take h2 mm)
      rw [hll] at this
      refine this.mono ?_
      rintro e w' ⟨rfl, h3, h4⟩
      exact ⟨⟨_, rfl⟩, h3, h4⟩
    obtain ⟨D1, hD1⟩ : ∃ D, (D0 3).rot 0 l = D := ⟨_, rfl⟩
    rw [hD1] at HU HROT
    obtain ⟨hE, hT⟩ := tear_program D1 fb fm l53 rfl HU
    obtain ⟨D3, hD3⟩ : ∃ D, programD (D1.fuse 0 fb fm) 80 l53 = D := ⟨_, rfl⟩
    rw [hD3] at hT
    obtain ⟨S0, hS0⟩ : ∃ x, dump D1 0 = x := ⟨_, rfl⟩
    obtain ⟨S1, hS1⟩ : ∃ x, dump D1 1 = x := ⟨_, rfl⟩
    obtain ⟨S2, hS2⟩ : ∃ x, dump D1 2 = x := ⟨_, rfl⟩
    obtain ⟨N1, hN1⟩ : ∃ x, dump D3 1 = x := ⟨_, rfl⟩
    have hl3 : D1.L.length = 3 := by rw [HU.len]; rfl
    have HD0 : Hid (∀ s wx, Dev wx s D1 → Calls Try.prog 12 #[.pointer (some ⟨s.b, 0, none⟩), .int .i64 0] wx fun e w' => e = .returned (.string (str S0)) ∧ wx = w') := Lib.hid fun s wx h => by have := dump_any s D1 0 wx h; rwa [hS0] at this
    have HD1 : Hid (∀ s wx, Dev wx s D1 → Calls Try.prog 12 #[.pointer (some ⟨s.b, 0, none⟩), .int .i64 1] wx fun e w' => e = .returned (.string (str S1)) ∧ wx = w') := Lib.hid fun s wx h => by have := dump_any s D1 1 wx h; rwa [hS1] at this
    have HD2 : Hid (∀ s wx, Dev wx s D1 → Calls Try.prog 12 #[.pointer (some ⟨s.b, 0, none⟩), .int .i64 2] wx fun e w' => e = .returned (.string (str S2)) ∧ wx = w') := Lib.hid fun s wx h => by have := dump_any s D1 2 wx h; rwa [hS2] at this
    have HF : Hid (∀ s wx, Dev wx s D1 → Calls Try.prog 16 #[.pointer (some ⟨s.b, 0, none⟩), .int .i64 0, .agg #[.int .i64 fb, .int .u8 m]] wx fun e w' => e = .returned (.tuple #[]) ∧ Dev w' s (D1.fuse 0 fb fm) ∧ Onl s.S wx w') := Lib.hid fun s wx h => by have := fuse_any s D1 0 fb fm wx h; rwa [hm] at this
    have HOP : Hid (∀ s wx, Dev wx s (D1.fuse 0 fb fm) → Calls Try.prog 10 #[.pointer (some ⟨s.b, 0, none⟩), .int .i64 80, .string (str l53)] wx fun e w' => e = .returned (.int .i64 5) ∧ Dev w' s D3 ∧ Onl s.S wx w') := Lib.hid fun s wx h => by
      have := program_any s (D1.fuse 0 fb fm) 80 (str l53) wx h (by omega) (by rw [str_size]; decide)
      rw [str_list, hE, hD3] at this
      exact this
    have K0 : Hid (∀ s u, Dev u s D3 → Calls Try.prog 12 #[.pointer (some ⟨s.b, 0, none⟩), .int .i64 0] u fun e w' => e = .returned (.string (str S0)) ∧ w' = u) := Lib.hid fun s u h => by
      have := dump_any s D3 0 u h
      rw [hT.s0, hS0] at this
      exact this.mono fun e w' h => ⟨h.1, h.2.symm⟩
    have K2 : Hid (∀ s u, Dev u s D3 → Calls Try.prog 12 #[.pointer (some ⟨s.b, 0, none⟩), .int .i64 2] u fun e w' => e = .returned (.string (str S2)) ∧ w' = u) := Lib.hid fun s u h => by
      have := dump_any s D3 2 u h
      rw [hT.s2, hS2] at this
      exact this.mono fun e w' h => ⟨h.1, h.2.symm⟩
    have K1 : Hid (∀ s u, Dev u s D3 → Calls Try.prog 12 #[.pointer (some ⟨s.b, 0, none⟩), .int .i64 1] u fun e w' => e = .returned (.string (str N1)) ∧ u = w') := Lib.hid fun s u h => by
      have := dump_any s D3 1 u h
      rwa [hN1] at this
    have KD : Hid (∀ s u, Dev u s D3 → Calls Try.prog 19 #[.pointer (some ⟨s.b, 0, none⟩)] u fun e w' => e = .returned (.bool true) ∧ w' = u) := Lib.hid fun s u h => by
      have := down_any s D3 u h
      rw [hT.dn] at this
      exact this.mono fun e w' h => ⟨h.1, h.2.symm⟩
    have HS64 : Hid (S1.length = 64) := Lib.hid (by
      have h3 : (dump D1 ((1 : Nat) : Int)).length = 64 := by rw [dump_i D1 1 (by omega), sec, List.length_take, List.length_drop, HU.cel]; rfl
      rw [← hS1]; exact h3)
    have HN64 : Hid (N1.length = 64) := Lib.hid (by
      have h3 : (dump D3 ((1 : Nat) : Int)).length = 64 := by
        have hl : D3.L.length = 3 := by rw [← hD3, programD_L, show (D1.fuse 0 fb fm).L = D1.L from rfl]; exact hl3
        rw [dump_i D3 1 (by omega), sec, List.length_take, List.length_drop, ← hD3, program_Clen, show (D1.fuse 0 fb fm).C = D1.C from rfl, HU.cel]; rfl
      rw [← hN1]; exact h3)
    have HSUB : Hid (∀ i, i < 64 → if false then Sub (S1.getD i 0) (N1.getD i 0) else Sub (N1.getD i 0) (S1.getD i 0) ∧ ((i < 16 ∨ 32 ≤ i) → S1.getD i 0 = N1.getD i 0)) := Lib.hid fun i hi => by
      have := hT.sub i hi
      rwa [hS1, hN1] at this
    have q0 : ((str S0).toList == (str S0).toList) = true := beq_self_eq_true _
    have q2 : ((str S2).toList == (str S2).toList) = true := beq_self_eq_true _
    have hm3 : (mm : Int) ≤ t.size := by omega
    have hm4 : (mm : Int) ≤ 192 := by omega
    rw [hm]
    obtain ⟨Z, hZ⟩ : ∃ Z : List Value, [.string { data := #[] }, .string { data := #[] }, .string { data := #[] }] = Z := ⟨_, rfl⟩
    have HZ : Hid (∀ u, (zeroValue 51).run Try.prog u = .ok (.agg Z.toArray) u) := Lib.hid (by rw [← hZ]; exact str3_zero)
    have HZL : Hid (Z.length = 3) := Lib.hid (by rw [← hZ]; rfl)
    have HS3 : Hid (([.string (str S0), .string (str S1), .string (str S2)] : List Value).length = 3) := Lib.hid rfl
    have HS31 : Hid (([.string (str S0), .string (str S1), .string (str S2)] : List Value).all (·.oneCell') = true) := Lib.hid rfl
    clear hm hbig hmm hm1 hm2 hl hll HU hD1 hE hT hD3 hS0 hS1 hS2 hN1 hl3 hZ ht
    go_enter Try.func6, Try.ntmps6
    go_wp2_with (first
      | ((with_reducible refine wpBoxK [.int .i64 fb, .int .u8 m] 34 ?_ ?_); rfl; intro w1 r1 b1 s1; have R1 := Lib.hid r1; have B1 := Lib.hid b1; clear r1 b1 s1)
      | (go_at_call 7; (with_reducible refine (HA.out w1).mono ?_); rintro e w2 ⟨rfl, b2⟩; have R2 := Lib.hid (R1.out.step b2); have B2 := Lib.hid (B1.out.next b2); clear b2)
      | (go_at_call 9; (with_reducible refine (HNW.out w2).mono ?_); rintro e w3 ⟨s, rfl, d3, n3, b3⟩; have E3 := Lib.hid d3; have N3 : Hid (∀ k ∈ s.S, w2.heap.size ≤ k) := Lib.hid n3; have R3 := Lib.hid (R2.out.step b3); have B3 := Lib.hid (B2.out.next b3); obtain ⟨wx, cx, hcv, bx, ox, hcx⟩ := conv_laid2 t w3 s (D0 3) d3; have hcx2 : (mm : Int) ≤ cx := (by omega); have EX := Lib.hid (d3.step bx); have RX := Lib.hid (R3.out.step bx); have BX := Lib.hid (B3.out.next bx); have OX := Lib.hid ox; clear d3 b3 n3 bx ox)
      | (go_at_call 20; (with_reducible refine (HROT.out s wx _ _ EX.out OX.out).mono ?_); rintro e w4 ⟨⟨x4, rfl⟩, d4, o4⟩; have E4 := Lib.hid d4; have R4 := Lib.hid (RX.out.onl o4 (fun hm => by have := N3.out _ hm; have := R2.out.lt; omega)); have B4 := Lib.hid (BX.out.trans (o4.below (fun k hk => Nat.le_trans B2.out.size (N3.out k hk)) BX.out.size)); clear d4 o4)
      | (go_at_call 12; first
          | ((with_reducible refine (HD0.out s w4 E4.out).mono ?_); rintro e u1 ⟨rfl, rfl⟩)
          | ((with_reducible refine (HD1.out s w4 E4.out).mono ?_); rintro e u1 ⟨rfl, rfl⟩)
          | ((with_reducible refine (HD2.out s w4 E4.out).mono ?_); rintro e u1 ⟨rfl, rfl⟩))
      | ((with_reducible refine wpAllocK Z 51 HZ.out ?_ ?_); rfl; intro w5 r5 b5 s5; have R5 := Lib.hid r5; have E5 := Lib.hid (E4.out.step b5); have RT5 := Lib.hid (R4.out.step b5); have B5 := Lib.hid (B4.out.next b5); clear r5 b5 s5)
      | ((with_reducible refine R5.out.wpStoreK 51 [.string (str S0), .string (str S1), .string (str S2)] fits_str3 HZL.out HS3.out HS31.out ?_ ?_); rfl; intro w6 r6 o6 s6; have RS6 := Lib.hid r6; have E6 := Lib.hid (E5.out.onl (S := [w4.heap.size]) (Onl.of_only o6 (by simp)) (fun k hk hq => by have := E4.out.lt k hk; simp at hq; omega)); have RT6 := Lib.hid (RT5.out.only o6 (by have := R4.out.lt; omega)); have B6 := Lib.hid (B5.out.trans (o6.below B4.out.size B5.out.size)); clear r6 o6 s6)
      | ((with_reducible refine RT6.out.wpLoadK 34 fits_torn HT2.out ?_ ?_); rfl)
      | (go_at_call 16; (with_reducible refine (HF.out s w6 E6.out).mono ?_); rintro e w7 ⟨rfl, d7, o7⟩; have E7 := Lib.hid d7; have RS7 := Lib.hid (RS6.out.onl o7 (fun hm => by have := E4.out.lt _ hm; omega)); have B7 := Lib.hid (B6.out.trans (o7.below (fun k hk => Nat.le_trans B2.out.size (N3.out k hk)) B6.out.size)); clear d7 o7)
      | (go_at_call 11; (with_reducible refine (HRP.out w7).mono ?_); rintro e w9 ⟨rfl, b9⟩; have E9 := Lib.hid (E7.out.step b9); have RS9 := Lib.hid (RS7.out.step b9); have B9 := Lib.hid (B7.out.next b9); clear b9)
      | (go_at_call 10; (with_reducible refine (HOP.out s w9 E9.out).mono ?_); rintro e w8 ⟨rfl, d8, o8⟩; have E8 := Lib.hid d8; have RS8 := Lib.hid (RS9.out.onl o8 (fun hm => by have := E4.out.lt _ hm; omega)); have B8 := Lib.hid (B9.out.trans (o8.below (fun k hk => Nat.le_trans B2.out.size (N3.out k hk)) B9.out.size)); clear d8 o8))
    have KD' : Hid (∀ wx, Below w8.heap.size w8 wx → Calls Try.prog 19 #[.pointer (some ⟨s.b, 0, none⟩)] wx fun e w' => e = .returned (.bool true) ∧ Below wx.heap.size wx w') := Lib.hid fun wx hb => (KD.out s wx (E8.out.step hb)).mono fun e w' h => ⟨h.1, h.2 ▸ Below.refl _ _⟩
    have K0' : Hid (∀ wx, Below w8.heap.size w8 wx → Calls Try.prog 12 #[.pointer (some ⟨s.b, 0, none⟩), .int .i64 0] wx fun e w' => e = .returned (.string (str S0)) ∧ Below wx.heap.size wx w') := Lib.hid fun wx hb => (K0.out s wx (E8.out.step hb)).mono fun e w' h => ⟨h.1, h.2 ▸ Below.refl _ _⟩
    have K2' : Hid (∀ wx, Below w8.heap.size w8 wx → Calls Try.prog 12 #[.pointer (some ⟨s.b, 0, none⟩), .int .i64 2] wx fun e w' => e = .returned (.string (str S2)) ∧ Below wx.heap.size wx w') := Lib.hid fun wx hb => (K2.out s wx (E8.out.step hb)).mono fun e w' h => ⟨h.1, h.2 ▸ Below.refl _ _⟩
    have CS0 : Hid (w8.cell? ⟨w4.heap.size, 0, none⟩ = some (.string (str S0))) := Lib.hid (RS8.out.cell 0)
    have CS2 : Hid (w8.cell? ⟨w4.heap.size, 2, none⟩ = some (.string (str S2))) := Lib.hid (RS8.out.cell 2)
    have HGL : Hid (w4.heap.size < w8.heap.size) := Lib.hid RS8.out.lt
    clear HA HNW HRP HROT HD0 HD1 HD2 HF HOP
    refine region_invX [(0, 53), (1, 54), (2, 55), (3, 56), (4, 57), (5, 58), (6, 59), (7, 60), (8, 61), (9, 62), (10, 63), (11, 64), (12, 65), (13, 66), (14, 67), (15, 68), (16, 69), (17, 70), (18, 71), (19, 72), (20, 73)]
      (fun ii => [Is (.int .i64 5), Is (.bool false), Is (.bool false), Is (.pointer (some ⟨s.b, 0, none⟩)), Is (.bool true), Is (.bool false), Is (.bool false), Is (.bool false), Is (.pointer (some ⟨s.b, 0, none⟩)), Is (.string (str S0)), Is (.pointer (some ⟨w4.heap.size, 0, none⟩)), Is (.string (str S0)), Is (.bool false), Is (.bool false), Is (.bool false), Is (.pointer (some ⟨s.b, 0, none⟩)), Is (.string (str S2)), Is (.pointer (some ⟨w4.heap.size, 2, none⟩)), Is (.string (str S2)), Is (.bool false), Is (.bool false)].getD ii (Is undef))
      (fun w' => Below w8.heap.size w8 w') (by kernel_rfl) (by kernel_rfl) (by decide) (by decide) (by kernel_rfl) rfl ?monot ((Below.refl _ _).drew) ?stept ?fint
    case monot =>
      intro i
      match i with
      | 0 | 1 | 2 | 3 | 4 | 5 | 6 | 7 | 8 | 9 | 10 | 11 | 12 | 13 | 14 | 15 | 16 | 17 | 18 | 19 | 20 => exact Is.monot _
      | _ + 21 => exact Is.monot _
    case stept =>
      refine List.forall_mem_cons.2 ⟨?ts0, List.forall_mem_cons.2 ⟨?ts1, List.forall_mem_cons.2 ⟨?ts2, List.forall_mem_cons.2 ⟨?ts3, List.forall_mem_cons.2 ⟨?ts4, List.forall_mem_cons.2 ⟨?ts5, List.forall_mem_cons.2 ⟨?ts6, List.forall_mem_cons.2 ⟨?ts7, List.forall_mem_cons.2 ⟨?ts8, List.forall_mem_cons.2 ⟨?ts9, List.forall_mem_cons.2 ⟨?ts10, List.forall_mem_cons.2 ⟨?ts11, List.forall_mem_cons.2 ⟨?ts12, List.forall_mem_cons.2 ⟨?ts13, List.forall_mem_cons.2 ⟨?ts14, List.forall_mem_cons.2 ⟨?ts15, List.forall_mem_cons.2 ⟨?ts16, List.forall_mem_cons.2 ⟨?ts17, List.forall_mem_cons.2 ⟨?ts18, List.forall_mem_cons.2 ⟨?ts19, List.forall_mem_cons.2 ⟨?ts20, List.forall_mem_nil _⟩⟩⟩⟩⟩⟩⟩⟩⟩⟩⟩⟩⟩⟩⟩⟩⟩⟩⟩⟩⟩
      case ts0 =>
        intro u wx hg hC
        clear hC
        refine wpOp_step rfl (fun K hK => ?_)
        simp only [puts, List.foldl]
        go_simp
        exact hK _ _ ⟨rfl, rfl, hg, Below.refl _ _⟩
      case ts1 =>
        intro u wx hg hC
        have hJ0 : u 0 = (.int .i64 5) := hC.at 0 (by kernel_rfl)
        clear hC
        refine wpOp_step rfl (fun K hK => ?_)
        simp only [puts, List.foldl]
        go_simp
        exact hK _ _ ⟨rfl, rfl, hg, Below.refl _ _⟩
      case ts2 =>
        intro u wx hg hC
        have hJ1 : u 1 = (.bool false) := hC.at 1 (by kernel_rfl)
        clear hC
        refine wpOp_step rfl (fun K hK => ?_)
        simp only [puts, List.foldl]
        go_simp
        exact hK _ _ ⟨rfl, rfl, hg, Below.refl _ _⟩
      case ts3 =>
        intro u wx hg hC
        have hJ2 : u 2 = (.bool false) := hC.at 2 (by kernel_rfl)
        clear hC
        generalize hA : puts [(0, 53), (1, 54), (2, 55), (3, 56), (4, 57), (5, 58), (6, 59), (7, 60), (8, 61), (9, 62), (10, 63), (11, 64), (12, 65), (13, 66), (14, 67), (15, 68), (16, 69), (17, 70), (18, 71), (19, 72), (20, 73)] _ u = A
        have hgv : A.tmps.getD 55 undef = .bool false := by rw [← hA]; exact (puts_get u 2 55 _ _ (by decide) (by decide) (by kernel_rfl)).trans hJ2
        have hgs : 55 < A.tmps.size := by rw [← hA]; exact puts_room u (by kernel_rfl)
        refine wpOp_guard rfl 2 55 false rfl rfl hgs hgv (fun K hK => ?_)
        subst hA
        simp only [puts, List.foldl]
        go_simp
        exact hK _ _ ⟨rfl, rfl, hg, Below.refl _ _⟩
      case ts4 =>
        intro u wx hg hC
        have hJ2 : u 2 = (.bool false) := hC.at 2 (by kernel_rfl)
        have hJ3 : u 3 = (.pointer (some ⟨s.b, 0, none⟩)) := hC.at 3 (by kernel_rfl)
        clear hC
        generalize hA : puts [(0, 53), (1, 54), (2, 55), (3, 56), (4, 57), (5, 58), (6, 59), (7, 60), (8, 61), (9, 62), (10, 63), (11, 64), (12, 65), (13, 66), (14, 67), (15, 68), (16, 69), (17, 70), (18, 71), (19, 72), (20, 73)] _ u = A
        have hgv : A.tmps.getD 55 undef = .bool false := by rw [← hA]; exact (puts_get u 2 55 _ _ (by decide) (by decide) (by kernel_rfl)).trans hJ2
        have hgs : 55 < A.tmps.size := by rw [← hA]; exact puts_room u (by kernel_rfl)
        refine wpOp_guard rfl 2 55 false rfl rfl hgs hgv (fun K hK => ?_)
        subst hA
        simp only [puts, List.foldl]
        go_simp
        refine (KD'.out wx hg).mono ?_
        rintro e w' ⟨rfl, hb'⟩
        exact hK _ _ ⟨rfl, rfl, hg.next hb', hb'⟩
      case ts5 =>
        intro u wx hg hC
        have hJ2 : u 2 = (.bool false) := hC.at 2 (by kernel_rfl)
        have hJ4 : u 4 = (.bool true) := hC.at 4 (by kernel_rfl)
        clear hC
        generalize hA : puts [(0, 53), (1, 54), (2, 55), (3, 56), (4, 57), (5, 58), (6, 59), (7, 60), (8, 61), (9, 62), (10, 63), (11, 64), (12, 65), (13, 66), (14, 67), (15, 68), (16, 69), (17, 70), (18, 71), (19, 72), (20, 73)] _ u = A
        have hgv : A.tmps.getD 55 undef = .bool false := by rw [← hA]; exact (puts_get u 2 55 _ _ (by decide) (by decide) (by kernel_rfl)).trans hJ2
        have hgs : 55 < A.tmps.size := by rw [← hA]; exact puts_room u (by kernel_rfl)
        refine wpOp_guard rfl 2 55 false rfl rfl hgs hgv (fun K hK => ?_)
        subst hA
        simp only [puts, List.foldl]
        go_simp
        exact hK _ _ ⟨rfl, rfl, hg, Below.refl _ _⟩
      case ts6 =>
        intro u wx hg hC
        have hJ2 : u 2 = (.bool false) := hC.at 2 (by kernel_rfl)
        have hJ5 : u 5 = (.bool false) := hC.at 5 (by kernel_rfl)
        clear hC
        refine wpOp_step rfl (fun K hK => ?_)
        simp only [puts, List.foldl]
        go_simp
        exact hK _ _ ⟨rfl, rfl, hg, Below.refl _ _⟩
      case ts7 =>
        intro u wx hg hC
        have hJ6 : u 6 = (.bool false) := hC.at 6 (by kernel_rfl)
        clear hC
        refine wpOp_step rfl (fun K hK => ?_)
        simp only [puts, List.foldl]
        go_simp
        exact hK _ _ ⟨rfl, rfl, hg, Below.refl _ _⟩
      case ts8 =>
        intro u wx hg hC
        have hJ7 : u 7 = (.bool false) := hC.at 7 (by kernel_rfl)
        clear hC
        generalize hA : puts [(0, 53), (1, 54), (2, 55), (3, 56), (4, 57), (5, 58), (6, 59), (7, 60), (8, 61), (9, 62), (10, 63), (11, 64), (12, 65), (13, 66), (14, 67), (15, 68), (16, 69), (17, 70), (18, 71), (19, 72), (20, 73)] _ u = A
        have hgv : A.tmps.getD 60 undef = .bool false := by rw [← hA]; exact (puts_get u 7 60 _ _ (by decide) (by decide) (by kernel_rfl)).trans hJ7
        have hgs : 60 < A.tmps.size := by rw [← hA]; exact puts_room u (by kernel_rfl)
        refine wpOp_guard rfl 7 60 false rfl rfl hgs hgv (fun K hK => ?_)
        subst hA
        simp only [puts, List.foldl]
        go_simp
        exact hK _ _ ⟨rfl, rfl, hg, Below.refl _ _⟩
      case ts9 =>
        intro u wx hg hC
        have hJ7 : u 7 = (.bool false) := hC.at 7 (by kernel_rfl)
        have hJ8 : u 8 = (.pointer (some ⟨s.b, 0, none⟩)) := hC.at 8 (by kernel_rfl)
        clear hC
        generalize hA : puts [(0, 53), (1, 54), (2, 55), (3, 56), (4, 57), (5, 58), (6, 59), (7, 60), (8, 61), (9, 62), (10, 63), (11, 64), (12, 65), (13, 66), (14, 67), (15, 68), (16, 69), (17, 70), (18, 71), (19, 72), (20, 73)] _ u = A
        have hgv : A.tmps.getD 60 undef = .bool false := by rw [← hA]; exact (puts_get u 7 60 _ _ (by decide) (by decide) (by kernel_rfl)).trans hJ7
        have hgs : 60 < A.tmps.size := by rw [← hA]; exact puts_room u (by kernel_rfl)
        refine wpOp_guard rfl 7 60 false rfl rfl hgs hgv (fun K hK => ?_)
        subst hA
        simp only [puts, List.foldl]
        go_simp
        refine (K0'.out wx hg).mono ?_
        rintro e w' ⟨rfl, hb'⟩
        exact hK _ _ ⟨rfl, rfl, hg.next hb', hb'⟩
      case ts10 =>
        intro u wx hg hC
        have hJ7 : u 7 = (.bool false) := hC.at 7 (by kernel_rfl)
        clear hC
        generalize hA : puts [(0, 53), (1, 54), (2, 55), (3, 56), (4, 57), (5, 58), (6, 59), (7, 60), (8, 61), (9, 62), (10, 63), (11, 64), (12, 65), (13, 66), (14, 67), (15, 68), (16, 69), (17, 70), (18, 71), (19, 72), (20, 73)] _ u = A
        have hgv : A.tmps.getD 60 undef = .bool false := by rw [← hA]; exact (puts_get u 7 60 _ _ (by decide) (by decide) (by kernel_rfl)).trans hJ7
        have hgs : 60 < A.tmps.size := by rw [← hA]; exact puts_room u (by kernel_rfl)
        refine wpOp_guard rfl 7 60 false rfl rfl hgs hgv (fun K hK => ?_)
        subst hA
        simp only [puts, List.foldl]
        go_simp
        exact hK _ _ ⟨rfl, rfl, hg, Below.refl _ _⟩
      case ts11 =>
        intro u wx hg hC
        have hJ7 : u 7 = (.bool false) := hC.at 7 (by kernel_rfl)
        have hJ10 : u 10 = (.pointer (some ⟨w4.heap.size, 0, none⟩)) := hC.at 10 (by kernel_rfl)
        clear hC
        have hcl : wx.cell? ⟨w4.heap.size, 0, none⟩ = some (.string (str S0)) := (hg.cell (p := ⟨w4.heap.size, 0, none⟩) HGL.out).trans CS0.out
        generalize hA : puts [(0, 53), (1, 54), (2, 55), (3, 56), (4, 57), (5, 58), (6, 59), (7, 60), (8, 61), (9, 62), (10, 63), (11, 64), (12, 65), (13, 66), (14, 67), (15, 68), (16, 69), (17, 70), (18, 71), (19, 72), (20, 73)] _ u = A
        have hgv : A.tmps.getD 60 undef = .bool false := by rw [← hA]; exact (puts_get u 7 60 _ _ (by decide) (by decide) (by kernel_rfl)).trans hJ7
        have hgs : 60 < A.tmps.size := by rw [← hA]; exact puts_room u (by kernel_rfl)
        refine wpOp_guard rfl 7 60 false rfl rfl hgs hgv (fun K hK => ?_)
        subst hA
        simp only [puts, List.foldl]
        go_simp
        exact hK _ _ ⟨rfl, rfl, hg, Below.refl _ _⟩
      case ts12 =>
        intro u wx hg hC
        have hJ7 : u 7 = (.bool false) := hC.at 7 (by kernel_rfl)
        have hJ9 : u 9 = (.string (str S0)) := hC.at 9 (by kernel_rfl)
        have hJ11 : u 11 = (.string (str S0)) := hC.at 11 (by kernel_rfl)
        clear hC
        generalize hA : puts [(0, 53), (1, 54), (2, 55), (3, 56), (4, 57), (5, 58), (6, 59), (7, 60), (8, 61), (9, 62), (10, 63), (11, 64), (12, 65), (13, 66), (14, 67), (15, 68), (16, 69), (17, 70), (18, 71), (19, 72), (20, 73)] _ u = A
        have hgv : A.tmps.getD 60 undef = .bool false := by rw [← hA]; exact (puts_get u 7 60 _ _ (by decide) (by decide) (by kernel_rfl)).trans hJ7
        have hgs : 60 < A.tmps.size := by rw [← hA]; exact puts_room u (by kernel_rfl)
        refine wpOp_guard rfl 7 60 false rfl rfl hgs hgv (fun K hK => ?_)
        subst hA
        simp only [puts, List.foldl]
        go_simp
        exact hK _ _ ⟨rfl, rfl, hg, Below.refl _ _⟩
      case ts13 =>
        intro u wx hg hC
        have hJ7 : u 7 = (.bool false) := hC.at 7 (by kernel_rfl)
        have hJ12 : u 12 = (.bool false) := hC.at 12 (by kernel_rfl)
        clear hC
        refine wpOp_step rfl (fun K hK => ?_)
        simp only [puts, List.foldl]
        go_simp
        exact hK _ _ ⟨rfl, rfl, hg, Below.refl _ _⟩
      case ts14 =>
        intro u wx hg hC
        have hJ13 : u 13 = (.bool false) := hC.at 13 (by kernel_rfl)
        clear hC
        refine wpOp_step rfl (fun K hK => ?_)
        simp only [puts, List.foldl]
        go_simp
        exact hK _ _ ⟨rfl, rfl, hg, Below.refl _ _⟩
      case ts15 =>
        intro u wx hg hC
        have hJ14 : u 14 = (.bool false) := hC.at 14 (by kernel_rfl)
        clear hC
        generalize hA : puts [(0, 53), (1, 54), (2, 55), (3, 56), (4, 57), (5, 58), (6, 59), (7, 60), (8, 61), (9, 62), (10, 63), (11, 64), (12, 65), (13, 66), (14, 67), (15, 68), (16, 69), (17, 70), (18, 71), (19, 72), (20, 73)] _ u = A
        have hgv : A.tmps.getD 67 undef = .bool false := by rw [← hA]; exact (puts_get u 14 67 _ _ (by decide) (by decide) (by kernel_rfl)).trans hJ14
        have hgs : 67 < A.tmps.size := by rw [← hA]; exact puts_room u (by kernel_rfl)
        refine wpOp_guard rfl 14 67 false rfl rfl hgs hgv (fun K hK => ?_)
        subst hA
        simp only [puts, List.foldl]
        go_simp
        exact hK _ _ ⟨rfl, rfl, hg, Below.refl _ _⟩
      case ts16 =>
        intro u wx hg hC
        have hJ14 : u 14 = (.bool false) := hC.at 14 (by kernel_rfl)
        have hJ15 : u 15 = (.pointer (some ⟨s.b, 0, none⟩)) := hC.at 15 (by kernel_rfl)
        clear hC
        generalize hA : puts [(0, 53), (1, 54), (2, 55), (3, 56), (4, 57), (5, 58), (6, 59), (7, 60), (8, 61), (9, 62), (10, 63), (11, 64), (12, 65), (13, 66), (14, 67), (15, 68), (16, 69), (17, 70), (18, 71), (19, 72), (20, 73)] _ u = A
        have hgv : A.tmps.getD 67 undef = .bool false := by rw [← hA]; exact (puts_get u 14 67 _ _ (by decide) (by decide) (by kernel_rfl)).trans hJ14
        have hgs : 67 < A.tmps.size := by rw [← hA]; exact puts_room u (by kernel_rfl)
        refine wpOp_guard rfl 14 67 false rfl rfl hgs hgv (fun K hK => ?_)
        subst hA
        simp only [puts, List.foldl]
        go_simp
        refine (K2'.out wx hg).mono ?_
        rintro e w' ⟨rfl, hb'⟩
        exact hK _ _ ⟨rfl, rfl, hg.next hb', hb'⟩
      case ts17 =>
        intro u wx hg hC
        have hJ14 : u 14 = (.bool false) := hC.at 14 (by kernel_rfl)
        clear hC
        generalize hA : puts [(0, 53), (1, 54), (2, 55), (3, 56), (4, 57), (5, 58), (6, 59), (7, 60), (8, 61), (9, 62), (10, 63), (11, 64), (12, 65), (13, 66), (14, 67), (15, 68), (16, 69), (17, 70), (18, 71), (19, 72), (20, 73)] _ u = A
        have hgv : A.tmps.getD 67 undef = .bool false := by rw [← hA]; exact (puts_get u 14 67 _ _ (by decide) (by decide) (by kernel_rfl)).trans hJ14
        have hgs : 67 < A.tmps.size := by rw [← hA]; exact puts_room u (by kernel_rfl)
        refine wpOp_guard rfl 14 67 false rfl rfl hgs hgv (fun K hK => ?_)
        subst hA
        simp only [puts, List.foldl]
        go_simp
        exact hK _ _ ⟨rfl, rfl, hg, Below.refl _ _⟩
      case ts18 =>
        intro u wx hg hC
        have hJ14 : u 14 = (.bool false) := hC.at 14 (by kernel_rfl)
        have hJ17 : u 17 = (.pointer (some ⟨w4.heap.size, 2, none⟩)) := hC.at 17 (by kernel_rfl)
        clear hC
        have hcl : wx.cell? ⟨w4.heap.size, 2, none⟩ = some (.string (str S2)) := (hg.cell (p := ⟨w4.heap.size, 2, none⟩) HGL.out).trans CS2.out
        generalize hA : puts [(0, 53), (1, 54), (2, 55), (3, 56), (4, 57), (5, 58), (6, 59), (7, 60), (8, 61), (9, 62), (10, 63), (11, 64), (12, 65), (13, 66), (14, 67), (15, 68), (16, 69), (17, 70), (18, 71), (19, 72), (20, 73)] _ u = A
        have hgv : A.tmps.getD 67 undef = .bool false := by rw [← hA]; exact (puts_get u 14 67 _ _ (by decide) (by decide) (by kernel_rfl)).trans hJ14
        have hgs : 67 < A.tmps.size := by rw [← hA]; exact puts_room u (by kernel_rfl)
        refine wpOp_guard rfl 14 67 false rfl rfl hgs hgv (fun K hK => ?_)
        subst hA
        simp only [puts, List.foldl]
        go_simp
        exact hK _ _ ⟨rfl, rfl, hg, Below.refl _ _⟩
      case ts19 =>
        intro u wx hg hC
        have hJ14 : u 14 = (.bool false) := hC.at 14 (by kernel_rfl)
        have hJ16 : u 16 = (.string (str S2)) := hC.at 16 (by kernel_rfl)
        have hJ18 : u 18 = (.string (str S2)) := hC.at 18 (by kernel_rfl)
        clear hC
        generalize hA : puts [(0, 53), (1, 54), (2, 55), (3, 56), (4, 57), (5, 58), (6, 59), (7, 60), (8, 61), (9, 62), (10, 63), (11, 64), (12, 65), (13, 66), (14, 67), (15, 68), (16, 69), (17, 70), (18, 71), (19, 72), (20, 73)] _ u = A
        have hgv : A.tmps.getD 67 undef = .bool false := by rw [← hA]; exact (puts_get u 14 67 _ _ (by decide) (by decide) (by kernel_rfl)).trans hJ14
        have hgs : 67 < A.tmps.size := by rw [← hA]; exact puts_room u (by kernel_rfl)
        refine wpOp_guard rfl 14 67 false rfl rfl hgs hgv (fun K hK => ?_)
        subst hA
        simp only [puts, List.foldl]
        go_simp
        exact hK _ _ ⟨rfl, rfl, hg, Below.refl _ _⟩
      case ts20 =>
        intro u wx hg hC
        have hJ14 : u 14 = (.bool false) := hC.at 14 (by kernel_rfl)
        have hJ19 : u 19 = (.bool false) := hC.at 19 (by kernel_rfl)
        clear hC
        refine wpOp_step rfl (fun K hK => ?_)
        simp only [puts, List.foldl]
        go_simp
        exact hK _ _ ⟨rfl, rfl, hg, Below.refl _ _⟩
    case fint =>
      intro u wx hg hφ
      have h20 : u 20 = .bool false := hφ (20, 73) (by decide)
      clear hφ
      simp only [puts, List.foldl]
      go_simp
      have E9 := Lib.hid (E8.out.step hg)
      have RS9 := Lib.hid (RS8.out.step hg)
      have B9 := Lib.hid (B8.out.next hg)
      clear hg h20
      go_wp2_with (go_at_call 12; (with_reducible refine (K1.out s wx E9.out).mono ?_); rintro e u1 ⟨rfl, rfl⟩)
      have hS1 : S1.length = 64 := HS64.out
      have hN1 : N1.length = 64 := HN64.out
      go_loopw [11] (fun v wr => ∃ W pos, wr = World.iter W (str N1) pos ∧ W.heap.size = wx.heap.size ∧ Below wx.heap.size wx W) (fun v wr => (str N1).size - wr.iterPos wx.heap.size)
      case atStart => exact ⟨wx, 0, rfl, rfl, Below.refl _ _⟩
      case round =>
        obtain ⟨W, pos, rfl, hW, hb⟩ := hrel
        by_cases hp : pos < 64
        · have hp1 : pos < (str S1).size := by rw [str_size]; omega
          have hp2 : pos < (str N1).size := by rw [str_size]; omega
          have hwd := width_pos (str N1) pos hp2
          obtain ⟨wd, hwd2⟩ : ∃ x, (Utf8.decode (str N1) pos).2 = x := ⟨_, rfl⟩
          obtain ⟨rn, hrn⟩ : ∃ x, (Utf8.decode (str N1) pos).1 = x := ⟨_, rfl⟩
          rw [hwd2] at hwd
          have hnx : ∀ ty, (Instr.next (.pointer (some ⟨wx.heap.size, 0, none⟩)) true ty).run Try.prog (W.iter (str N1) pos) = .ok (.tuple #[.bool true, .int .i64 (pos : Int), .int .i32 (rn : Int)]) (W.iter (str N1) (pos + wd)) := fun ty => by
            rw [← hW, ← hrn, ← hwd2]; exact run_next_any W (str N1) pos ty hp2
          have hcs : (W.iter (str N1) (pos + wd)).cell? ⟨w4.heap.size, 1, none⟩ = some (.string (str S1)) := ((RS9.out.step hb).alloc _).cell 1
          have hsub := HSUB.out pos hp
          rw [← str_getD S1 pos hp1, ← str_getD N1 pos hp2] at hsub
          obtain ⟨x, hx⟩ : ∃ x, (str S1)[pos] = x := ⟨_, rfl⟩
          obtain ⟨y, hy⟩ : ∃ y, (str N1)[pos] = y := ⟨_, rfl⟩
          rw [hx, hy] at hsub
          have i1 : (pos : Int) < (str S1).size := by omega
          have i2 : (pos : Int) < (str N1).size := by omega
          have HB := Lib.hid hb
          have HWS := Lib.hid hW
          have HWD := Lib.hid hwd
          have HP2 := Lib.hid hp2
          have HIT : Hid (∀ (W' : World) p, W'.heap.size = wx.heap.size → (W'.iter (str N1) p).iterPos wx.heap.size = p) := Lib.hid fun W' p h => by rw [← h]; exact World.iterPos_iter _ _ _
          clear hwd2 hrn hb hW hwd
          have hs : Sub y x ∧ ((pos < 16 ∨ 32 ≤ pos) → x = y) := by simpa using hsub
          have hz := hs.1.andNot
          rcases Nat.lt_or_ge pos 16 with hlo | hlo
          · have hxy := hs.2 (Or.inl hlo)
            subst hxy
            have j1 : (pos : Int) < 16 := by omega
            clear hsub hs
            go_wp2
            go_quiet (fail)
            go_wp2
            go_roundw
            case rel => exact ⟨_, _, iter_drewN _ _ _ _, HWS.out, HB.out.drewN _⟩
            case measure =>
              have h1 := HWD.out
              have h2 := HP2.out
              rw [iter_drewN, HIT.out (World.drewN W _) _ HWS.out, HIT.out W _ HWS.out]
              omega
          · rcases Nat.lt_or_ge pos 32 with hhi | hhi
            · have j1 : ¬ (pos : Int) < 16 := by omega
              have j2 : ¬ (32 : Int) ≤ pos := by omega
              clear hsub hs
              go_wp2
              go_quiet (fail)
              go_wp2
              go_roundw
              case rel => exact ⟨_, _, iter_drewN _ _ _ _, HWS.out, HB.out.drewN _⟩
              case measure =>
                have h1 := HWD.out
                have h2 := HP2.out
                rw [iter_drewN, HIT.out (World.drewN W _) _ HWS.out, HIT.out W _ HWS.out]
                omega
            · have hxy := hs.2 (Or.inr hhi)
              subst hxy
              have j1 : ¬ (pos : Int) < 16 := by omega
              have j2 : (32 : Int) ≤ pos := by omega
              clear hsub hs
              go_wp2
              go_quiet (fail)
              go_wp2
              go_roundw
              case rel => exact ⟨_, _, iter_drewN _ _ _ _, HWS.out, HB.out.drewN _⟩
              case measure =>
                have h1 := HWD.out
                have h2 := HP2.out
                rw [iter_drewN, HIT.out (World.drewN W _) _ HWS.out, HIT.out W _ HWS.out]
                omega
        · have hp2 : ¬ pos < (str N1).size := by rw [str_size]; omega
          have hnx : ∀ ty, (Instr.next (.pointer (some ⟨wx.heap.size, 0, none⟩)) true ty).run Try.prog (W.iter (str N1) pos) = .ok (.tuple #[.bool false]) (W.iter (str N1) pos) := fun ty => by rw [← hW]; exact run_next_end W (str N1) pos ty hp2
          have HB := Lib.hid hb
          clear hb hW
          go_wp2
          go_ret
          exact ⟨rfl, (B9.out.next HB.out).alloc (B9.out.next HB.out).size _⟩
end Go.Proofs.Ytgdfcfbccjdecaa
