/- FlashWears' walk. (gen_fla_wears.py) -/
import Derived.Test.YtgdfcfbccjdecaaFlaT
namespace Go.Proofs.Ytgdfcfbccjdecaa
open Go.RowKit FlaMath
set_option linter.unusedVariables false
set_option maxRecDepth 100000

theorem freads_ints {w : World} {by_ : Nat} {a : Option Addr} {cap : Nat} {l : List Int} (h : Open.Reads w (.sl by_ (.int .i64)) [.slice a l.length cap] l) : Lies w w.heap.size a (ints l) ∧ l.length ≤ 9223372036854775807 := by
  obtain ⟨a', cap', e, h1, h2, h3, h4⟩ := h
  have ea : a = a' := by simp only [List.cons.injEq, Value.slice.injEq] at e; exact e.1.1
  subst ea
  refine ⟨fun hp => ?_, Nat.le_trans h1 h3⟩
  obtain ⟨b, off, e1, e2, e3⟩ := h4 (by rw [ints_length] at hp; exact hp)
  refine ⟨b, off, e1, e2, fun j u hj => ?_⟩
  have hjl : j < l.length := by have := (List.getElem?_eq_some_iff.1 hj).1; rwa [ints_length] at this
  obtain ⟨cs', l1, l2, l3⟩ := e3 j hjl
  have h5 := l2 0 (by decide)
  rw [l3.1] at h5
  rw [ints_get l j hjl] at hj
  rw [← hj, ← show off + (j * Open.Ty.size (.int .i64) + 0) = off + j from by show off + (j * 1 + 0) = off + j; omega]
  exact h5
theorem conv_laid (os : ByteArray) (w : World) (s : Sh) (D : Dv) (h : Dev w s D) : ∃ wx c, (convert 9 48 (.string os)).run Try.prog w = .ok (.slice (some ⟨w.heap.size, 0, none⟩) os.size c) wx ∧ Below w.heap.size w wx ∧ OffS wx s.S (some ⟨w.heap.size, 0, none⟩) (bytes os.data.toList) := by
  have hrun := run_bytes_of_string (P := Try.prog) w 9 48 5 os Try.underlying9 Try.underlying48 Try.underlying5
  have hb0 : Below w.heap.size w w.drew := (Below.refl _ _).drew
  have hB := Bytes.new os (grownCap w os.size 0 5) w.drew 5
  refine ⟨_, _, hrun, hb0.alloc (Nat.le_refl _) _, fun hp => ⟨_, _, rfl, hB.lt, not_mem_new h (Nat.le_refl _), fun j u hj => ?_⟩⟩
  have hjl : j < os.data.toList.length := by have := (List.getElem?_eq_some_iff.1 hj).1; rwa [bytes_length] at this
  rw [bytes_get _ j hjl] at hj
  rw [Nat.zero_add, ← hj]
  exact hB.cell j hjl
theorem wrap64_wrap64 (x : Int) : wrap64 (wrap64 x) = wrap64 x := by unfold wrap64; omega
/-- What FlashWears holds of the device. -/
structure Wrn (n : Nat) (E : List Int) (D : Dv) : Prop where
  len : D.L.length = n
  e : D.E = E
def Rng (E : List Int) : Prop := ∀ i, wrap64 (E.getD i 0) = E.getD i 0
theorem Rng.set {E : List Int} (h : Rng E) (j : Nat) (x : Int) : Rng (E.set j (wrap64 x)) := by
  intro i
  rw [List.getD_eq_getElem?_getD, List.getElem?_set]
  split
  · split
    · exact wrap64_wrap64 x
    · show wrap64 0 = 0
      unfold wrap64; omega
  · have := h i
    rwa [List.getD_eq_getElem?_getD] at this
theorem rng0 (n : Nat) : Rng (List.replicate n 0) := by
  intro i
  have e : (List.replicate n (0 : Int)).getD i 0 = 0 := by
    rw [List.getD_eq_getElem?_getD, List.getElem?_replicate]
    split <;> rfl
  rw [e]; unfold wrap64; omega
theorem eraseD_no (D : Dv) (i : Int) (h : eraseB D i = false) : eraseD D i = D := by rw [eraseD, h]; rfl
theorem eraseD_E (D : Dv) (j : Nat) (h : eraseB D (j : Int) = true) : (eraseD D (j : Int)).E = D.E.set j (wrap64 (D.E.getD j 0 + 1)) := by
  rw [eraseD, if_pos h, workD_E, Int.toNat_natCast]; rfl
theorem lock_E (D : Dv) (x y : Int) : (D.lock x y).E = D.E ∧ (D.lock x y).L.length = D.L.length := by
  unfold Dv.lock
  split
  · exact ⟨rfl, rfl⟩
  · exact ⟨rfl, lockF_length _ _ _⟩
theorem rot_E (D : Dv) (x : Int) (l : List UInt8) : (D.rot x l).E = D.E ∧ (D.rot x l).L = D.L := by
  unfold Dv.rot
  split <;> exact ⟨rfl, rfl⟩
/-- Which way an erase went. -/
inductive Went (D : Dv) (i : Int) : Prop
  | done (j : Nat) (hj : i = j) (hl : j < D.L.length) (hb : eraseB D i = true) (he : eraseE D i = 0) (hd : D.dn = false)
  | torn (j : Nat) (hj : i = j) (hl : j < D.L.length) (hb : eraseB D i = true) (he : eraseE D i = 5) (hd : D.dn = false)
  | down (hb : eraseB D i = false) (he : eraseE D i = 5) (hd : D.dn = true)
  | out (hb : eraseB D i = false) (he : eraseE D i = 2)
  | lock (hb : eraseB D i = false) (he : eraseE D i = 4)
theorem went (D : Dv) (i : Int) : Went D i := by
  cases hd : D.dn with
  | true => exact .down (by simp [eraseB, hd]) (by simp [eraseE, hd]) hd
  | false =>
    by_cases hi : 0 ≤ i ∧ i < D.L.length
    · cases hl : D.L.getD i.toNat false with
      | true => exact .lock (by rw [eraseB, hl]; simp) (by rw [eraseE, hd, if_pos hi, hl]; rfl)
      | false =>
        have hB : eraseB D i = true := by rw [eraseB, hd, hl, decide_eq_true hi]; rfl
        have hE : eraseE D i = idl (burnB D) := by rw [eraseE, hd, if_pos hi, hl]; rfl
        cases hb : burnB D with
        | true => exact .torn i.toNat (by omega) (by omega) hB (by rw [hE, hb]; rfl) hd
        | false => exact .done i.toNat (by omega) (by omega) hB (by rw [hE, hb]; rfl) hd
    · exact .out (by rw [eraseB, decide_eq_false hi]; simp) (by rw [eraseE, hd, if_neg hi]; rfl)

set_option maxHeartbeats 4000000 in
theorem flashWears_walk (q : Nat) (a : Option Addr) (cap : Nat) (L : List OpV) (a2 : Option Addr) (cap2 : Nat) (ask : List Int) (w : World) (hq : q < 256) (h : OpsAt w a L) (hL : L.length ≤ 9223372036854775807) (hI : ∀ o ∈ L, o.In) (h2 : Lies w w.heap.size a2 (ints ask)) (hL2 : ask.length ≤ 9223372036854775807) :
    Calls Try.prog 5 #[.int .u8 (q : Int), .slice a L.length cap, .slice a2 ask.length cap2] w fun e w' => e = .returned (.bool true) ∧ Below w.heap.size w w' := by
  have HA := Lib.hid (flash_awake w)
  have HG : Hid (∀ w1, Below w.heap.size w w1 → Calls Try.prog 8 #[.slice a L.length cap] w1 fun e w' => e = .returned (.bool (gr L)) ∧ Below w1.heap.size w1 w') := Lib.hid fun w1 hb => fla_great_any a cap L w1 (h.step hb) hL hI
  obtain ⟨M, hM⟩ : ∃ M, ask.length = M := ⟨_, rfl⟩
  rw [hM] at hL2 ⊢
  have HM := Lib.hid hM
  clear hM
  cases hG : gr L with
  | true =>
    rw [hG] at HG
    clear h h2 hI hG
    go_enter Try.func5, Try.ntmps5
    go_wp2_with (first
      | (go_at_call 7; (with_reducible refine HA.out.mono ?_); rintro e w1 ⟨rfl, b1⟩; have B1 := Lib.hid b1; clear b1)
      | (go_at_call 8; (with_reducible refine (HG.out w1 B1.out).mono ?_); rintro e w2 ⟨rfl, b2⟩; have B2 := Lib.hid (B1.out.next b2); clear b2))
    go_ret
    exact ⟨rfl, B2.out⟩
  | false =>
    rw [hG] at HG
    by_cases hM60 : 60 < M
    · have e60 : (60 : Int) < M := by omega
      clear h h2 hI hG
      go_enter Try.func5, Try.ntmps5
      go_wp2_with (first
        | (go_at_call 7; (with_reducible refine HA.out.mono ?_); rintro e w1 ⟨rfl, b1⟩; have B1 := Lib.hid b1; clear b1)
        | (go_at_call 8; (with_reducible refine (HG.out w1 B1.out).mono ?_); rintro e w2 ⟨rfl, b2⟩; have B2 := Lib.hid (B1.out.next b2); clear b2))
      go_ret
      exact ⟨rfl, B2.out⟩
    · have e60 : (M : Int) ≤ 60 := by omega
      have e61 : ¬ (60 : Int) < M := by omega
      have hlen : L.length ≤ 150 := by
        rw [gr, Bool.or_eq_false_iff] at hG
        have := of_decide_eq_false hG.1
        omega
      have HOA := Lib.hid h
      have HIN := Lib.hid hI
      have HAS := Lib.hid h2
      obtain ⟨N, hN⟩ : ∃ N, L.length = N := ⟨_, rfl⟩
      rw [hN] at HG hlen ⊢
      have HNL := Lib.hid hN
      obtain ⟨n, hn⟩ : ∃ n, 1 + q % 12 = n := ⟨_, rfl⟩
      have hn1 : 1 ≤ n := by omega
      have hn2 : n ≤ 12 := by omega
      obtain ⟨r12, hr12⟩ : ∃ r, q % 12 = r := ⟨_, rfl⟩
      have HM1 : Hid ((wrap64 (q : Int)).tmod 12 = (r12 : Int)) := Lib.hid (by
        have e : wrap64 (q : Int) = q := by unfold wrap64; omega
        rw [e, Int.tmod_eq_emod_of_nonneg (by omega)]; omega)
      have HM2 : Hid (wrap64 (1 + (r12 : Int)) = n) := Lib.hid (by unfold wrap64; omega)
      have HNW : Hid (∀ w1, Calls Try.prog 9 #[.int .i64 (n : Int)] w1 fun e w' => ∃ s : Sh, e = .returned (.tuple #[.pointer (some ⟨s.b, 0, none⟩), .int .i64 0]) ∧ Dev w' s (D0 n) ∧ (∀ k ∈ s.S, w1.heap.size ≤ k) ∧ Below w1.heap.size w1 w') := Lib.hid fun w1 => flnew_any n w1 hn1 (by omega)
      have HWN : Hid (Wrn n (List.replicate n 0) (D0 n)) := Lib.hid ⟨by simp [D0], rfl⟩
      have HZI : Hid (∀ n : Nat, List.replicate n (Value.int .i64 0) = ints (List.replicate n 0)) := Lib.hid fun n => by simp [ints]
      obtain ⟨Z, hZ⟩ : ∃ Z, op0 = Z := ⟨_, rfl⟩
      have HZ : Hid (∀ u, (zeroValue 36).run Try.prog u = .ok (.agg Z.toArray) u) := Lib.hid (by rw [← hZ]; exact zero_op)
      have HZL : Hid (Z.length = 6) := Lib.hid (by rw [← hZ]; rfl)
      have HN12 : Hid (1 ≤ n ∧ n ≤ 12) := Lib.hid ⟨hn1, hn2⟩
      have HN1T : Hid (n ≤ 1099511627776) := Lib.hid (by omega)
      have m1 := HM1.out
      have m2 := HM2.out
      have m12 : (n : Int) ≤ 12 := by omega
      have m13 : 1 ≤ (n : Int) := by omega
      have m14 : (N : Int) ≤ 150 := by omega
      clear hr12 h h2 hI hG hn hq hZ hN hL hL2 hlen hn1 hn2 hM60
      go_enter Try.func5, Try.ntmps5
      go_wp2_with (first
        | (go_at_call 7; (with_reducible refine HA.out.mono ?_); rintro e w1 ⟨rfl, b1⟩; have B1 := Lib.hid b1; clear b1)
        | (go_at_call 8; (with_reducible refine (HG.out w1 B1.out).mono ?_); rintro e w2 ⟨rfl, b2⟩; have B2 := Lib.hid (B1.out.next b2); clear b2)
        | (go_at_call 9; (with_reducible refine (HNW.out w2).mono ?_); rintro e w3 ⟨s, rfl, d3, n3, b3⟩; have E3 := Lib.hid d3; have N3 : Hid (∀ k ∈ s.S, w.heap.size ≤ k) := Lib.hid (fun k hk => Nat.le_trans B2.out.size (n3 k hk)); have B3 := Lib.hid (B2.out.next b3); clear d3 b3 n3)
        | ((with_reducible refine wpMakeK 47 3 (.int .i64 0) n n Try.underlying47 fmk_int (int_cells _ _) (Nat.le_refl _) HN1T.out ?_ ?_); rfl; intro w4 r4 b4 s4; have E4 := Lib.hid (E3.out.step b4); have RW4 : Hid (Row w4 w3.heap.size 3 (ints (List.replicate n 0))) := Lib.hid (by rw [← HZI.out]; exact r4); have HGS : Hid (w3.heap.size ∉ s.S) := Lib.hid (fun hm => by have := E3.out.lt _ hm; omega); have HGW := Lib.hid B3.out.size; have B4 := Lib.hid (B3.out.next b4); clear r4 b4 s4))
      have hgs := HGS.out
      have hgw := HGW.out
      have hrw := RW4.out
      clear HGS HGW RW4 m1 m2
      generalize w3.heap.size = g at *
      have HGS := Lib.hid hgs
      have HGW := Lib.hid hgw
      have RW4 := Lib.hid hrw
      clear hgs hgw hrw
      go_loopw [44] (fun x wr => ∃ k : Nat, k ≤ N ∧ x = .int .i64 k ∧ (∃ D E, Dev wr s D ∧ Wrn n E D ∧ Rng E ∧ Row wr g 3 (ints E)) ∧ Below w.heap.size w wr) (fun x _ => N - (intOf x).toNat)
      case atStart => exact ⟨0, Nat.zero_le _, rfl, ⟨_, _, E4.out, HWN.out, rng0 n, RW4.out⟩, B4.out⟩
      case round =>
        clear E3 E4 RW4 B1 B2 B3 B4 HWN HNW HA HG
        obtain ⟨k, hk, rfl, ⟨D, E, hd, hwr, hrg, hrw⟩, hbl⟩ := hrel
        by_cases hlt : k < N
        · have hkL : k < L.length := by rw [HNL.out]; exact hlt
          obtain ⟨bl, off, rfl, _, hc⟩ := HOA.out.step hbl (by omega)
          obtain ⟨o, ho⟩ : ∃ o, L[k] = o := ⟨_, rfl⟩
          have hIn : o.In := by rw [← ho]; exact HIN.out _ (List.getElem_mem hkL)
          have RY := Lib.hid (hc k hkL)
          rw [ho] at RY
          have e1 : (k : Int) < N := by omega
          have E0 := Lib.hid hd
          have WR := Lib.hid hwr
          have RG := Lib.hid hrg
          have RW := Lib.hid hrw
          have BL := Lib.hid hbl
          clear hc ho hkL hd hwr hbl hrg hrw
          obtain ⟨ok, oa, on, os, ofb, ofm⟩ := o
          have ha2 : oa < 9223372036854775808 := hIn.ha.2
          have hs2 : os.size ≤ 140737488351232 := hIn.hs
          clear hIn
          obtain ⟨Y, hY⟩ : ∃ Y, opL ⟨ok, oa, on, os, ofb, ofm⟩ = Y := ⟨_, rfl⟩
          have HY0 : Hid (Y[0]? = some (.int .i64 ok)) := Lib.hid (by rw [← hY]; rfl)
          have HYa : Hid (Y[1]? = some (.int .i64 oa)) := Lib.hid (by rw [← hY]; rfl)
          have HYn : Hid (Y[2]? = some (.int .i64 on)) := Lib.hid (by rw [← hY]; rfl)
          have HYs : Hid (Y[3]? = some (.string os)) := Lib.hid (by rw [← hY]; rfl)
          have HYT : Hid (Y = [.int .i64 ok, .int .i64 oa, .int .i64 on, .string os] ++ [.int .i64 ofb, .int .u8 (ofm.toNat : Int)] ++ []) := Lib.hid (by rw [← hY]; rfl)
          have HYL : Hid (Y.length = 6) := Lib.hid (by rw [← hY]; rfl)
          have HY1 : Hid (Y.all (·.oneCell') = true) := Lib.hid (by rw [← hY]; rfl)
          have HX4 : Hid (([.int .i64 ok, .int .i64 oa, .int .i64 on, .string os] : List Value).length = 4) := Lib.hid rfl
          have HT2 : Hid (([.int .i64 ofb, .int .u8 (ofm.toNat : Int)] : List Value).length = 2) := Lib.hid rfl
          rw [hY] at RY
          have HDN : Hid (∀ w2, Dev w2 s D → Calls Try.prog 19 #[.pointer (some ⟨s.b, 0, none⟩)] w2 fun e w' => e = .returned (.bool D.dn) ∧ w2 = w') := Lib.hid fun w2 h2 => down_any s D w2 h2
          have HER : Hid (∀ w2, Dev w2 s D → Calls Try.prog 15 #[.pointer (some ⟨s.b, 0, none⟩), .int .i64 oa] w2 fun e w' => e = .returned (.int .i64 (eraseE D oa)) ∧ Dev w' s (eraseD D oa) ∧ Onl s.S w2 w') := Lib.hid fun w2 h2 => fla_erase_any s D oa w2 h2
          have HPR : Hid (∀ w2, Dev w2 s D → Calls Try.prog 10 #[.pointer (some ⟨s.b, 0, none⟩), .int .i64 oa, .string os] w2 fun e w' => (∃ x, e = .returned (.int .i64 x)) ∧ (∃ D', Dev w' s D' ∧ Wrn n E D') ∧ Onl s.S w2 w') := Lib.hid fun w2 h2 => by
            refine (program_any s D oa os w2 h2 ha2 (by omega)).mono ?_
            rintro e w' ⟨rfl, h3, h4⟩
            exact ⟨⟨_, rfl⟩, ⟨_, h3, ⟨by rw [programD_L]; exact WR.out.len, by rw [programD_E]; exact WR.out.e⟩⟩, h4⟩
          have HLO : Hid (∀ w2, Dev w2 s D → Calls Try.prog 13 #[.pointer (some ⟨s.b, 0, none⟩), .int .i64 oa, .int .i64 on] w2 fun e w' => (∃ x, e = .returned (.int .i64 x)) ∧ (∃ D', Dev w' s D' ∧ Wrn n E D') ∧ Onl s.S w2 w') := Lib.hid fun w2 h2 => by
            refine (lock_any s D oa on w2 h2).mono ?_
            rintro e w' ⟨rfl, h3, h4⟩
            have hq := lock_E D oa on
            exact ⟨⟨_, rfl⟩, ⟨_, h3, ⟨by rw [hq.2]; exact WR.out.len, by rw [hq.1]; exact WR.out.e⟩⟩, h4⟩
          have HFU : Hid (∀ w2, Dev w2 s D → Calls Try.prog 16 #[.pointer (some ⟨s.b, 0, none⟩), .int .i64 on, .agg ([.int .i64 ofb, .int .u8 (ofm.toNat : Int)] : List Value).toArray] w2 fun e w' => e = .returned (.tuple #[]) ∧ (∃ D', Dev w' s D' ∧ Wrn n E D') ∧ Onl s.S w2 w') := Lib.hid fun w2 h2 => by
            refine (fuse_any s D on ofb ofm w2 h2).mono ?_
            rintro e w' ⟨rfl, h3, h4⟩
            exact ⟨rfl, ⟨_, h3, ⟨WR.out.len, WR.out.e⟩⟩, h4⟩
          have HPO : Hid (∀ w2, Dev w2 s D → Calls Try.prog 17 #[.pointer (some ⟨s.b, 0, none⟩)] w2 fun e w' => e = .returned (.tuple #[]) ∧ (∃ D', Dev w' s D' ∧ Wrn n E D') ∧ Onl s.S w2 w') := Lib.hid fun w2 h2 => by
            refine (poweron_any s D w2 h2).mono ?_
            rintro e w' ⟨rfl, h3, h4⟩
            exact ⟨rfl, ⟨_, h3, ⟨WR.out.len, WR.out.e⟩⟩, h4⟩
          have HRO : Hid (∀ w2 p c, Dev w2 s D → OffS w2 s.S p (bytes os.data.toList) → Calls Try.prog 20 #[.pointer (some ⟨s.b, 0, none⟩), .int .i64 oa, .slice p os.size c] w2 fun e w' => (∃ x, e = .returned (.int .i64 x)) ∧ (∃ D', Dev w' s D' ∧ Wrn n E D') ∧ Onl s.S w2 w') := Lib.hid fun w2 p c h2 h5 => by
            have := fla_rot_any s D oa p c os.data.toList w2 h2 ha2 h5
            rw [size_list] at this
            refine this.mono ?_
            rintro e w' ⟨rfl, h3, h4⟩
            have hq := rot_E D oa os.data.toList
            exact ⟨⟨_, rfl⟩, ⟨_, h3, ⟨by rw [hq.2]; exact WR.out.len, by rw [hq.1]; exact WR.out.e⟩⟩, h4⟩
          have HCO : Hid (∀ w2, Dev w2 s D → Calls Try.prog 23 #[.pointer (some ⟨s.b, 0, none⟩)] w2 fun e w' => ∃ c : Sh, e = .returned (.pointer (some ⟨c.b, 0, none⟩)) ∧ Dev w' c D ∧ (∀ k ∈ c.S, w2.heap.size ≤ k) ∧ Below w2.heap.size w2 w') := Lib.hid fun w2 h2 => copy_any s D w2 h2
          have HCP : Hid (∀ (c : Sh) w2, Dev w2 c D → Calls Try.prog 17 #[.pointer (some ⟨c.b, 0, none⟩)] w2 fun e w' => e = .returned (.tuple #[]) ∧ Dev w' c D.on ∧ Onl c.S w2 w') := Lib.hid fun c w2 h2 => poweron_any c D w2 h2
          have HCE : Hid (∀ (c : Sh) w2, Dev w2 c D.on → Calls Try.prog 15 #[.pointer (some ⟨c.b, 0, none⟩), .int .i64 0] w2 fun e w' => (∃ x, e = .returned (.int .i64 x)) ∧ Onl c.S w2 w') := Lib.hid fun c w2 h2 => by
            refine (fla_erase_any c _ 0 w2 h2).mono ?_
            rintro e w' ⟨rfl, h3, h4⟩
            exact ⟨⟨_, rfl⟩, h4⟩
          clear hY ha2
          by_cases hk1 : ok = 1
          · subst hk1
            rcases went D oa with ⟨j, hj, hl, hb, he, hd⟩ | ⟨j, hj, hl, hb, he, hd⟩ | ⟨hb, he, hd⟩ | ⟨hb, he⟩ | ⟨hb, he⟩
            · rw [he] at HER
              rw [hd] at HDN
              subst hj
              have hED := eraseD_E D j hb
              have HLN : Hid (j < E.length) := Lib.hid (by rw [← WR.out.e, E0.out.ok.worn]; exact hl)
              have HLI : Hid (j < (ints E).length) := Lib.hid (by rw [ints_length]; exact HLN.out)
              obtain ⟨x, hx⟩ : ∃ x, E[j]'HLN.out = x := ⟨_, rfl⟩
              obtain ⟨p, hp⟩ : ∃ p, wrap64 (x + 1) = p := ⟨_, rfl⟩
              have HXC : Hid (∀ w3, Row w3 g 3 (ints E) → w3.cell? ⟨g, j, none⟩ = some (.int .i64 x)) := Lib.hid (fun w3 h3 => by rw [h3.cell, ints_get E j HLN.out, hx])
              have HWE : Hid (Wrn n (E.set j p) (eraseD D (j : Int))) := Lib.hid ⟨by rw [eraseD_L]; exact WR.out.len, by rw [hED, WR.out.e, List.getD_eq_getElem?_getD, List.getElem?_eq_getElem HLN.out, ← hp, ← hx]; rfl⟩
              have HRE : Hid (Rng (E.set j p)) := Lib.hid (by rw [← hp]; exact RG.out.set j _)
              have ej : (j : Int) < n := by have := WR.out.len; omega
              clear hED hx hb he hl hd
              go_wp2_with (first
                | ((with_reducible refine wpLoadAtK RY.out 36 fits_op HYL.out ?_ ?_); rfl)
                | ((with_reducible refine wpAllocK Z 36 HZ.out ?_ ?_); rfl; intro w1 r1 b1 s1; have R1 := Lib.hid r1; have E1 := Lib.hid (E0.out.step b1); have RW1 := Lib.hid (RW.out.step b1); have B1 := Lib.hid (BL.out.next b1); clear r1 b1 s1)
                | ((with_reducible refine R1.out.wpStoreK 36 Y fits_op HZL.out HYL.out HY1.out ?_ ?_); rfl; intro w2 r2 o2 s2; have R2 := Lib.hid r2; have E2 := Lib.hid (E1.out.onl (S := [wr.heap.size]) (Onl.of_only o2 (by simp)) (fun k hk hq => by have := E0.out.lt k hk; simp at hq; omega)); have RW2 := Lib.hid (RW1.out.only o2 (by have := RW.out.lt; omega)); have c0 : w2.cell? ⟨wr.heap.size, 0, none⟩ = some (.int .i64 1) := (r2.cell 0).trans HY0.out; have ca : w2.cell? ⟨wr.heap.size, 1, none⟩ = some (.int .i64 (j : Int)) := (r2.cell 1).trans HYa.out; have cn : w2.cell? ⟨wr.heap.size, 2, none⟩ = some (.int .i64 on) := (r2.cell 2).trans HYn.out; have cs : w2.cell? ⟨wr.heap.size, 3, none⟩ = some (.string os) := (r2.cell 3).trans HYs.out; have RM2 : Hid (Row w2 wr.heap.size 36 ([.int .i64 1, .int .i64 (j : Int), .int .i64 on, .string os] ++ [.int .i64 ofb, .int .u8 (ofm.toNat : Int)] ++ [])) := Lib.hid (by rw [← HYT.out]; exact r2); have B2 := Lib.hid (B1.out.trans (o2.below BL.out.size B1.out.size)); clear r2 o2 s2)
                | (go_at_call 19; (with_reducible refine (HDN.out w2 E2.out).mono ?_); rintro e u1 ⟨rfl, rfl⟩)
                | (go_at_call 15; (with_reducible refine (HER.out w2 E2.out).mono ?_); rintro e w3 ⟨rfl, d3, o3⟩; have E4 := Lib.hid d3; have RW4 := Lib.hid (RW2.out.onl o3 HGS.out); have ca3 : w3.cell? ⟨wr.heap.size, 1, none⟩ = some (.int .i64 (j : Int)) := (cell_onl 1 o3 R2.out.lt (fun hm => by have := E0.out.lt _ hm; omega)).trans ca; have cx := HXC.out w3 RW4.out; have B4 := Lib.hid (B2.out.trans (o3.below N3.out B2.out.size)); clear d3 o3)
                | ((with_reducible refine RW4.out.wpStore1K j 3 (.int .i64 p) finfo_int HLI.out (int_cells _ _) (int_one _ _) ?_ ?_); (simp only [storeOf, Act.eval]; exact congrArg (fun z => some (_, _, Value.int .i64 z)) hp); intro w5 r5 o5 s5; have RW5 : Hid (Row w5 g 3 (ints (E.set j p))) := Lib.hid (by rw [show (ints E).set j (.int .i64 p) = ints (E.set j p) by simp [ints, List.map_set]] at r5; exact r5); have E5 := Lib.hid (E4.out.onl (S := [g]) (Onl.of_only o5 (by simp)) (fun k hk hq => by simp at hq; exact HGS.out (hq ▸ hk))); have B5 := Lib.hid (B4.out.trans (o5.below HGW.out B4.out.size)); clear r5 o5 s5))
              go_roundw
              case rel => exact ⟨k + 1, by omega, by go_num, ⟨_, _, E5.out, HWE.out, HRE.out, RW5.out⟩, B5.out⟩
              case measure => simp [intOf]; omega
            · rw [he] at HER
              rw [hd] at HDN
              subst hj
              have hED := eraseD_E D j hb
              have HLN : Hid (j < E.length) := Lib.hid (by rw [← WR.out.e, E0.out.ok.worn]; exact hl)
              have HLI : Hid (j < (ints E).length) := Lib.hid (by rw [ints_length]; exact HLN.out)
              obtain ⟨x, hx⟩ : ∃ x, E[j]'HLN.out = x := ⟨_, rfl⟩
              obtain ⟨p, hp⟩ : ∃ p, wrap64 (x + 1) = p := ⟨_, rfl⟩
              have HXC : Hid (∀ w3, Row w3 g 3 (ints E) → w3.cell? ⟨g, j, none⟩ = some (.int .i64 x)) := Lib.hid (fun w3 h3 => by rw [h3.cell, ints_get E j HLN.out, hx])
              have HWE : Hid (Wrn n (E.set j p) (eraseD D (j : Int))) := Lib.hid ⟨by rw [eraseD_L]; exact WR.out.len, by rw [hED, WR.out.e, List.getD_eq_getElem?_getD, List.getElem?_eq_getElem HLN.out, ← hp, ← hx]; rfl⟩
              have HRE : Hid (Rng (E.set j p)) := Lib.hid (by rw [← hp]; exact RG.out.set j _)
              have ej : (j : Int) < n := by have := WR.out.len; omega
              clear hED hx hb he hl hd
              go_wp2_with (first
                | ((with_reducible refine wpLoadAtK RY.out 36 fits_op HYL.out ?_ ?_); rfl)
                | ((with_reducible refine wpAllocK Z 36 HZ.out ?_ ?_); rfl; intro w1 r1 b1 s1; have R1 := Lib.hid r1; have E1 := Lib.hid (E0.out.step b1); have RW1 := Lib.hid (RW.out.step b1); have B1 := Lib.hid (BL.out.next b1); clear r1 b1 s1)
                | ((with_reducible refine R1.out.wpStoreK 36 Y fits_op HZL.out HYL.out HY1.out ?_ ?_); rfl; intro w2 r2 o2 s2; have R2 := Lib.hid r2; have E2 := Lib.hid (E1.out.onl (S := [wr.heap.size]) (Onl.of_only o2 (by simp)) (fun k hk hq => by have := E0.out.lt k hk; simp at hq; omega)); have RW2 := Lib.hid (RW1.out.only o2 (by have := RW.out.lt; omega)); have c0 : w2.cell? ⟨wr.heap.size, 0, none⟩ = some (.int .i64 1) := (r2.cell 0).trans HY0.out; have ca : w2.cell? ⟨wr.heap.size, 1, none⟩ = some (.int .i64 (j : Int)) := (r2.cell 1).trans HYa.out; have cn : w2.cell? ⟨wr.heap.size, 2, none⟩ = some (.int .i64 on) := (r2.cell 2).trans HYn.out; have cs : w2.cell? ⟨wr.heap.size, 3, none⟩ = some (.string os) := (r2.cell 3).trans HYs.out; have RM2 : Hid (Row w2 wr.heap.size 36 ([.int .i64 1, .int .i64 (j : Int), .int .i64 on, .string os] ++ [.int .i64 ofb, .int .u8 (ofm.toNat : Int)] ++ [])) := Lib.hid (by rw [← HYT.out]; exact r2); have B2 := Lib.hid (B1.out.trans (o2.below BL.out.size B1.out.size)); clear r2 o2 s2)
                | (go_at_call 19; (with_reducible refine (HDN.out w2 E2.out).mono ?_); rintro e u1 ⟨rfl, rfl⟩)
                | (go_at_call 15; (with_reducible refine (HER.out w2 E2.out).mono ?_); rintro e w3 ⟨rfl, d3, o3⟩; have E4 := Lib.hid d3; have RW4 := Lib.hid (RW2.out.onl o3 HGS.out); have ca3 : w3.cell? ⟨wr.heap.size, 1, none⟩ = some (.int .i64 (j : Int)) := (cell_onl 1 o3 R2.out.lt (fun hm => by have := E0.out.lt _ hm; omega)).trans ca; have cx := HXC.out w3 RW4.out; have B4 := Lib.hid (B2.out.trans (o3.below N3.out B2.out.size)); clear d3 o3)
                | ((with_reducible refine RW4.out.wpStore1K j 3 (.int .i64 p) finfo_int HLI.out (int_cells _ _) (int_one _ _) ?_ ?_); (simp only [storeOf, Act.eval]; exact congrArg (fun z => some (_, _, Value.int .i64 z)) hp); intro w5 r5 o5 s5; have RW5 : Hid (Row w5 g 3 (ints (E.set j p))) := Lib.hid (by rw [show (ints E).set j (.int .i64 p) = ints (E.set j p) by simp [ints, List.map_set]] at r5; exact r5); have E5 := Lib.hid (E4.out.onl (S := [g]) (Onl.of_only o5 (by simp)) (fun k hk hq => by simp at hq; exact HGS.out (hq ▸ hk))); have B5 := Lib.hid (B4.out.trans (o5.below HGW.out B4.out.size)); clear r5 o5 s5))
              go_roundw
              case rel => exact ⟨k + 1, by omega, by go_num, ⟨_, _, E5.out, HWE.out, HRE.out, RW5.out⟩, B5.out⟩
              case measure => simp [intOf]; omega
            · rw [he] at HER
              rw [hd] at HDN
              rw [eraseD_no D oa hb] at HER
              clear hb he hd
              go_wp2_with (first
                | ((with_reducible refine wpLoadAtK RY.out 36 fits_op HYL.out ?_ ?_); rfl)
                | ((with_reducible refine wpAllocK Z 36 HZ.out ?_ ?_); rfl; intro w1 r1 b1 s1; have R1 := Lib.hid r1; have E1 := Lib.hid (E0.out.step b1); have RW1 := Lib.hid (RW.out.step b1); have B1 := Lib.hid (BL.out.next b1); clear r1 b1 s1)
                | ((with_reducible refine R1.out.wpStoreK 36 Y fits_op HZL.out HYL.out HY1.out ?_ ?_); rfl; intro w2 r2 o2 s2; have R2 := Lib.hid r2; have E2 := Lib.hid (E1.out.onl (S := [wr.heap.size]) (Onl.of_only o2 (by simp)) (fun k hk hq => by have := E0.out.lt k hk; simp at hq; omega)); have RW2 := Lib.hid (RW1.out.only o2 (by have := RW.out.lt; omega)); have c0 : w2.cell? ⟨wr.heap.size, 0, none⟩ = some (.int .i64 1) := (r2.cell 0).trans HY0.out; have ca : w2.cell? ⟨wr.heap.size, 1, none⟩ = some (.int .i64 oa) := (r2.cell 1).trans HYa.out; have cn : w2.cell? ⟨wr.heap.size, 2, none⟩ = some (.int .i64 on) := (r2.cell 2).trans HYn.out; have cs : w2.cell? ⟨wr.heap.size, 3, none⟩ = some (.string os) := (r2.cell 3).trans HYs.out; have RM2 : Hid (Row w2 wr.heap.size 36 ([.int .i64 1, .int .i64 oa, .int .i64 on, .string os] ++ [.int .i64 ofb, .int .u8 (ofm.toNat : Int)] ++ [])) := Lib.hid (by rw [← HYT.out]; exact r2); have B2 := Lib.hid (B1.out.trans (o2.below BL.out.size B1.out.size)); clear r2 o2 s2)
                | (go_at_call 19; (with_reducible refine (HDN.out w2 E2.out).mono ?_); rintro e u1 ⟨rfl, rfl⟩)
                | (go_at_call 15; (with_reducible refine (HER.out w2 E2.out).mono ?_); rintro e w3 ⟨rfl, d3, o3⟩; have E4 := Lib.hid d3; have RW4 := Lib.hid (RW2.out.onl o3 HGS.out); have ca3 : w3.cell? ⟨wr.heap.size, 1, none⟩ = some (.int .i64 oa) := (cell_onl 1 o3 R2.out.lt (fun hm => by have := E0.out.lt _ hm; omega)).trans ca;  have B4 := Lib.hid (B2.out.trans (o3.below N3.out B2.out.size)); clear d3 o3))
              go_roundw
              case rel => exact ⟨k + 1, by omega, by go_num, ⟨_, _, E4.out, WR.out, RG.out, RW4.out⟩, B4.out⟩
              case measure => simp [intOf]; omega
            · obtain ⟨dn, hdn⟩ : ∃ x, D.dn = x := ⟨_, rfl⟩
              rw [hdn] at HDN
              clear hdn
              rw [he] at HER
              rw [eraseD_no D oa hb] at HER
              clear hb he
              go_wp2_with (first
                | ((with_reducible refine wpLoadAtK RY.out 36 fits_op HYL.out ?_ ?_); rfl)
                | ((with_reducible refine wpAllocK Z 36 HZ.out ?_ ?_); rfl; intro w1 r1 b1 s1; have R1 := Lib.hid r1; have E1 := Lib.hid (E0.out.step b1); have RW1 := Lib.hid (RW.out.step b1); have B1 := Lib.hid (BL.out.next b1); clear r1 b1 s1)
                | ((with_reducible refine R1.out.wpStoreK 36 Y fits_op HZL.out HYL.out HY1.out ?_ ?_); rfl; intro w2 r2 o2 s2; have R2 := Lib.hid r2; have E2 := Lib.hid (E1.out.onl (S := [wr.heap.size]) (Onl.of_only o2 (by simp)) (fun k hk hq => by have := E0.out.lt k hk; simp at hq; omega)); have RW2 := Lib.hid (RW1.out.only o2 (by have := RW.out.lt; omega)); have c0 : w2.cell? ⟨wr.heap.size, 0, none⟩ = some (.int .i64 1) := (r2.cell 0).trans HY0.out; have ca : w2.cell? ⟨wr.heap.size, 1, none⟩ = some (.int .i64 oa) := (r2.cell 1).trans HYa.out; have cn : w2.cell? ⟨wr.heap.size, 2, none⟩ = some (.int .i64 on) := (r2.cell 2).trans HYn.out; have cs : w2.cell? ⟨wr.heap.size, 3, none⟩ = some (.string os) := (r2.cell 3).trans HYs.out; have RM2 : Hid (Row w2 wr.heap.size 36 ([.int .i64 1, .int .i64 oa, .int .i64 on, .string os] ++ [.int .i64 ofb, .int .u8 (ofm.toNat : Int)] ++ [])) := Lib.hid (by rw [← HYT.out]; exact r2); have B2 := Lib.hid (B1.out.trans (o2.below BL.out.size B1.out.size)); clear r2 o2 s2)
                | (go_at_call 19; (with_reducible refine (HDN.out w2 E2.out).mono ?_); rintro e u1 ⟨rfl, rfl⟩)
                | (go_at_call 15; (with_reducible refine (HER.out w2 E2.out).mono ?_); rintro e w3 ⟨rfl, d3, o3⟩; have E4 := Lib.hid d3; have RW4 := Lib.hid (RW2.out.onl o3 HGS.out); have ca3 : w3.cell? ⟨wr.heap.size, 1, none⟩ = some (.int .i64 oa) := (cell_onl 1 o3 R2.out.lt (fun hm => by have := E0.out.lt _ hm; omega)).trans ca;  have B4 := Lib.hid (B2.out.trans (o3.below N3.out B2.out.size)); clear d3 o3))
              go_roundw
              case rel => exact ⟨k + 1, by omega, by go_num, ⟨_, _, E4.out, WR.out, RG.out, RW4.out⟩, B4.out⟩
              case measure => simp [intOf]; omega
            · obtain ⟨dn, hdn⟩ : ∃ x, D.dn = x := ⟨_, rfl⟩
              rw [hdn] at HDN
              clear hdn
              rw [he] at HER
              rw [eraseD_no D oa hb] at HER
              clear hb he
              go_wp2_with (first
                | ((with_reducible refine wpLoadAtK RY.out 36 fits_op HYL.out ?_ ?_); rfl)
                | ((with_reducible refine wpAllocK Z 36 HZ.out ?_ ?_); rfl; intro w1 r1 b1 s1; have R1 := Lib.hid r1; have E1 := Lib.hid (E0.out.step b1); have RW1 := Lib.hid (RW.out.step b1); have B1 := Lib.hid (BL.out.next b1); clear r1 b1 s1)
                | ((with_reducible refine R1.out.wpStoreK 36 Y fits_op HZL.out HYL.out HY1.out ?_ ?_); rfl; intro w2 r2 o2 s2; have R2 := Lib.hid r2; have E2 := Lib.hid (E1.out.onl (S := [wr.heap.size]) (Onl.of_only o2 (by simp)) (fun k hk hq => by have := E0.out.lt k hk; simp at hq; omega)); have RW2 := Lib.hid (RW1.out.only o2 (by have := RW.out.lt; omega)); have c0 : w2.cell? ⟨wr.heap.size, 0, none⟩ = some (.int .i64 1) := (r2.cell 0).trans HY0.out; have ca : w2.cell? ⟨wr.heap.size, 1, none⟩ = some (.int .i64 oa) := (r2.cell 1).trans HYa.out; have cn : w2.cell? ⟨wr.heap.size, 2, none⟩ = some (.int .i64 on) := (r2.cell 2).trans HYn.out; have cs : w2.cell? ⟨wr.heap.size, 3, none⟩ = some (.string os) := (r2.cell 3).trans HYs.out; have RM2 : Hid (Row w2 wr.heap.size 36 ([.int .i64 1, .int .i64 oa, .int .i64 on, .string os] ++ [.int .i64 ofb, .int .u8 (ofm.toNat : Int)] ++ [])) := Lib.hid (by rw [← HYT.out]; exact r2); have B2 := Lib.hid (B1.out.trans (o2.below BL.out.size B1.out.size)); clear r2 o2 s2)
                | (go_at_call 19; (with_reducible refine (HDN.out w2 E2.out).mono ?_); rintro e u1 ⟨rfl, rfl⟩)
                | (go_at_call 15; (with_reducible refine (HER.out w2 E2.out).mono ?_); rintro e w3 ⟨rfl, d3, o3⟩; have E4 := Lib.hid d3; have RW4 := Lib.hid (RW2.out.onl o3 HGS.out); have ca3 : w3.cell? ⟨wr.heap.size, 1, none⟩ = some (.int .i64 oa) := (cell_onl 1 o3 R2.out.lt (fun hm => by have := E0.out.lt _ hm; omega)).trans ca;  have B4 := Lib.hid (B2.out.trans (o3.below N3.out B2.out.size)); clear d3 o3))
              go_roundw
              case rel => exact ⟨k + 1, by omega, by go_num, ⟨_, _, E4.out, WR.out, RG.out, RW4.out⟩, B4.out⟩
              case measure => simp [intOf]; omega
          have q1 : (ok == (1 : Int)) = false := beq_eq_false_iff_ne.2 hk1
          by_cases hk2 : ok = 2
          · subst hk2
            go_wp2_with (first
              | ((with_reducible refine wpLoadAtK RY.out 36 fits_op HYL.out ?_ ?_); rfl)
              | ((with_reducible refine wpAllocK Z 36 HZ.out ?_ ?_); rfl; intro w1 r1 b1 s1; have R1 := Lib.hid r1; have E1 := Lib.hid (E0.out.step b1); have RW1 := Lib.hid (RW.out.step b1); have B1 := Lib.hid (BL.out.next b1); clear r1 b1 s1)
              | ((with_reducible refine R1.out.wpStoreK 36 Y fits_op HZL.out HYL.out HY1.out ?_ ?_); rfl; intro w2 r2 o2 s2; have R2 := Lib.hid r2; have E2 := Lib.hid (E1.out.onl (S := [wr.heap.size]) (Onl.of_only o2 (by simp)) (fun k hk hq => by have := E0.out.lt k hk; simp at hq; omega)); have RW2 := Lib.hid (RW1.out.only o2 (by have := RW.out.lt; omega)); have c0 : w2.cell? ⟨wr.heap.size, 0, none⟩ = some (.int .i64 2) := (r2.cell 0).trans HY0.out; have ca : w2.cell? ⟨wr.heap.size, 1, none⟩ = some (.int .i64 oa) := (r2.cell 1).trans HYa.out; have cn : w2.cell? ⟨wr.heap.size, 2, none⟩ = some (.int .i64 on) := (r2.cell 2).trans HYn.out; have cs : w2.cell? ⟨wr.heap.size, 3, none⟩ = some (.string os) := (r2.cell 3).trans HYs.out; have RM2 : Hid (Row w2 wr.heap.size 36 ([.int .i64 2, .int .i64 oa, .int .i64 on, .string os] ++ [.int .i64 ofb, .int .u8 (ofm.toNat : Int)] ++ [])) := Lib.hid (by rw [← HYT.out]; exact r2); have B2 := Lib.hid (B1.out.trans (o2.below BL.out.size B1.out.size)); clear r2 o2 s2)
              | (go_at_call 10; (with_reducible refine (HPR.out w2 E2.out).mono ?_); rintro e w3 ⟨⟨x3, rfl⟩, ⟨D3, d3, k3⟩, o3⟩; have E4 := Lib.hid d3; have K4 := Lib.hid k3; have RW4 := Lib.hid (RW2.out.onl o3 HGS.out); have B4 := Lib.hid (B2.out.trans (o3.below N3.out B2.out.size)); clear d3 k3 o3))
            go_roundw
            case rel => exact ⟨k + 1, by omega, by go_num, ⟨_, _, E4.out, K4.out, RG.out, RW4.out⟩, B4.out⟩
            case measure => simp [intOf]; omega
          have q2 : (ok == (2 : Int)) = false := beq_eq_false_iff_ne.2 hk2
          by_cases hk3 : ok = 3
          · subst hk3
            go_wp2_with (first
              | ((with_reducible refine wpLoadAtK RY.out 36 fits_op HYL.out ?_ ?_); rfl)
              | ((with_reducible refine wpAllocK Z 36 HZ.out ?_ ?_); rfl; intro w1 r1 b1 s1; have R1 := Lib.hid r1; have E1 := Lib.hid (E0.out.step b1); have RW1 := Lib.hid (RW.out.step b1); have B1 := Lib.hid (BL.out.next b1); clear r1 b1 s1)
              | ((with_reducible refine R1.out.wpStoreK 36 Y fits_op HZL.out HYL.out HY1.out ?_ ?_); rfl; intro w2 r2 o2 s2; have R2 := Lib.hid r2; have E2 := Lib.hid (E1.out.onl (S := [wr.heap.size]) (Onl.of_only o2 (by simp)) (fun k hk hq => by have := E0.out.lt k hk; simp at hq; omega)); have RW2 := Lib.hid (RW1.out.only o2 (by have := RW.out.lt; omega)); have c0 : w2.cell? ⟨wr.heap.size, 0, none⟩ = some (.int .i64 3) := (r2.cell 0).trans HY0.out; have ca : w2.cell? ⟨wr.heap.size, 1, none⟩ = some (.int .i64 oa) := (r2.cell 1).trans HYa.out; have cn : w2.cell? ⟨wr.heap.size, 2, none⟩ = some (.int .i64 on) := (r2.cell 2).trans HYn.out; have cs : w2.cell? ⟨wr.heap.size, 3, none⟩ = some (.string os) := (r2.cell 3).trans HYs.out; have RM2 : Hid (Row w2 wr.heap.size 36 ([.int .i64 3, .int .i64 oa, .int .i64 on, .string os] ++ [.int .i64 ofb, .int .u8 (ofm.toNat : Int)] ++ [])) := Lib.hid (by rw [← HYT.out]; exact r2); have B2 := Lib.hid (B1.out.trans (o2.below BL.out.size B1.out.size)); clear r2 o2 s2)
              | (go_at_call 13; (with_reducible refine (HLO.out w2 E2.out).mono ?_); rintro e w3 ⟨⟨x3, rfl⟩, ⟨D3, d3, k3⟩, o3⟩; have E4 := Lib.hid d3; have K4 := Lib.hid k3; have RW4 := Lib.hid (RW2.out.onl o3 HGS.out); have B4 := Lib.hid (B2.out.trans (o3.below N3.out B2.out.size)); clear d3 k3 o3))
            go_roundw
            case rel => exact ⟨k + 1, by omega, by go_num, ⟨_, _, E4.out, K4.out, RG.out, RW4.out⟩, B4.out⟩
            case measure => simp [intOf]; omega
          have q3 : (ok == (3 : Int)) = false := beq_eq_false_iff_ne.2 hk3
          by_cases hk4 : ok = 4
          · subst hk4
            go_wp2_with (first
              | ((with_reducible refine wpLoadAtK RY.out 36 fits_op HYL.out ?_ ?_); rfl)
              | ((with_reducible refine wpAllocK Z 36 HZ.out ?_ ?_); rfl; intro w1 r1 b1 s1; have R1 := Lib.hid r1; have E1 := Lib.hid (E0.out.step b1); have RW1 := Lib.hid (RW.out.step b1); have B1 := Lib.hid (BL.out.next b1); clear r1 b1 s1)
              | ((with_reducible refine R1.out.wpStoreK 36 Y fits_op HZL.out HYL.out HY1.out ?_ ?_); rfl; intro w2 r2 o2 s2; have R2 := Lib.hid r2; have E2 := Lib.hid (E1.out.onl (S := [wr.heap.size]) (Onl.of_only o2 (by simp)) (fun k hk hq => by have := E0.out.lt k hk; simp at hq; omega)); have RW2 := Lib.hid (RW1.out.only o2 (by have := RW.out.lt; omega)); have c0 : w2.cell? ⟨wr.heap.size, 0, none⟩ = some (.int .i64 4) := (r2.cell 0).trans HY0.out; have ca : w2.cell? ⟨wr.heap.size, 1, none⟩ = some (.int .i64 oa) := (r2.cell 1).trans HYa.out; have cn : w2.cell? ⟨wr.heap.size, 2, none⟩ = some (.int .i64 on) := (r2.cell 2).trans HYn.out; have cs : w2.cell? ⟨wr.heap.size, 3, none⟩ = some (.string os) := (r2.cell 3).trans HYs.out; have RM2 : Hid (Row w2 wr.heap.size 36 ([.int .i64 4, .int .i64 oa, .int .i64 on, .string os] ++ [.int .i64 ofb, .int .u8 (ofm.toNat : Int)] ++ [])) := Lib.hid (by rw [← HYT.out]; exact r2); have B2 := Lib.hid (B1.out.trans (o2.below BL.out.size B1.out.size)); clear r2 o2 s2)
              | ((with_reducible refine RM2.out.wpLoadMidK 4 HX4.out 34 fits_torn HT2.out ?_ ?_); rfl)
              | (go_at_call 16; (with_reducible refine (HFU.out w2 E2.out).mono ?_); rintro e w3 ⟨rfl, ⟨D3, d3, k3⟩, o3⟩; have E4 := Lib.hid d3; have K4 := Lib.hid k3; have RW4 := Lib.hid (RW2.out.onl o3 HGS.out); have B4 := Lib.hid (B2.out.trans (o3.below N3.out B2.out.size)); clear d3 k3 o3))
            go_roundw
            case rel => exact ⟨k + 1, by omega, by go_num, ⟨_, _, E4.out, K4.out, RG.out, RW4.out⟩, B4.out⟩
            case measure => simp [intOf]; omega
          have q4 : (ok == (4 : Int)) = false := beq_eq_false_iff_ne.2 hk4
          by_cases hk5 : ok = 5
          · subst hk5
            go_wp2_with (first
              | ((with_reducible refine wpLoadAtK RY.out 36 fits_op HYL.out ?_ ?_); rfl)
              | ((with_reducible refine wpAllocK Z 36 HZ.out ?_ ?_); rfl; intro w1 r1 b1 s1; have R1 := Lib.hid r1; have E1 := Lib.hid (E0.out.step b1); have RW1 := Lib.hid (RW.out.step b1); have B1 := Lib.hid (BL.out.next b1); clear r1 b1 s1)
              | ((with_reducible refine R1.out.wpStoreK 36 Y fits_op HZL.out HYL.out HY1.out ?_ ?_); rfl; intro w2 r2 o2 s2; have R2 := Lib.hid r2; have E2 := Lib.hid (E1.out.onl (S := [wr.heap.size]) (Onl.of_only o2 (by simp)) (fun k hk hq => by have := E0.out.lt k hk; simp at hq; omega)); have RW2 := Lib.hid (RW1.out.only o2 (by have := RW.out.lt; omega)); have c0 : w2.cell? ⟨wr.heap.size, 0, none⟩ = some (.int .i64 5) := (r2.cell 0).trans HY0.out; have ca : w2.cell? ⟨wr.heap.size, 1, none⟩ = some (.int .i64 oa) := (r2.cell 1).trans HYa.out; have cn : w2.cell? ⟨wr.heap.size, 2, none⟩ = some (.int .i64 on) := (r2.cell 2).trans HYn.out; have cs : w2.cell? ⟨wr.heap.size, 3, none⟩ = some (.string os) := (r2.cell 3).trans HYs.out; have RM2 : Hid (Row w2 wr.heap.size 36 ([.int .i64 5, .int .i64 oa, .int .i64 on, .string os] ++ [.int .i64 ofb, .int .u8 (ofm.toNat : Int)] ++ [])) := Lib.hid (by rw [← HYT.out]; exact r2); have B2 := Lib.hid (B1.out.trans (o2.below BL.out.size B1.out.size)); clear r2 o2 s2)
              | (go_at_call 17; (with_reducible refine (HPO.out w2 E2.out).mono ?_); rintro e w3 ⟨rfl, ⟨D3, d3, k3⟩, o3⟩; have E4 := Lib.hid d3; have K4 := Lib.hid k3; have RW4 := Lib.hid (RW2.out.onl o3 HGS.out); have B4 := Lib.hid (B2.out.trans (o3.below N3.out B2.out.size)); clear d3 k3 o3))
            go_roundw
            case rel => exact ⟨k + 1, by omega, by go_num, ⟨_, _, E4.out, K4.out, RG.out, RW4.out⟩, B4.out⟩
            case measure => simp [intOf]; omega
          have q5 : (ok == (5 : Int)) = false := beq_eq_false_iff_ne.2 hk5
          by_cases hk6 : ok = 6
          · subst hk6
            go_wp2_with (first
              | ((with_reducible refine wpLoadAtK RY.out 36 fits_op HYL.out ?_ ?_); rfl)
              | ((with_reducible refine wpAllocK Z 36 HZ.out ?_ ?_); rfl; intro w1 r1 b1 s1; have R1 := Lib.hid r1; have E1 := Lib.hid (E0.out.step b1); have RW1 := Lib.hid (RW.out.step b1); have B1 := Lib.hid (BL.out.next b1); clear r1 b1 s1)
              | ((with_reducible refine R1.out.wpStoreK 36 Y fits_op HZL.out HYL.out HY1.out ?_ ?_); rfl; intro w2 r2 o2 s2; have R2 := Lib.hid r2; have E2 := Lib.hid (E1.out.onl (S := [wr.heap.size]) (Onl.of_only o2 (by simp)) (fun k hk hq => by have := E0.out.lt k hk; simp at hq; omega)); have RW2 := Lib.hid (RW1.out.only o2 (by have := RW.out.lt; omega)); have c0 : w2.cell? ⟨wr.heap.size, 0, none⟩ = some (.int .i64 6) := (r2.cell 0).trans HY0.out; have ca : w2.cell? ⟨wr.heap.size, 1, none⟩ = some (.int .i64 oa) := (r2.cell 1).trans HYa.out; have cn : w2.cell? ⟨wr.heap.size, 2, none⟩ = some (.int .i64 on) := (r2.cell 2).trans HYn.out; have cs : w2.cell? ⟨wr.heap.size, 3, none⟩ = some (.string os) := (r2.cell 3).trans HYs.out; have RM2 : Hid (Row w2 wr.heap.size 36 ([.int .i64 6, .int .i64 oa, .int .i64 on, .string os] ++ [.int .i64 ofb, .int .u8 (ofm.toNat : Int)] ++ [])) := Lib.hid (by rw [← HYT.out]; exact r2); have B2 := Lib.hid (B1.out.trans (o2.below BL.out.size B1.out.size)); obtain ⟨wx, cx, hcv, bx, ox⟩ := conv_laid os w2 s D E2.out; have EX := Lib.hid (E2.out.step bx); have RWX := Lib.hid (RW2.out.step bx); have BX := Lib.hid (B2.out.next bx); have OX := Lib.hid ox; clear r2 o2 s2 bx ox)
              | (go_at_call 20; (with_reducible refine (HRO.out wx _ _ EX.out OX.out).mono ?_); rintro e w3 ⟨⟨x3, rfl⟩, ⟨D3, d3, k3⟩, o3⟩; have E4 := Lib.hid d3; have K4 := Lib.hid k3; have RW4 := Lib.hid (RWX.out.onl o3 HGS.out); have B4 := Lib.hid (BX.out.trans (o3.below N3.out BX.out.size)); clear d3 k3 o3))
            go_roundw
            case rel => exact ⟨k + 1, by omega, by go_num, ⟨_, _, E4.out, K4.out, RG.out, RW4.out⟩, B4.out⟩
            case measure => simp [intOf]; omega
          have q6 : (ok == (6 : Int)) = false := beq_eq_false_iff_ne.2 hk6
          by_cases hk7 : ok = 7
          · subst hk7
            go_wp2_with (first
              | ((with_reducible refine wpLoadAtK RY.out 36 fits_op HYL.out ?_ ?_); rfl)
              | ((with_reducible refine wpAllocK Z 36 HZ.out ?_ ?_); rfl; intro w1 r1 b1 s1; have R1 := Lib.hid r1; have E1 := Lib.hid (E0.out.step b1); have RW1 := Lib.hid (RW.out.step b1); have B1 := Lib.hid (BL.out.next b1); clear r1 b1 s1)
              | ((with_reducible refine R1.out.wpStoreK 36 Y fits_op HZL.out HYL.out HY1.out ?_ ?_); rfl; intro w2 r2 o2 s2; have R2 := Lib.hid r2; have E2 := Lib.hid (E1.out.onl (S := [wr.heap.size]) (Onl.of_only o2 (by simp)) (fun k hk hq => by have := E0.out.lt k hk; simp at hq; omega)); have RW2 := Lib.hid (RW1.out.only o2 (by have := RW.out.lt; omega)); have c0 : w2.cell? ⟨wr.heap.size, 0, none⟩ = some (.int .i64 7) := (r2.cell 0).trans HY0.out; have ca : w2.cell? ⟨wr.heap.size, 1, none⟩ = some (.int .i64 oa) := (r2.cell 1).trans HYa.out; have cn : w2.cell? ⟨wr.heap.size, 2, none⟩ = some (.int .i64 on) := (r2.cell 2).trans HYn.out; have cs : w2.cell? ⟨wr.heap.size, 3, none⟩ = some (.string os) := (r2.cell 3).trans HYs.out; have RM2 : Hid (Row w2 wr.heap.size 36 ([.int .i64 7, .int .i64 oa, .int .i64 on, .string os] ++ [.int .i64 ofb, .int .u8 (ofm.toNat : Int)] ++ [])) := Lib.hid (by rw [← HYT.out]; exact r2); have B2 := Lib.hid (B1.out.trans (o2.below BL.out.size B1.out.size)); clear r2 o2 s2)
              | (go_at_call 23; (with_reducible refine (HCO.out w2 E2.out).mono ?_); rintro e w3 ⟨c, rfl, dc, nc, b3⟩; have EC := Lib.hid dc; have NC := Lib.hid nc; have E3 := Lib.hid (E2.out.step b3); have RW3 := Lib.hid (RW2.out.step b3); have B3 := Lib.hid (B2.out.next b3); clear dc nc b3)
              | (go_at_call 17; (with_reducible refine (HCP.out c w3 EC.out).mono ?_); rintro e w4 ⟨rfl, d4, o4⟩; have ED := Lib.hid d4; have E4 := Lib.hid (E3.out.onl o4 (fun k hk hq => by have := E2.out.lt k hk; have := NC.out k hq; omega)); have RW4 := Lib.hid (RW3.out.onl o4 (fun hq => by have := RW2.out.lt; have := NC.out _ hq; omega)); have B4 := Lib.hid (B3.out.trans (o4.below (fun k hk => Nat.le_trans B2.out.size (NC.out k hk)) B3.out.size)); clear d4 o4)
              | (go_at_call 15; (with_reducible refine (HCE.out c w4 ED.out).mono ?_); rintro e w5 ⟨⟨x5, rfl⟩, o5⟩; have E5 := Lib.hid (E4.out.onl o5 (fun k hk hq => by have := E2.out.lt k hk; have := NC.out k hq; omega)); have RW5 := Lib.hid (RW4.out.onl o5 (fun hq => by have := RW2.out.lt; have := NC.out _ hq; omega)); have B5 := Lib.hid (B4.out.trans (o5.below (fun k hk => Nat.le_trans B2.out.size (NC.out k hk)) B4.out.size)); clear o5))
            go_roundw
            case rel => exact ⟨k + 1, by omega, by go_num, ⟨_, _, E5.out, WR.out, RG.out, RW5.out⟩, B5.out⟩
            case measure => simp [intOf]; omega
          have q7 : (ok == (7 : Int)) = false := beq_eq_false_iff_ne.2 hk7
          go_wp2_with (first
            | ((with_reducible refine wpLoadAtK RY.out 36 fits_op HYL.out ?_ ?_); rfl)
            | ((with_reducible refine wpAllocK Z 36 HZ.out ?_ ?_); rfl; intro w1 r1 b1 s1; have R1 := Lib.hid r1; have E1 := Lib.hid (E0.out.step b1); have RW1 := Lib.hid (RW.out.step b1); have B1 := Lib.hid (BL.out.next b1); clear r1 b1 s1)
            | ((with_reducible refine R1.out.wpStoreK 36 Y fits_op HZL.out HYL.out HY1.out ?_ ?_); rfl; intro w2 r2 o2 s2; have R2 := Lib.hid r2; have E2 := Lib.hid (E1.out.onl (S := [wr.heap.size]) (Onl.of_only o2 (by simp)) (fun k hk hq => by have := E0.out.lt k hk; simp at hq; omega)); have RW2 := Lib.hid (RW1.out.only o2 (by have := RW.out.lt; omega)); have c0 : w2.cell? ⟨wr.heap.size, 0, none⟩ = some (.int .i64 ok) := (r2.cell 0).trans HY0.out; have ca : w2.cell? ⟨wr.heap.size, 1, none⟩ = some (.int .i64 oa) := (r2.cell 1).trans HYa.out; have cn : w2.cell? ⟨wr.heap.size, 2, none⟩ = some (.int .i64 on) := (r2.cell 2).trans HYn.out; have cs : w2.cell? ⟨wr.heap.size, 3, none⟩ = some (.string os) := (r2.cell 3).trans HYs.out; have RM2 : Hid (Row w2 wr.heap.size 36 ([.int .i64 ok, .int .i64 oa, .int .i64 on, .string os] ++ [.int .i64 ofb, .int .u8 (ofm.toNat : Int)] ++ [])) := Lib.hid (by rw [← HYT.out]; exact r2); have B2 := Lib.hid (B1.out.trans (o2.below BL.out.size B1.out.size)); clear r2 o2 s2))
          go_roundw
          case rel => exact ⟨k + 1, by omega, by go_num, ⟨_, _, E2.out, WR.out, RG.out, RW2.out⟩, B2.out⟩
          case measure => simp [intOf]; omega
        · obtain rfl : k = N := by omega
          clear hlt
          have BL := Lib.hid hbl
          have E0 := Lib.hid hd
          have WR := Lib.hid hwr
          have RG := Lib.hid hrg
          have RW := Lib.hid hrw
          clear hd hwr hrg hrw hbl
          go_wp2
          -- the sum that is wanted
          have HLN : Hid (E.length = n) := Lib.hid (by rw [← WR.out.e, E0.out.ok.worn, WR.out.len])
          have HLL : Hid (D.L.length = n) := Lib.hid WR.out.len
          have AL : Hid (Lies wr wr.heap.size a2 (ints ask)) := Lib.hid ((HAS.out.below BL.out).mono BL.out.size)
          go_loop [16, 123] (fun x i => ∃ k : Nat, k ≤ M ∧ i = .int .i64 k ∧ x = .int .i64 (wearF D.L E (ask.take k))) (fun _ i => M - (intOf i).toNat)
          case atStart => exact ⟨0, Nat.zero_le _, rfl, rfl⟩
          case round =>
            obtain ⟨i, hi, rfl, rfl⟩ := hrel
            by_cases hlt : i < M
            · have hkl : i < ask.length := by rw [HM.out]; exact hlt
              obtain ⟨bl, off, rfl, _, hc⟩ := AL.out (by rw [ints_length]; omega)
              have hcell := hc i _ (ints_get ask i hkl)
              obtain ⟨x, hx⟩ : ∃ x, ask[i] = x := ⟨_, rfl⟩
              rw [hx] at hcell
              have HTK : Hid (ask.take (i + 1) = ask.take i ++ [x]) := Lib.hid (by rw [take_snoc ask i hkl, hx])
              obtain ⟨W, hW⟩ : ∃ W, wearF D.L E (ask.take i) = W := ⟨_, rfl⟩
              have HSN := Lib.hid (wearF_snoc D.L E (ask.take i) x)
              rw [hW, HLL.out] at HSN
              rw [hW]
              have e1 : (i : Int) < M := by omega
              by_cases hx2 : 0 ≤ x ∧ x < n
              · obtain ⟨j, rfl⟩ : ∃ j : Nat, x = j := ⟨x.toNat, by omega⟩
                have hj : j < E.length := by rw [HLN.out]; omega
                have hce : wr.cell? ⟨g, j, none⟩ = some (.int .i64 E[j]) := by rw [RW.out.cell, ints_get E j hj]
                rw [if_pos hx2, Int.toNat_natCast, List.getD_eq_getElem?_getD, List.getElem?_eq_getElem hj, Option.getD_some] at HSN
                obtain ⟨y, hy⟩ : ∃ y, E[j] = y := ⟨_, rfl⟩
                rw [hy] at hce HSN
                have e2 : (j : Int) < n := by omega
                have e3 : 0 ≤ (j : Int) := by omega
                clear hc hkl hx hW hx2 hj hy
                go_wp2
                go_round
                case rel => exact ⟨i + 1, by omega, by go_num, by rw [HTK.out, HSN.out]⟩
                case measure => simp [intOf]; omega
              · rw [if_neg hx2] at HSN
                by_cases hx0 : 0 ≤ x
                · have hx3 : ¬ x < (n : Int) := by omega
                  clear hc hkl hx hW hx2
                  go_wp2
                  go_round
                  case rel => exact ⟨i + 1, by omega, by go_num, by rw [HTK.out, HSN.out]⟩
                  case measure => simp [intOf]; omega
                · clear hc hkl hx hW hx2
                  go_wp2
                  go_round
                  case rel => exact ⟨i + 1, by omega, by go_num, by rw [HTK.out, HSN.out]⟩
                  case measure => simp [intOf]; omega
            · obtain rfl : i = M := by omega
              rw [List.take_of_length_le (by rw [HM.out]; exact Nat.le_refl _)]
              clear hlt
              obtain ⟨S, hS⟩ : ∃ S, wearF D.L E ask = S := ⟨_, rfl⟩
              have HSS := Lib.hid hS
              rw [hS]
              clear hS
              go_wp2
              have HWA : Hid (∀ wq, Below wr.heap.size wr wq → Calls Try.prog 24 #[.pointer (some ⟨s.b, 0, none⟩), .slice a2 i cap2] wq fun e w' => e = .returned (.int .i64 S) ∧ wq = w') := Lib.hid fun wq hb => by
                have hh := wear_any s D a2 cap2 ask wq (E0.out.step hb) (by rw [HM.out]; omega) ((AL.out.below hb).mono hb.size)
                rwa [HM.out, WR.out.e, HSS.out] at hh
              have HW0 : Hid (∀ wq, Below wr.heap.size wr wq → Calls Try.prog 24 #[.pointer (some ⟨s.b, 0, none⟩), .slice none 0 0] wq fun e w' => e = .returned (.int .i64 0) ∧ wq = w') := Lib.hid fun wq hb => wear_any s D none 0 [] wq (E0.out.step hb) (by simp) (Lies.nil _ _ _)
              have hSS : (S == S) = true := beq_self_eq_true S
              have HMI : Hid (i ≤ 60) := Lib.hid (by omega)
              go_loopw [143] (fun x wq => ∃ i : Nat, i ≤ n ∧ x = .int .i64 i ∧ Below wr.heap.size wr wq) (fun x _ => n - (intOf x).toNat)
              case atStart => exact ⟨0, Nat.zero_le _, rfl, Below.refl _ _⟩
              case round =>
                obtain ⟨i, hi, rfl, hbq⟩ := hrel
                have HBQ := Lib.hid hbq
                by_cases hlt : i < n
                · have hiE : i < E.length := by rw [HLN.out]; exact hlt
                  obtain ⟨y, hy⟩ : ∃ y, E[i] = y := ⟨_, rfl⟩
                  have HCL : Hid (wr.cell? ⟨g, i, none⟩ = some (.int .i64 y)) := Lib.hid (by rw [(RW.out.step hbq).cell, ints_get E i hiE, hy])
                  have HGL : Hid (g < wr.heap.size) := Lib.hid (RW.out.step hbq).lt
                  have HWI : Hid (∀ wx q', Below wr.heap.size wr wx → Lies wx wx.heap.size (some ⟨q', 0, none⟩) [.int .i64 (i : Int)] → Calls Try.prog 24 #[.pointer (some ⟨s.b, 0, none⟩), .slice (some ⟨q', 0, none⟩) 1 1] wx fun e w' => e = .returned (.int .i64 y) ∧ wx = w') := Lib.hid fun wx q' hb hl => by
                    have hh := wear_any s D (some ⟨q', 0, none⟩) 1 [(i : Int)] wx (E0.out.step (hbq.next hb)) (by simp) hl
                    have hv : wearF D.L D.E [(i : Int)] = y := by
                      have h1 := wearF_snoc D.L D.E [] (i : Int)
                      rw [List.nil_append] at h1
                      rw [h1, if_pos (by rw [HLL.out]; omega), show wearF D.L D.E [] = 0 from rfl, Int.zero_add, Int.toNat_natCast, WR.out.e, RG.out i, List.getD_eq_getElem?_getD, List.getElem?_eq_getElem hiE, ← hy]; rfl
                    rw [hv] at hh
                    exact hh
                  have e1 : (i : Int) < n := by omega
                  clear hbq hiE hy
                  go_wp2
                  refine region_invX [(0, 146), (1, 147), (2, 148), (3, 149), (4, 150), (5, 151), (6, 152), (7, 153), (8, 154)]
                    (fun ii => [Is (.pointer (some ⟨s.b, 0, none⟩)), Is (.int .i64 (i : Int)), New [.int .i64 (i : Int)], Is (.int .i64 y), Is (.slice (some ⟨g, 0, none⟩) n n), Is (.int .i64 (i : Int)), Is (.pointer (some ⟨g, i, none⟩)), Is (.int .i64 y), Is (.bool false)].getD ii (Is undef))
                    (fun w' => Below wr.heap.size wr w') (by kernel_rfl) (by kernel_rfl) (by decide) (by decide) (by kernel_rfl) rfl ?mono ((Below.refl _ _).drew) ?step ?fin
                  case mono =>
                    intro ii
                    match ii with
                    | 2 => exact New.monot _
                    | 0 | 1 | 3 | 4 | 5 | 6 | 7 | 8 => exact Is.monot _
                    | _ + 9 => exact Is.monot _
                  case step =>
                    refine List.forall_mem_cons.2 ⟨?t0, List.forall_mem_cons.2 ⟨?t1, List.forall_mem_cons.2 ⟨?t2, List.forall_mem_cons.2 ⟨?t3, List.forall_mem_cons.2 ⟨?t4, List.forall_mem_cons.2 ⟨?t5, List.forall_mem_cons.2 ⟨?t6, List.forall_mem_cons.2 ⟨?t7, List.forall_mem_cons.2 ⟨?t8, List.forall_mem_nil _⟩⟩⟩⟩⟩⟩⟩⟩⟩
                    case t0 =>
                      intro u wx hg hC
                      clear hC
                      refine wpOp_step rfl (fun K hK => ?_)
                      simp only [puts, List.foldl]
                      go_simp
                      exact hK _ _ ⟨rfl, rfl, hg, Below.refl _ _⟩
                    case t1 =>
                      intro u wx hg hC
                      clear hC
                      refine wpOp_step rfl (fun K hK => ?_)
                      simp only [puts, List.foldl]
                      go_simp
                      exact hK _ _ ⟨rfl, rfl, hg, Below.refl _ _⟩
                    case t2 =>
                      intro u wx hg hC
                      have h1 : u 1 = .int .i64 (i : Int) := hC.at 1 (by kernel_rfl)
                      clear hC
                      refine wpOp_step rfl (fun K hK => ?_)
                      simp only [puts, List.foldl]
                      go_simp
                      exact hK _ _ ⟨rfl, ⟨wx.heap.size, rfl, Lies.new [_] _ _⟩, hg.alloc hg.size _, alloc_below _ _⟩
                    case t3 =>
                      intro u wx hg hC
                      have h0 : u 0 = .pointer (some ⟨s.b, 0, none⟩) := hC.at 0 (by kernel_rfl)
                      obtain ⟨q', h2, hl⟩ : New [.int .i64 (i : Int)] (u 2) wx := hC.at 2 (by kernel_rfl)
                      simp only [List.length_singleton] at h2
                      clear hC
                      refine wpOp_step rfl (fun K hK => ?_)
                      simp only [puts, List.foldl]
                      go_simp
                      refine (HWI.out wx q' hg hl).mono ?_
                      rintro e w' ⟨rfl, rfl⟩
                      exact hK _ _ ⟨rfl, rfl, hg, Below.refl _ _⟩
                    case t4 =>
                      intro u wx hg hC
                      clear hC
                      refine wpOp_step rfl (fun K hK => ?_)
                      simp only [puts, List.foldl]
                      go_simp
                      exact hK _ _ ⟨rfl, rfl, hg, Below.refl _ _⟩
                    case t5 =>
                      intro u wx hg hC
                      clear hC
                      refine wpOp_step rfl (fun K hK => ?_)
                      simp only [puts, List.foldl]
                      go_simp
                      exact hK _ _ ⟨rfl, rfl, hg, Below.refl _ _⟩
                    case t6 =>
                      intro u wx hg hC
                      have h4 : u 4 = .slice (some ⟨g, 0, none⟩) n n := hC.at 4 (by kernel_rfl)
                      have h5 : u 5 = .int .i64 (i : Int) := hC.at 5 (by kernel_rfl)
                      clear hC
                      refine wpOp_step rfl (fun K hK => ?_)
                      simp only [puts, List.foldl]
                      go_simp
                      exact hK _ _ ⟨rfl, rfl, hg, Below.refl _ _⟩
                    case t7 =>
                      intro u wx hg hC
                      have h6 : u 6 = .pointer (some ⟨g, i, none⟩) := hC.at 6 (by kernel_rfl)
                      have hcl : wx.cell? ⟨g, i, none⟩ = some (.int .i64 y) := (hg.cell (p := ⟨g, i, none⟩) HGL.out).trans HCL.out
                      clear hC
                      refine wpOp_step rfl (fun K hK => ?_)
                      simp only [puts, List.foldl]
                      go_simp
                      exact hK _ _ ⟨rfl, rfl, hg, Below.refl _ _⟩
                    case t8 =>
                      intro u wx hg hC
                      have h3 : u 3 = .int .i64 y := hC.at 3 (by kernel_rfl)
                      have h7 : u 7 = .int .i64 y := hC.at 7 (by kernel_rfl)
                      clear hC
                      refine wpOp_step rfl (fun K hK => ?_)
                      simp only [puts, List.foldl]
                      go_simp
                      exact hK _ _ ⟨rfl, rfl, hg, Below.refl _ _⟩
                  case fin =>
                    intro u wx hg hφ
                    have h8 : u 8 = .bool false := hφ (8, 154) (by decide)
                    clear hφ
                    simp only [puts, List.foldl]
                    go_simp
                    have BX := Lib.hid (HBQ.out.next hg)
                    clear hg h8
                    go_wp2
                    go_roundw
                    case rel => exact ⟨i + 1, by omega, by go_num, BX.out⟩
                    case measure => simp [intOf]; omega
                · obtain rfl : i = n := by omega
                  clear hlt
                  go_wp2_with (go_at_call 24; first
                    | ((with_reducible refine (HWA.out wr HBQ.out).mono ?_); rintro e u1 ⟨rfl, rfl⟩)
                    | ((with_reducible refine (HW0.out wr HBQ.out).mono ?_); rintro e u1 ⟨rfl, rfl⟩))
                  go_ret
                  exact ⟨rfl, BL.out.next HBQ.out⟩
end Go.Proofs.Ytgdfcfbccjdecaa
