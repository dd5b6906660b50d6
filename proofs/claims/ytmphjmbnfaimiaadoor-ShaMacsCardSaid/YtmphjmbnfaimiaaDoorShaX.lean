/- Contract of the document's mul. -/
import Derived.Test.YtmphjmbnfaimiaaDoorShaU
import Derived.Test.YtmphjmbnfaimiaaDoorShaMul
namespace Go.Proofs.YtmphjmbnfaimiaaDoor
open Go.RowKit ShaMath

theorem sha_nats_set (l : List Nat) (j : Nat) (n : Nat) : (sha_nats l).set j (.int .i64 (n : Int)) = sha_nats (l.set j n) := by simp [sha_nats, List.map_set]
theorem nats_one (l : List Nat) : (sha_nats l).all (·.oneCell') = true := by simp [sha_nats, Value.oneCell']
theorem nats_zeros (n : Nat) : List.replicate n (Value.int .i64 0) = sha_nats (List.replicate n 0) := by simp [sha_nats]

/-- The answer of mul. -/
def Muls (l : List Nat) (n : Nat) (w : World) (e : Ending) (w' : World) : Prop :=
  ∃ r, e = .returned (.slice (some ⟨w.heap.size, 0, none⟩) (l.length + 4) (l.length + 4)) ∧ r.length = l.length + 4 ∧ Parts r ∧ val r = val l * n ∧ Row w' w.heap.size 3 (sha_nats r) ∧ Below w.heap.size w w'

set_option maxHeartbeats 2000000 in
set_option maxRecDepth 100000 in
theorem sha_rmul_any (a : Option Addr) (cap : Nat) (l : List Nat) (n : Nat) (w : World) (hp : Parts l) (hl : l.length ≤ 100) (hn : Big (n < 281474976710656)) (hr : Lies w w.heap.size a (sha_nats l)) :
    Calls Tryd.prog 31 #[.slice a l.length cap, .int .i64 (n : Int)] w (Muls l n w) := by
  obtain ⟨n0, hn0⟩ : ∃ x, n % 65536 = x := ⟨_, rfl⟩
  obtain ⟨n1, hn1⟩ : ∃ x, n / 65536 % 65536 = x := ⟨_, rfl⟩
  obtain ⟨n2, hn2⟩ : ∃ x, n / 4294967296 = x := ⟨_, rfl⟩
  have hlow : low3 n = [n0, n1, n2] := by rw [low3, hn0, hn1, hn2]
  have hb0 : n0 < 65536 := by omega
  have hb1 : n1 < 65536 := by omega
  have hb2 : n2 < 65536 := by have := hn.out; omega
  have e0 : (n : Int) % 65536 = (n0 : Int) := by omega
  have e1 : (n : Int) / 65536 % 65536 = (n1 : Int) := by omega
  have e2 : (n : Int) / 4294967296 = (n2 : Int) := by omega
  have e0t : (n : Int).tmod 65536 = (n0 : Int) := by rw [Int.tmod_eq_emod_of_nonneg (by omega)]; exact e0
  have e1t : ((n : Int).tdiv 65536).tmod 65536 = (n1 : Int) := by rw [Int.tdiv_eq_ediv_of_nonneg (by omega), Int.tmod_eq_emod_of_nonneg (by omega)]; exact e1
  have e2t : (n : Int).tdiv 4294967296 = (n2 : Int) := by rw [Int.tdiv_eq_ediv_of_nonneg (by omega)]; exact e2
  obtain ⟨L, hL⟩ : ∃ L, L = l.length + 4 := ⟨_, rfl⟩
  have hLi : (l.length : Int) + 4 = (L : Int) := by omega
  have HL := Lib.hid hL
  have HP := Lib.hid hp
  have HR := Lib.hid hr
  have HLOW := Lib.hid hlow
  have HZ : Hid ((Tryd.prog.info? 3).map (fun i => (i.zero, i.size, i.bytes)) = some (some (.int .i64 0), 1, 8) ∨ (Tryd.prog.info? 3).map (fun i => (i.zero, i.size, i.bytes)) = some (some (.int .i64 0), 1, 1)) := Lib.hid (.inl info_int)
  have HLC : Hid (L ≤ 1099511627776) := Lib.hid (by omega)
  have hL2 : L ≤ 104 := by omega
  clear hp hr hlow hL hn0 hn1 hn2
  go_enter Tryd.func31, Tryd.ntmps31
  go_wp2_with (first
    | ((with_reducible refine wpMakeK 25 3 (.int .i64 0) L L Tryd.underlying25 HZ.out rfl (Nat.le_refl _) HLC.out ?_ ?_); rfl; intro u1 r1 b1 s1; have R1 := Lib.hid r1; have B1 := Lib.hid b1; have S1 := Lib.hid s1; clear r1 b1 s1))
  have hR0 : Row (u1.alloc (.cells #[.int .i64 (n0 : Int), .int .i64 (n1 : Int), .int .i64 (n2 : Int)] 3)) w.heap.size 3 (sha_nats (List.replicate L 0)) := by rw [← nats_zeros]; exact R1.out.alloc _
  have hM0 : Row (u1.alloc (.cells #[.int .i64 (n0 : Int), .int .i64 (n1 : Int), .int .i64 (n2 : Int)] 3)) u1.heap.size 3 (sha_nats [n0, n1, n2]) := Row.new u1 _ _
  have hB0 := B1.out.next (alloc_below u1 (.cells #[.int .i64 (n0 : Int), .int .i64 (n1 : Int), .int .i64 (n2 : Int)] 3))
  have hgM : w.heap.size < u1.heap.size := by have := S1.out; omega
  generalize u1.alloc (.cells #[.int .i64 (n0 : Int), .int .i64 (n1 : Int), .int .i64 (n2 : Int)] 3) = U at *
  obtain ⟨g, hg⟩ : ∃ g, g = w.heap.size := ⟨_, rfl⟩
  obtain ⟨M, hM⟩ : ∃ M, M = u1.heap.size := ⟨_, rfl⟩
  have HR0 := Lib.hid hR0
  have HM0 := Lib.hid hM0
  have HB0 := Lib.hid hB0
  rw [← hM] at HM0 hgM ⊢
  rw [← hg] at HR0 hgM ⊢
  have HG := Lib.hid hg
  clear hR0 hM0 hB0 R1 B1 S1 hM hg
  go_loopw [7] (fun i wr => ∃ (j : Nat) (r : List Nat), j ≤ l.length ∧ i = .int .i64 j ∧ r.length = L ∧ Parts r ∧ val r = upto l n j 0 ∧ Row wr g 3 (sha_nats r) ∧ Row wr M 3 (sha_nats [n0, n1, n2]) ∧ Below w.heap.size w wr) (fun i _ => l.length - (intOf i).toNat)
  case atStart => exact ⟨0, List.replicate L 0, Nat.zero_le _, rfl, List.length_replicate, Parts.zeros _, by rw [val_zeros, upto_zero]; simp [val], HR0.out, HM0.out, HB0.out⟩
  case round =>
    clear HR0 HM0 HB0
    obtain ⟨j, r, hj, rfl, hrl, hpr, hv, hrow, hlow, hbw⟩ := hrel
    by_cases hlt : j < l.length
    · have hj1 : (j : Int) < l.length := by omega
      have HV := Lib.hid hv
      have HPR := Lib.hid hpr
      have HRL := Lib.hid hrl
      have HROW := Lib.hid hrow
      have HLO := Lib.hid hlow
      have HBW := Lib.hid hbw
      clear hv hpr hrl hrow hlow hbw
      go_wp2
      go_loopw [8] (fun i wr => ∃ (k : Nat) (r : List Nat), k ≤ 3 ∧ i = .int .i64 k ∧ r.length = L ∧ Parts r ∧ val r = upto l n j k ∧ Row wr g 3 (sha_nats r) ∧ Row wr M 3 (sha_nats [n0, n1, n2]) ∧ Below w.heap.size w wr) (fun i _ => 3 - (intOf i).toNat)
      case atStart => exact ⟨0, r, by omega, rfl, HRL.out, HPR.out, HV.out, HROW.out, HLO.out, HBW.out⟩
      case round =>
        clear HV HPR HRL HROW HLO HBW
        obtain ⟨k, r, hk, rfl, hrl, hpr, hv, hrow, hlow, hbw⟩ := hrel
        by_cases hk3 : k < 3
        · obtain ⟨bl, off, ha, hbl, hc⟩ := HR.out (by rw [sha_nats_length]; omega)
          subst ha
          have hcell : wr.cell? ⟨bl, off + j, none⟩ = some (.int .i64 (l[j] : Int)) := (hbw.cell (p := ⟨bl, off + j, none⟩) hbl).trans (hc j _ (sha_nats_get l j hlt))
          have hd := HP.out.get j hlt
          have hgd : l.getD j 0 = l[j] := by rw [List.getD_eq_getElem?_getD, List.getElem?_eq_getElem hlt]; rfl
          obtain ⟨q, hq⟩ : ∃ q, (low3 n).getD k 0 = q := ⟨_, rfl⟩
          have hcell2 : wr.cell? ⟨M, k, none⟩ = some (.int .i64 (q : Int)) := by
            rw [hlow.cell, ← hq, HLOW.out]
            match k, hk3 with
            | 0, _ => rfl
            | 1, _ => rfl
            | 2, _ => rfl
          have hq5 : q < 65536 := by
            rw [← hq, HLOW.out]
            match k, hk3 with
            | 0, _ => exact hb0
            | 1, _ => exact hb1
            | 2, _ => exact hb2
          have hst := upto_step l n j k hk3
          obtain ⟨d, hde⟩ : ∃ d, l[j] = d := ⟨_, rfl⟩
          rw [hgd, hq, hde] at hst
          rw [hde] at hcell hd
          obtain ⟨c, hce⟩ : ∃ c, d * q = c := ⟨_, rfl⟩
          rw [hce] at hst
          have hcl : c ≤ 65535 * 65535 := by rw [← hce]; exact Nat.mul_le_mul (by omega) (by omega)
          have hmul : (d : Int) * (q : Int) = (c : Int) := by rw [← hce]; simp
          have hcI : IntKind.i64.wrap (c : Int) = (c : Int) := IntWalk.i64_in _ (by omega)
          have HCL : Big (c ≤ 65535 * 65535) := ⟨hcl⟩
          have HD5 : Big (d < 65536) := ⟨hd⟩
          clear hcl hd hq5
          have hup := upto_lt l n j (k + 1) HP.out hlt hn.out
          obtain ⟨X, hX⟩ : ∃ X, upto l n j (k + 1) = X := ⟨_, rfl⟩
          rw [hX] at hst hup
          rw [← HL.out] at hup
          have HX := Lib.hid hX
          have HUP := Lib.hid hup
          have HV : Hid (val r + 65536 ^ (j + k) * c = X) := Lib.hid (by rw [hv, hst])
          have HPR := Lib.hid hpr
          have HRL := Lib.hid hrl
          have HROW := Lib.hid hrow
          have HLO := Lib.hid hlow
          have HBW := Lib.hid hbw
          have hk1 : (k : Int) < 3 := by omega
          have hk0 : 0 ≤ (k : Int) := by omega
          obtain ⟨m0, hm0⟩ : ∃ m0, j + k = m0 := ⟨_, rfl⟩
          have hjk : (j : Int) + (k : Int) = (m0 : Int) := by omega
          rw [hm0] at HV
          have HM := Lib.hid hm0
          clear hm0
          clear hv hpr hrl hrow hlow hbw hst hup hX hq hgd hde hce hc
          have HB012 : Big (n0 < 65536 ∧ n1 < 65536 ∧ n2 < 65536) := ⟨⟨hb0, hb1, hb2⟩⟩
          clear hb0 hb1 hb2
          go_wp2
          go_quiet (fail)
          have D1 := Lib.hid (HROW.out.drewN nq)
          have D2 := Lib.hid (HLO.out.drewN nq)
          have D3 := Lib.hid (HBW.out.drewN nq)
          clear hcell hcell2 HROW HLO HBW
          generalize wr.drewN nq = wq at *
          go_wp2
          have hm0 : m0 ≤ L := by have := HM.out; omega
          go_loopw [9, 10] (fun x i wr => ∃ (c m : Nat) (r : List Nat), Big (c < 8589934592) ∧ m ≤ L ∧ x = .int .i64 c ∧ i = .int .i64 m ∧ r.length = L ∧ Parts r ∧ val r + 65536 ^ m * c = X ∧ Row wr g 3 (sha_nats r) ∧ Row wr M 3 (sha_nats [n0, n1, n2]) ∧ Below w.heap.size w wr) (fun _ i _ => L - (intOf i).toNat)
          case atStart => exact ⟨c, m0, r, ⟨by have := HCL.out; omega⟩, hm0, rfl, rfl, HRL.out, HPR.out, HV.out, D1.out, D2.out, D3.out⟩
          case round =>
            clear HV HPR HRL D1 D2 D3 HCL hm0
            obtain ⟨c, m, r, hc, hm, rfl, rfl, hrl, hpr, hv, hrow, hlow, hbw⟩ := hrel
            by_cases hc0 : 0 < c
            · have hmL := carry_in r m c X L hv HUP.out hc0
              have hmr : m < r.length := by omega
              have hcar := carry r m c X hmr hv
              have hcell : wr.cell? ⟨g, m, none⟩ = some (.int .i64 (r[m] : Int)) := by rw [hrow.cell, sha_nats_get _ _ hmr]
              have hd := hpr.get m hmr
              have hset := fun x => hpr.set m x
              have hrset := fun x : Nat => hrow.set m (.int .i64 (x : Int))
              obtain ⟨d, hde⟩ : ∃ d, r[m] = d := ⟨_, rfl⟩
              rw [hde] at hcell hd hcar
              obtain ⟨s, hs⟩ : ∃ s, c + d = s := ⟨_, rfl⟩
              rw [hs] at hcar
              obtain ⟨t, ht⟩ : ∃ t, s % 65536 = t := ⟨_, rfl⟩
              obtain ⟨v, hv2⟩ : ∃ v, s / 65536 = v := ⟨_, rfl⟩
              rw [ht, hv2] at hcar
              have hcd := hc.out
              have f1 : (c : Int) + (d : Int) = (s : Int) := by omega
              have f2 : (s : Int) % 65536 = (t : Int) := by omega
              have f3 : (s : Int) / 65536 = (v : Int) := by omega
              have f2t : (s : Int).tmod 65536 = (t : Int) := by rw [Int.tmod_eq_emod_of_nonneg (by omega)]; exact f2
              have f3t : (s : Int).tdiv 65536 = (v : Int) := by rw [Int.tdiv_eq_ediv_of_nonneg (by omega)]; exact f3
              have f4 : IntKind.i64.wrap (s : Int) = (s : Int) := IntWalk.i64_in _ (by omega)
              have HVB : Big (v < 8589934592) := ⟨by omega⟩
              have HT : Big (t < 65536) := ⟨by omega⟩
              have HCAR := Lib.hid hcar
              have HSET : Hid (Parts (r.set m t)) := Lib.hid (hset t (by omega))
              have HRS : Hid (Row (wr.setCell ⟨g, m, none⟩ (.int .i64 (t : Int))) g 3 (sha_nats (r.set m t))) := Lib.hid (by have := hrset t; rwa [sha_nats_set] at this)
              have HRM : Hid (Row (wr.setCell ⟨g, m, none⟩ (.int .i64 (t : Int))) M 3 (sha_nats [n0, n1, n2])) := Lib.hid (hlow.far ⟨g, m, none⟩ _ (by show M ≠ g; omega))
              have HBS : Hid (Below w.heap.size w (wr.setCell ⟨g, m, none⟩ (.int .i64 (t : Int)))) := Lib.hid (hbw.setCell (p := ⟨g, m, none⟩) (by show w.heap.size ≤ g; rw [HG.out]; exact Nat.le_refl _) _)
              have HLR : Hid ((r.set m t).length = L) := Lib.hid (by rw [List.length_set]; exact hrl)
              have hf := hrow.frozen m
              have hm1 : (m : Int) < (L : Int) := by omega
              have hc1 : (0 : Int) < (c : Int) := by omega
              clear hc hrl hpr hv hrow hlow hbw hcar hset hrset hde hs ht hv2 hcd hd hmr hc0
              go_wp2
              go_roundw
              case rel => exact ⟨v, m + 1, _, HVB, by omega, congrArg (Value.int .i64) (IntWalk.wrap64_in _ (by have := HVB.out; omega)), by go_num, HLR.out, HSET.out, HCAR.out, HRS.out, HRM.out, HBS.out⟩
              case measure => simp [intOf]; omega
            · have ec : c = 0 := by omega
              have HV2 : Hid (val r = X) := Lib.hid (by rw [ec] at hv; simpa using hv)
              have HPR := Lib.hid hpr
              have HRL := Lib.hid hrl
              have HROW := Lib.hid hrow
              have HLO := Lib.hid hlow
              have HBW := Lib.hid hbw
              subst ec
              clear hv hpr hrl hrow hlow hbw hc hc0
              go_wp2
              go_roundw
              case rel => exact ⟨k + 1, r, by omega, by go_num, HRL.out, HPR.out, by rw [HV2.out, HX.out], HROW.out, HLO.out, HBW.out⟩
              case measure => simp [intOf]; omega
        · have ek : k = 3 := by omega
          have HV : Hid (val r = upto l n (j + 1) 0) := Lib.hid (by rw [hv, ek, upto_next _ _ _ hlt, upto_zero])
          have HPR := Lib.hid hpr
          have HRL := Lib.hid hrl
          have HROW := Lib.hid hrow
          have HLO := Lib.hid hlow
          have HBW := Lib.hid hbw
          subst ek
          clear hv hpr hrl hrow hlow hbw
          go_wp2
          go_roundw
          case rel => exact ⟨j + 1, r, by omega, by go_num, HRL.out, HPR.out, HV.out, HROW.out, HLO.out, HBW.out⟩
          case measure => simp [intOf]; omega
    · have ej : j = l.length := by omega
      have HV : Hid (val r = val l * n) := Lib.hid (by rw [hv, upto_zero, ej, List.take_of_length_le (Nat.le_refl _)])
      have HPR := Lib.hid hpr
      have HRL := Lib.hid hrl
      have HROW := Lib.hid hrow
      have HBW := Lib.hid hbw
      subst ej
      clear hv hpr hrl hrow hlow hbw
      go_wp2
      go_ret
      have hLL := HL.out
      exact ⟨r, by rw [hLL, HG.out]; rfl, by rw [HRL.out, hLL], HPR.out, HV.out, by rw [← HG.out]; exact HROW.out, HBW.out⟩

end Go.Proofs.YtmphjmbnfaimiaaDoor
