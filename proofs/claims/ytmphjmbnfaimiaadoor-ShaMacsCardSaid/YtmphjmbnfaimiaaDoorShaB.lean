/- Contracts of sha's spread. -/
import Derived.Test.YtmphjmbnfaimiaaDoorShaA
import Derived.Test.YtmphjmbnfaimiaaDoorRow
import Derived.StillTailTactics
import Derived.IntWalk
namespace Go.Proofs.YtmphjmbnfaimiaaDoor
open Go.RowKit ShaMath

theorem ex_or (y : W) (c : UInt8) : bits .or .u32 (tI y) (c.toNat : Int) = tI (y ||| ex c) := by
  have := w_or y (ex c)
  have e : tI (ex c) = (c.toNat : Int) := by unfold tI; rw [ex_toNat]
  rwa [e] at this
theorem byte_mod (c : UInt8) : (c.toNat : Int) % 4294967296 = (c.toNat : Int) := by
  have := c.toNat_lt
  omega
theorem w_shl8 (y : W) : (tI y * (256 : Int)) % (4294967296 : Int) = tI (y <<< 8) := by
  unfold tI
  rw [BitVec.toNat_shiftLeft, Nat.shiftLeft_eq]
  omega
theorem w_shr3 (y : W) : tI y / (8 : Int) = tI (y >>> 3) := by
  unfold tI
  rw [BitVec.toNat_ushiftRight, Nat.shiftRight_eq_div_pow]
  omega
theorem w_shr10 (y : W) : tI y / (1024 : Int) = tI (y >>> 10) := by
  unfold tI
  rw [BitVec.toNat_ushiftRight, Nat.shiftRight_eq_div_pow]
  omega

theorem u32s_set (l : List W) (j : Nat) (x : W) : (u32s l).set j (.int .u32 (tI x)) = u32s (l.set j x) := by
  simp [u32s, List.map_set]

theorem zero_words : (zeroValue 64).run Tryd.prog = fun u => .ok (.agg (u32s (List.replicate 64 0#32)).toArray) u := by
  funext u
  kernel_rfl

set_option maxRecDepth 100000 in
set_option maxHeartbeats 1000000 in
theorem spread_any (b : List UInt8) (w : World) (hb : b.length = 64) :
    Calls Tryd.prog 32 #[.agg (bytes b).toArray] w fun e w' => e = .returned (.agg (u32s (spr b)).toArray) ∧ Below w.heap.size w w' := by
  generalize hcs : (bytes b).toArray = cs
  have HCS := Lib.hid hcs
  have HB := Lib.hid hb
  clear hcs hb
  go_enter Tryd.func32, Tryd.ntmps32
  go_wp2
  have hr0 : Row (((w.alloc (.cells cs 53)).alloc (.cells (u32s (List.replicate 64 0#32)).toArray 64)).alloc (.cells (u32s (List.replicate 64 0#32)).toArray 64)) (w.heap.size + 1 + 1) 64 (u32s (loaded b 0)) := by
    rw [loaded_zero]
    have := Row.new ((w.alloc (.cells cs 53)).alloc (.cells (u32s (List.replicate 64 0#32)).toArray 64)) 64 (u32s (List.replicate 64 0#32))
    simpa using this
  have hr1 : Row (((w.alloc (.cells cs 53)).alloc (.cells (u32s (List.replicate 64 0#32)).toArray 64)).alloc (.cells (u32s (List.replicate 64 0#32)).toArray 64)) (w.heap.size + 1) 64 (u32s (List.replicate 64 0#32)) := by
    have := (Row.new (w.alloc (.cells cs 53)) 64 (u32s (List.replicate 64 0#32))).alloc (.cells (u32s (List.replicate 64 0#32)).toArray 64)
    simpa using this
  have hr2 : Row (((w.alloc (.cells cs 53)).alloc (.cells (u32s (List.replicate 64 0#32)).toArray 64)).alloc (.cells (u32s (List.replicate 64 0#32)).toArray 64)) w.heap.size 53 (bytes b) := by
    rw [← HCS.out]
    exact ((Row.new w 53 (bytes b)).alloc _).alloc _
  have hb0 : Below w.heap.size w (((w.alloc (.cells cs 53)).alloc (.cells (u32s (List.replicate 64 0#32)).toArray 64)).alloc (.cells (u32s (List.replicate 64 0#32)).toArray 64)) := (((Below.refl _ _).alloc (Nat.le_refl _) _).alloc (by simp) _).alloc (by simp; omega) _
  have HR0 := Lib.hid hr0
  have HR1 := Lib.hid hr1
  have HR2 := Lib.hid hr2
  have HB0 := Lib.hid hb0
  clear hr0 hr1 hr2 hb0
  go_loopw [8, 4] (fun i _ wr => ∃ k : Nat, k ≤ 64 ∧ i = .int .i64 k ∧ Row wr (w.heap.size + 1 + 1) 64 (u32s (loaded b k)) ∧ Row wr (w.heap.size + 1) 64 (u32s (List.replicate 64 0#32)) ∧ Row wr w.heap.size 53 (bytes b) ∧ Below w.heap.size w wr) (fun i _ _ => 64 - (intOf i).toNat)
  case atStart => exact ⟨0, by omega, rfl, HR0.out, HR1.out, HR2.out, HB0.out⟩
  case round =>
    obtain ⟨k, hk, rfl, hp, hz, hy, hbw⟩ := hrel
    by_cases hlt : k < 64
    · obtain ⟨q, hq⟩ : ∃ q, k / 4 = q := ⟨_, rfl⟩
      have hql : q < (loaded b k).length := by rw [loaded_length]; omega
      have hkb : k < b.length := by rw [HB.out]; exact hlt
      have hst : loaded b (k + 1) = (loaded b k).set q (((loaded b k)[q] <<< 8) ||| ex b[k]) := by
        subst hq
        exact loaded_step b k hkb hql
      obtain ⟨x, hx⟩ : ∃ x, (loaded b k)[q] = x := ⟨_, rfl⟩
      obtain ⟨c, hc⟩ : ∃ c, b[k] = c := ⟨_, rfl⟩
      have hp2 := hp.set q (.int .u32 (tI ((x <<< 8) ||| ex c)))
      rw [u32s_set, ← hx, ← hc, ← hst, hx, hc] at hp2
      have HP := Lib.hid hp2
      have HB2 : Hid (Below w.heap.size w (wr.setCell ⟨w.heap.size + 1 + 1, q, none⟩ (.int .u32 (tI ((x <<< 8) ||| ex c))))) := Lib.hid (hbw.setCell (p := ⟨_, _, _⟩) (by simp; omega) _)
      have hc1 : wr.cell? ⟨w.heap.size + 1 + 1, q, none⟩ = some (.int .u32 (tI x)) := by rw [hp.cell, u32s_get _ _ hql, hx]
      have hc2 : wr.cell? ⟨w.heap.size, k, none⟩ = some (.int .u8 (c.toNat : Int)) := by rw [hy.cell, bytes_get _ _ hkb, hc]
      have hf1 := hp.frozen q
      have HZ := Lib.hid (hz.far ⟨w.heap.size + 1 + 1, q, none⟩ (.int .u32 (tI ((x <<< 8) ||| ex c))) (by simp))
      have HY := Lib.hid (hy.far ⟨w.heap.size + 1 + 1, q, none⟩ (.int .u32 (tI ((x <<< 8) ||| ex c))) (by simp; omega))
      have hq1 : (k : Int) / 4 = (q : Int) := by omega
      have hq2 : (q : Int) < 64 := by omega
      have hq3 : q < 64 := by omega
      have hq0 : 0 ≤ (q : Int) := by omega
      have hk0 : 0 ≤ (k : Int) := by omega
      have hk1 : (k : Int) < 64 := by omega
      have hwq : IntKind.i64.wrap (q : Int) = (q : Int) := IntWalk.i64_in _ (by omega)
      have hs8 := w_shl8 x
      have hs9 : IntKind.u32.wrap (tI x * (256 : Int)) = tI (x <<< 8) := by rw [IntKind.wrap_u32]; exact hs8
      have hor := ex_or (x <<< 8) c
      have hcm := byte_mod c
      clear hp hz hy hbw hst hp2 hx hc hq hql hkb
      go_wp2
      go_still_tail 13, (by kernel_rfl)
      change wpList _ _ _ _ _ wr.drew
      go_wp2
      go_roundw
      case rel => exact ⟨k + 1, by omega, by go_num, HP.out.drew, HZ.out.drew, HY.out.drew, HB2.out.drew⟩
      case measure => simp [intOf]; omega
    · have ek : k = 64 := by omega
      rw [ek, show loaded b 64 = sch b 0 from rfl] at hp
      clear ek
      have HP := Lib.hid hp
      have HZ := Lib.hid hz
      have HBW := Lib.hid hbw
      clear hp hz hy hbw
      go_wp2
      go_loopw [5] (fun i wr => ∃ t : Nat, 16 ≤ t ∧ t ≤ 64 ∧ i = .int .i64 t ∧ Row wr (w.heap.size + 1 + 1) 64 (u32s (sch b (t - 16))) ∧ Row wr (w.heap.size + 1) 64 (u32s (List.replicate 64 0#32)) ∧ Below w.heap.size w wr) (fun i _ => 64 - (intOf i).toNat)
      case atStart => exact ⟨16, by omega, by omega, rfl, HP.out, HZ.out, HBW.out⟩
      case round =>
        obtain ⟨t, ht1, ht2, rfl, hp, hz, hbw⟩ := hrel
        by_cases hlt : t < 64
        · obtain ⟨i0, h0⟩ : ∃ i, t - 16 = i := ⟨_, rfl⟩
          obtain ⟨i1, h1⟩ : ∃ i, t - 15 = i := ⟨_, rfl⟩
          obtain ⟨i2, h2⟩ : ∃ i, t - 2 = i := ⟨_, rfl⟩
          obtain ⟨i7, h7⟩ : ∃ i, t - 7 = i := ⟨_, rfl⟩
          have hl := sch_length b i0
          rw [h0] at hp
          obtain ⟨a, ha⟩ : ∃ x, (sch b i0)[i0]'(by omega) = x := ⟨_, rfl⟩
          obtain ⟨x, hx⟩ : ∃ x, (sch b i0)[i1]'(by omega) = x := ⟨_, rfl⟩
          obtain ⟨y, hy⟩ : ∃ x, (sch b i0)[i2]'(by omega) = x := ⟨_, rfl⟩
          obtain ⟨z, hz7⟩ : ∃ x, (sch b i0)[i7]'(by omega) = x := ⟨_, rfl⟩
          have hst : sch b (i0 + 1) = (sch b i0).set t (ss1 y + z + ss0 x + a) := by
            rw [sch, show 16 + i0 = t by omega, ext, h2, h7, h1, h0]
            simp only [List.getD_eq_getElem?_getD]
            rw [List.getElem?_eq_getElem (by omega), List.getElem?_eq_getElem (by omega), List.getElem?_eq_getElem (by omega), List.getElem?_eq_getElem (by omega), ha, hx, hy, hz7]
            rfl
          have hp2 := hp.set t (.int .u32 (tI (ss1 y + z + ss0 x + a)))
          rw [u32s_set, ← hst, show i0 + 1 = t + 1 - 16 by omega] at hp2
          have hE : ss1 y + z + ss0 x + a = (rr y 17 ^^^ rr y 19 ^^^ y >>> 10) + z + (rr x 7 ^^^ rr x 18 ^^^ x >>> 3) + a := rfl
          rw [hE] at hp2
          have c0 : wr.cell? ⟨w.heap.size + 1 + 1, i0, none⟩ = some (.int .u32 (tI a)) := by rw [hp.cell, u32s_get _ _ (by omega), ha]
          have c1 : wr.cell? ⟨w.heap.size + 1 + 1, i1, none⟩ = some (.int .u32 (tI x)) := by rw [hp.cell, u32s_get _ _ (by omega), hx]
          have c2 : wr.cell? ⟨w.heap.size + 1 + 1, i2, none⟩ = some (.int .u32 (tI y)) := by rw [hp.cell, u32s_get _ _ (by omega), hy]
          have c7 : wr.cell? ⟨w.heap.size + 1 + 1, i7, none⟩ = some (.int .u32 (tI z)) := by rw [hp.cell, u32s_get _ _ (by omega), hz7]
          obtain ⟨u, hu⟩ : ∃ u, wr.cell? ⟨w.heap.size + 1 + 1, t, none⟩ = some u := ⟨_, by rw [hp.cell, u32s_get _ _ (by omega)]⟩
          have hf := hp.frozen t
          have HP := Lib.hid hp2
          have HZ := Lib.hid (hz.far ⟨w.heap.size + 1 + 1, t, none⟩ (.int .u32 (tI ((rr y 17 ^^^ rr y 19 ^^^ y >>> 10) + z + (rr x 7 ^^^ rr x 18 ^^^ x >>> 3) + a))) (by simp))
          have HB2 : Hid (Below w.heap.size w (wr.setCell ⟨w.heap.size + 1 + 1, t, none⟩ (.int .u32 (tI ((rr y 17 ^^^ rr y 19 ^^^ y >>> 10) + z + (rr x 7 ^^^ rr x 18 ^^^ x >>> 3) + a))))) := Lib.hid (hbw.setCell (p := ⟨_, _, _⟩) (by simp; omega) _)
          have e0 : (t : Int) - 16 = (i0 : Int) := by omega
          have e1 : (t : Int) - 15 = (i1 : Int) := by omega
          have e2 : (t : Int) - 2 = (i2 : Int) := by omega
          have e7 : (t : Int) - 7 = (i7 : Int) := by omega
          have w0 : IntKind.i64.wrap (i0 : Int) = (i0 : Int) := IntWalk.i64_in _ (by omega)
          have w1 : IntKind.i64.wrap (i1 : Int) = (i1 : Int) := IntWalk.i64_in _ (by omega)
          have w2 : IntKind.i64.wrap (i2 : Int) = (i2 : Int) := IntWalk.i64_in _ (by omega)
          have w7 : IntKind.i64.wrap (i7 : Int) = (i7 : Int) := IntWalk.i64_in _ (by omega)
          have b0 : (i0 : Int) < 64 := by omega
          have b1 : (i1 : Int) < 64 := by omega
          have b2 : (i2 : Int) < 64 := by omega
          have b7 : (i7 : Int) < 64 := by omega
          have n0 : i0 < 64 := by omega
          have n1 : i1 < 64 := by omega
          have n2 : i2 < 64 := by omega
          have n7 : i7 < 64 := by omega
          have ht3 : (t : Int) < 64 := by omega
          have ht0 : 0 ≤ (t : Int) := by omega
          have rx := w_xor
          have ra := w_add
          have rm := w_mod
          clear hp hz hbw hst hp2 hE hl ha hx hy hz7 h0 h1 h2 h7
          go_wp2
          go_quiet (fail)
          have c0q : (wr.drewN nq).cell? ⟨w.heap.size + 1 + 1, i0, none⟩ = some (.int .u32 (tI a)) := c0
          have c7q : (wr.drewN nq).cell? ⟨w.heap.size + 1 + 1, i7, none⟩ = some (.int .u32 (tI z)) := c7
          have huq : (wr.drewN nq).cell? ⟨w.heap.size + 1 + 1, t, none⟩ = some u := hu
          have hfq : (wr.drewN nq).frozen? ⟨w.heap.size + 1 + 1, t, none⟩ = false := hf
          have HPq : Hid (Row ((wr.drewN nq).setCell ⟨w.heap.size + 1 + 1, t, none⟩ (.int .u32 (tI ((rr y 17 ^^^ rr y 19 ^^^ y >>> 10) + z + (rr x 7 ^^^ rr x 18 ^^^ x >>> 3) + a)))) _ _ _) := HP
          have HZq : Hid (Row ((wr.drewN nq).setCell ⟨w.heap.size + 1 + 1, t, none⟩ (.int .u32 (tI ((rr y 17 ^^^ rr y 19 ^^^ y >>> 10) + z + (rr x 7 ^^^ rr x 18 ^^^ x >>> 3) + a)))) _ _ _) := HZ
          have HBq : Hid (Below w.heap.size w ((wr.drewN nq).setCell ⟨w.heap.size + 1 + 1, t, none⟩ (.int .u32 (tI ((rr y 17 ^^^ rr y 19 ^^^ y >>> 10) + z + (rr x 7 ^^^ rr x 18 ^^^ x >>> 3) + a))))) := Lib.hid (HB2.out.drewN nq)
          clear c0 c1 c2 c7 hu hf HP HZ HB2
          generalize wr.drewN nq = wq at *
          go_wp2
          have r3 := w_shr3
          have r10 := w_shr10
          go_still_tail 29, (by kernel_rfl)
          repeat (first | still_step | still_call (right_t _ _ _ (by omega) (by omega)))
          refine wpStill_nil ?_
          change wpList _ _ _ _ _ wq.drew
          go_wp2
          go_roundw
          case rel => exact ⟨t + 1, by omega, by omega, by go_num, HPq.out.drew, HZq.out.drew, HBq.out.drew⟩
          case measure => simp [intOf]; omega
        · have et : t = 64 := by omega
          rw [et, show sch b (64 - 16) = spr b from rfl] at hp
          obtain ⟨S, hS⟩ : ∃ S, S = u32s (spr b) := ⟨_, rfl⟩
          obtain ⟨Z, hZ⟩ : ∃ Z, Z = u32s (List.replicate 64 0#32) := ⟨_, rfl⟩
          rw [← hS] at hp
          rw [← hZ] at hz
          have hl : S.length = 64 := by rw [hS, u32s_length, spr_length]
          have HI : Hid ((Tryd.prog.info? 64).map (·.size) = some S.length) := Lib.hid (by rw [hl]; kernel_rfl)
          have HL : Hid (Z.length = S.length) := Lib.hid (by rw [hl, hZ]; simp [u32s])
          have H1 : Hid (S.all (·.oneCell') = true) := Lib.hid (by rw [hS]; simp [u32s, Value.oneCell'])
          have HRES := Lib.hid (hz.put S)
          have HB2 := Lib.hid (hbw.putRow (g := w.heap.size + 1) (by omega) S.toArray)
          have HP := Lib.hid hp
          have HZ := Lib.hid hz
          have HS := Lib.hid hS
          clear hp hz hbw hl et hS hZ
          go_wp2_with (first
            | (refine (HP.out.wpLoad 64 _ Tryd.underlying64 rfl HI.out _ rfl rfl rfl ?_))
            | (refine (HZ.out.wpStore 64 S HI.out HL.out H1.out _ _ rfl rfl rfl rfl ?_)))
          exact bodyPost_ret (HRES.out.result rfl _ _ rfl Tryd.underlying64 rfl HI.out) rfl ⟨by rw [HS.out], HB2.out⟩

end Go.Proofs.YtmphjmbnfaimiaaDoor
