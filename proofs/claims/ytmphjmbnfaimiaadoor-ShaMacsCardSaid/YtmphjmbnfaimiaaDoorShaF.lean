/- Contracts of sha's against and tail. -/
import Derived.Test.YtmphjmbnfaimiaaDoorShaE
import Derived.OwnWalk
namespace Go.Proofs.YtmphjmbnfaimiaaDoor
open Go.RowKit ShaMath

theorem xor_u8 (a b : UInt8) : bits .xor .u8 (a.toNat : Int) (b.toNat : Int) = ((a ^^^ b).toNat : Int) := by
  have h1 := a.toNat_lt
  have h2 := b.toNat_lt
  rw [u8_xor_nat _ _ (by omega) (by omega), UInt8.toNat_xor]

set_option maxHeartbeats 1000000 in
theorem against_any (key : ByteArray) (x : UInt8) (w : World) (hk : key.size ≤ 64) :
    Calls Tryd.prog 26 #[.string key, .int .u8 (x.toNat : Int)] w fun e w' => e = .returned (.string (str (agn key.data.toList x))) ∧ Below w.heap.size w w' := by
  obtain ⟨n, hn⟩ : ∃ n, key.size = n := ⟨_, rfl⟩
  have hn2 : n ≤ 64 := by omega
  obtain ⟨O, hO⟩ : ∃ O : List UInt8, O = List.replicate 64 0 := ⟨_, rfl⟩
  obtain ⟨P, hP⟩ : ∃ P : List UInt8, P = key.data.toList ++ List.replicate (64 - n) 0 := ⟨_, rfl⟩
  have hag : agn key.data.toList x = P.map (· ^^^ x) := by rw [hP, agn, size_list, hn]
  obtain ⟨L, hL⟩ : ∃ L : List UInt8, L = P.map (· ^^^ x) := ⟨_, rfl⟩
  have lP : P.length = 64 := by rw [hP]; simp [hn]; omega
  have lL : L.length = 64 := by rw [hL]; simp [lP]
  have hsplit : bytes O = [] ++ bytes (List.replicate n 0) ++ bytes (List.replicate (64 - n) 0) := by
    rw [List.nil_append, ← bytes_append, List.replicate_append_replicate, hO, show n + (64 - n) = 64 by omega]
  have hget : ∀ (i : Nat) (c : UInt8), P[i]? = some c → L[i]? = some (c ^^^ x) := by
    intro i c h
    rw [hL, List.getElem?_map, h]
    rfl
  have hdone : [] ++ bytes (key.data.toList.take n) ++ bytes (List.replicate (64 - n) 0) = bytes P := by
    rw [List.nil_append, List.take_of_length_le (by rw [size_list]; omega), hP, bytes_append]
  rw [hag, ← hL]
  have HZ : Hid (∀ u, (zeroValue 53).run Tryd.prog u = .ok (.agg (bytes O).toArray) u) := Lib.hid (by rw [hO]; exact zeroB64)
  have HN : Hid (Nat.min key.size 64 = n) := Lib.hid (by rw [hn]; exact Nat.min_eq_left hn2)
  have LR : Hid ((bytes (List.replicate n 0)).length = n) := Lib.hid (by simp [bytes])
  have HU := Tryd.underlying47
  have HO1 := sha_one_byte
  have LP := Lib.hid lP
  have LL := Lib.hid lL
  have HG := Lib.hid hget
  have HS := Lib.hid hsplit
  have HD := Lib.hid hdone
  clear hn hO hP hag hL lP lL hsplit hget hdone
  go_enter Tryd.func26, Tryd.ntmps26
  go_wp2_with (first
    | ((with_reducible refine wpAllocK (bytes O) 53 HZ.out ?_ ?_); rfl; intro u0 r0 b0 s0; have R0 : Hid (Row u0 w.heap.size _ ([] ++ bytes (List.replicate n 0) ++ bytes (List.replicate (64 - n) 0))) := Lib.hid (by rw [← HS.out]; exact r0); have B0 := Lib.hid b0; clear r0 b0 s0)
    | ((with_reducible refine R0.out.wpCopyK rfl 9 64 Tryd.underlying47 sha_one_byte HN.out LR.out ?_ ?_); rfl; intro u1 r1 o1 s1; have R1 : Hid (Row u1 w.heap.size _ (bytes P)) := Lib.hid (by rw [← HD.out]; exact r1); have O1 := Lib.hid o1; clear r1 o1 s1))
  have B1 : Hid (Below w.heap.size w u1) := Lib.hid (B0.out.trans (O1.out.below (Nat.le_refl _) B0.out.size))
  clear R0 B0 O1 HS HD HN LR HZ HU HO1
  go_loopw [10] (fun i wr => ∃ k : Nat, k ≤ 64 ∧ i = .int .i64 k ∧ Row wr w.heap.size 53 (bytes (over L P k)) ∧ Below w.heap.size w wr) (fun i _ => 64 - (intOf i).toNat)
  case atStart => exact ⟨0, by omega, rfl, by rw [over_zero]; exact R1.out, B1.out⟩
  case round =>
    clear R1 B1
    obtain ⟨k, hk, rfl, hr, hbw⟩ := hrel
    by_cases hlt : k < 64
    · have hkP : k < P.length := by rw [LP.out]; exact hlt
      have hkL : k < L.length := by rw [LL.out]; exact hlt
      have hlen : L.length = P.length := by rw [LL.out, LP.out]
      obtain ⟨c, hc⟩ : ∃ c, P[k] = c := ⟨_, rfl⟩
      have hd := HG.out k c (by rw [List.getElem?_eq_getElem hkP, hc])
      rw [List.getElem?_eq_getElem hkL] at hd
      have hd2 := Option.some.inj hd
      have hcell : wr.cell? ⟨w.heap.size, k, none⟩ = some (.int .u8 (c.toNat : Int)) := by
        have := over_get L P k hlen hkP
        rw [hr.cell, bytes, List.getElem?_map, this, hc]
        rfl
      have hf := hr.frozen k
      have hset := hr.set k (.int .u8 ((c ^^^ x).toNat : Int))
      rw [bytes_set, ← hd2, over_step L P k hlen hkL, hd2] at hset
      have HSET := Lib.hid hset
      have HB := Lib.hid (hbw.setCell (p := ⟨w.heap.size, k, none⟩) (Nat.le_refl _) (.int .u8 ((c ^^^ x).toNat : Int)))
      have hx := xor_u8 c x
      have hk1 : (k : Int) < 64 := by omega
      have hk0 : 0 ≤ (k : Int) := by omega
      clear hr hbw hd hd2 hc hset hkP hkL hlen
      go_wp2
      go_roundw
      case rel => exact ⟨k + 1, by omega, by go_num, HSET.out, HB.out⟩
      case measure => simp [intOf]; omega
    · have ek : k = 64 := by omega
      rw [ek, over_full L P 64 (by rw [LL.out]; omega) (by rw [LP.out]; omega)] at hr
      have hconv := conv_bytes w.heap.size 0 64 L 64 wr LL.out (fun j hj => by rw [Nat.zero_add, hr.cell, bytes_get _ _ hj])
      have HB := Lib.hid hbw
      clear hr hbw ek
      go_wp2
      go_ret
      exact ⟨rfl, HB.out⟩

theorem byte_zero : (Tryd.prog.info? 5).map (fun i => (i.zero, i.size, i.bytes)) = some (some (.int .u8 0), 1, 8) ∨ (Tryd.prog.info? 5).map (fun i => (i.zero, i.size, i.bytes)) = some (some (.int .u8 0), 1, 1) := Or.inr (by kernel_rfl)

theorem eight_byte (n k : Nat) (hk : k < 8) : (eightB n)[k]? = some (UInt8.ofNat (n / 2 ^ (8 * (7 - k)) % 256)) := by
  rw [eightB, List.getElem?_map, List.getElem?_eq_getElem (by simpa using hk), List.getElem_range, Nat.pow_mul]
  rfl

set_option maxHeartbeats 1000000 in
theorem sha_tail_any (n : Nat) (w : World) (hn : n < 1000000000000) :
    Calls Tryd.prog 24 #[.int .i64 (n : Int)] w fun e w' => e = .returned (.string (str (tailL n))) ∧ Below w.heap.size w w' := by
  obtain ⟨m, hm⟩ : ∃ m, n % 64 = m := ⟨_, rfl⟩
  obtain ⟨d, hd⟩ : ∃ d, 119 - m = d := ⟨_, rfl⟩
  obtain ⟨z, hz⟩ : ∃ z, d % 64 = z := ⟨_, rfl⟩
  obtain ⟨p, hp⟩ : ∃ p, 1 + z = p := ⟨_, rfl⟩
  obtain ⟨c, hc⟩ : ∃ c, p + 8 = c := ⟨_, rfl⟩
  obtain ⟨n8, hn8⟩ : ∃ x, n * 8 = x := ⟨_, rfl⟩
  obtain ⟨X, hX⟩ : ∃ X : List UInt8, X = 128 :: List.replicate z 0 := ⟨_, rfl⟩
  obtain ⟨E, hE⟩ : ∃ E : List UInt8, E = eightB n8 := ⟨_, rfl⟩
  have ht : tailL n = X ++ E := by rw [tailL, hX, hE, hm, hd, hz, ← hn8, Nat.mul_comm]; rfl
  have lX : X.length = p := by rw [hX]; simp; omega
  have lE : E.length = 8 := by rw [hE, eightB_length]
  have hrep : (List.replicate c (Value.int .u8 0)).set 0 (.int .u8 128) = bytes X ++ bytes (List.replicate 8 0) := by
    rw [← bytes_append, hX, show c = 1 + (z + 8) by omega, Nat.add_comm 1, List.replicate_succ, List.set_cons_zero, List.cons_append, List.replicate_append_replicate]
    simp [bytes]
  rw [ht]
  have e1 : (n : Int) % 64 = (m : Int) := by omega
  have e2 : 119 - (m : Int) = (d : Int) := by omega
  have e3 : (d : Int) % 64 = (z : Int) := by omega
  have e4 : 1 + (z : Int) = (p : Int) := by omega
  have e5 : (p : Int) + 8 = (c : Int) := by omega
  have e6 : (n : Int) * 8 = (n8 : Int) := by omega
  have e7 : IntKind.u64.wrap (n : Int) = (n : Int) := by rw [IntKind.wrap_u64]; omega
  have b1 : (m : Int) < 64 := by omega
  have b2 : (d : Int) ≤ 119 := by omega
  have b3 : (z : Int) < 64 := by omega
  have b4 : (p : Int) ≤ 64 := by omega
  have b4' : 1 ≤ (p : Int) := by omega
  have b5 : (c : Int) ≤ 72 := by omega
  have b5' : 9 ≤ c := by omega
  have b6 : (n8 : Int) < 8000000000000 := by omega
  have b7 : p + 8 ≤ c := by omega
  have hb8 : (n : Int) < 1000000000000 := by omega
  have e8 : IntKind.u64.wrap (n8 : Int) = (n8 : Int) := by rw [IntKind.wrap_u64]; omega
  have HR := Lib.hid hrep
  have LX := Lib.hid lX
  have LE := Lib.hid lE
  have HE := Lib.hid hE
  have HPC := Lib.hid hc
  have hpc : p ≤ c := by omega
  clear hn b6 hb8
  clear hm hd hz hp hc hn8 hX hE ht lX lE hrep
  go_enter Tryd.func24, Tryd.ntmps24
  go_wp2_with (first
    | ((with_reducible refine wpMakeK 47 5 (.int .u8 0) p c Tryd.underlying47 byte_zero rfl hpc (by omega) ?_ ?_); rfl; intro u0 r0 b0 s0; have R0 := Lib.hid r0; have hc0 : u0.cell? ⟨w.heap.size, 0, none⟩ = some (.int .u8 0) := (by rw [r0.cell, List.getElem?_replicate, if_pos (by omega)]); have hf0 := r0.frozen 0; have B0 := Lib.hid b0; clear r0 b0 s0))
  have hown0 : (u0.setCell ⟨w.heap.size, 0, none⟩ (.int .u8 128)).ownsRow w.heap.size 5 1 (.slice (some ⟨w.heap.size, 0, none⟩) p c) (p + 0) (bytes X ++ bytes (E.take 0)) := by
    have h1 := R0.out.set 0 (.int .u8 128)
    rw [HR.out] at h1
    have := h1.owns (base := w.heap.size) (n := p) (cap := c) (Nat.le_refl _) (by rw [bytes_length, LX.out]) (by simp [bytes]; omega) hpc (by unfold maxLen; omega)
    simpa [bytes] using this
  have HOWN := Lib.hid hown0
  have HB := Lib.hid (B0.out.setCell (p := ⟨w.heap.size, 0, none⟩) (Nat.le_refl _) (.int .u8 128))
  have hp64 : p ≤ 64 := by omega
  clear hown0 R0 hc0 hf0 B0 HR e1 e2 e3 e4 e5 b1 b2 b3 b4 b4' b5 b5' b7 hpc
  go_loopw [18, 4] (fun i v wr => ∃ k : Nat, k ≤ 8 ∧ i = .int .i64 k ∧ wr.ownsRow w.heap.size 5 1 v (p + k) (bytes X ++ bytes (E.take k)) ∧ Below w.heap.size w wr) (fun i _ _ => 8 - (intOf i).toNat)
  case atStart => exact ⟨0, by omega, rfl, HOWN.out, HB.out⟩
  case round =>
    clear HOWN HB
    obtain ⟨k, hk, rfl, hown, hbw⟩ := hrel
    by_cases hlt : k < 8
    · obtain ⟨j, hj⟩ : ∃ j, 7 - k = j := ⟨_, rfl⟩
      obtain ⟨s, hs⟩ : ∃ s, 8 * j = s := ⟨_, rfl⟩
      have hkE : k < E.length := by rw [LE.out]; exact hlt
      obtain ⟨b, hb⟩ : ∃ b, E[k] = b := ⟨_, rfl⟩
      have hby := eight_byte n8 k hlt
      rw [← HE.out, List.getElem?_eq_getElem hkE, hb, hj, hs] at hby
      have hby2 : (n8 : Int) / 2 ^ s % 256 = (b.toNat : Int) := by rw [Option.some.inj hby, NumMath.toNat_mod]; simp
      have HT : Hid (E.take (k + 1) = E.take k ++ [b]) := Lib.hid (by rw [List.take_succ_eq_append_getElem hkE, hb])
      have HOWN := Lib.hid (hown.alloc (.cells #[.int .u8 (b.toNat : Int)] 5))
      have HL : Hid (Lies (wr.alloc (.cells #[.int .u8 (b.toNat : Int)] 5)) (wr.alloc (.cells #[.int .u8 (b.toNat : Int)] 5)).heap.size (some ⟨wr.heap.size, 0, none⟩) [.int .u8 (b.toNat : Int)]) := Lib.hid (Lies.new [_] _ _)
      have HBW := Lib.hid (hbw.alloc hbw.size (.cells #[.int .u8 (b.toNat : Int)] 5))
      have hzz : w.heap.size ≤ (wr.alloc (.cells #[.int .u8 (b.toNat : Int)] 5)).heap.size := HBW.out.size
      have HZZ := Lib.hid hzz
      have HOL : Hid (∀ j, u4.ownBlock = some j → w.heap.size ≤ j) := Lib.hid fun j hj => (hown.lt j hj).1
      have f1 : 7 - (k : Int) = (j : Int) := by omega
      have f2 : 8 * (j : Int) = (s : Int) := by omega
      have g1 : (j : Int) < 8 := by omega
      have g2 : (s : Int) < 64 := by omega
      have hk1 : (k : Int) < 8 := by omega
      have HO1 : Hid ((Value.int .u8 (b.toNat : Int)).oneCell' = true) := Lib.hid rfl
      have HPK : Big (p + k + 1 ≤ 1099511627776) := ⟨by omega⟩
      clear hown hbw hzz hby hb hkE hj hs
      go_wp2_with (first
        | ((with_reducible refine wpAppend1K HOWN.out Tryd.underlying47 sha_one_byte HL.out HO1.out HPK HZZ.out ?_ ?_); rfl; intro v1 w1 g1 g2 g3; have HV1 := Lib.hid g1; have HG1 := Lib.hid g2; clear g1 g2 g3))
      go_roundw
      case rel =>
        refine ⟨k + 1, by omega, by go_num, ?_, HBW.out.grown HG1.out HZZ.out HOL.out⟩
        rw [HT.out, bytes_append, ← List.append_assoc]
        exact HV1.out
      case measure => simp [intOf]; omega
    · have ek : k = 8 := by omega
      rw [ek, List.take_of_length_le (by rw [LE.out]; omega), ← bytes_append] at hown
      have hconv := own_string hown
      have HB := Lib.hid hbw
      clear hown hbw ek
      go_wp2
      go_ret
      exact ⟨rfl, HB.out⟩

end Go.Proofs.YtmphjmbnfaimiaaDoor
