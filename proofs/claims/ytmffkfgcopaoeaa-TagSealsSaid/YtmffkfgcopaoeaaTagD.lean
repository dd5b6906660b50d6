/- tag's Split. -/
import Derived.Test.YtmffkfgcopaoeaaTagC
namespace Go.Proofs.Ytmffkfgcopaoeaa
open Go.RowKit CrcMath
set_option linter.unusedVariables false
set_option maxRecDepth 100000

/-- How many blocks there are. -/
def manyF (m : Int) : Nat := (min (max m 0) 64).toNat
theorem manyF_le (m : Int) : manyF m ≤ 64 := by unfold manyF; omega
theorem info_block : (Try.prog.info? 23).map (fun i => (i.zero, i.size)) = some (some (.agg (List.replicate 60 (.int .u8 0)).toArray), 60) := by kernel_rfl
theorem info_block2 : ((Try.prog.info? 23).map fun i => decide (i.bytes ≤ 4096)) = some true := by kernel_rfl

/-- The list while it is filled. -/
def half (n k : Nat) (l : List UInt8) : List UInt8 := (splitF k l).flatten ++ List.replicate (60 * (n - k)) 0
theorem split_flat_length (k : Nat) (l : List UInt8) : (splitF k l).flatten.length = 60 * k := by rw [flat_length _ (splitF_all k l), splitF_length]
theorem half_zero (n : Nat) (l : List UInt8) : half n 0 l = List.replicate (n * 60) 0 := by simp [half, splitF, Nat.mul_comm]
theorem half_full (n : Nat) (l : List UInt8) : half n n l = (splitF n l).flatten := by simp [half]
theorem half_now (n k : Nat) (l : List UInt8) (h : k < n) : half n k l = (splitF k l).flatten ++ List.replicate 60 0 ++ List.replicate (60 * (n - (k + 1))) 0 := by
  rw [half, List.append_assoc, List.replicate_append_replicate]
  congr 2
  omega
theorem half_next (n k : Nat) (l : List UInt8) : (splitF k l).flatten ++ blk (l.drop (60 * k)) ++ List.replicate (60 * (n - (k + 1))) 0 = half n (k + 1) l := by
  rw [half, splitF_succ, List.flatten_append, List.flatten_cons, List.flatten_nil, List.append_nil]

set_option maxHeartbeats 1000000 in
theorem tag_split_any (s : ByteArray) (m : Int) (w : World) (hs : s.size ≤ 140737488355328) :
    Calls Try.prog 15 #[.string s, .int .i64 m] w fun e w' => ∃ g, e = .returned (.slice (some ⟨g, 0, none⟩) (manyF m) (manyF m)) ∧ w.heap.size ≤ g ∧ Row w' g 23 (bytes (splitF (manyF m) s.data.toList).flatten) ∧ Below w.heap.size w w' := by
  obtain ⟨l, hl⟩ : ∃ l, l = s.data.toList := ⟨_, rfl⟩
  obtain ⟨n, hn⟩ : ∃ n, n = manyF m := ⟨_, rfl⟩
  have hsl : s = str (l.drop (60 * 0)) := by rw [hl, Nat.mul_zero, List.drop_zero, str_of]
  have hls : l.length ≤ 140737488355328 := by rw [hl, size_list]; exact hs
  have hmn : min (max m 0) 64 = (n : Int) := by rw [hn]; unfold manyF; omega
  have hn64 : n ≤ 64 := by rw [hn]; exact manyF_le m
  rw [← hl, ← hn]
  have HF : Hid (∀ k u, Calls Try.prog 21 #[.string (str (l.drop (60 * k)))] u fun e w' => e = .returned (.tuple #[.agg (bytes (blk (l.drop (60 * k)))).toArray, .string (str (l.drop (60 * (k + 1))))]) ∧ Below u.heap.size u w') := Lib.hid fun k u => by
    have := tag_first_any (str (l.drop (60 * k))) u (by rw [str_size, List.length_drop]; omega)
    rwa [str_list, List.drop_drop, show 60 * k + 60 = 60 * (k + 1) by omega] at this
  have HI := Lib.hid info_block
  have HI2 := Lib.hid info_block2
  have HS := Lib.hid hsl
  have HN := Lib.hid hn64
  have HMK : Hid (∀ u, Row u w.heap.size 23 (List.replicate (n * 60) (.int .u8 0)) → Row u w.heap.size 23 (bytes (half n 0 l))) := Lib.hid fun u h => by rw [half_zero, bytes_rep]; exact h
  have HMB : Hid (n ≤ 1000000) := Lib.hid (by omega)
  clear hs hls hn hn64 hl hsl
  go_enter Try.func15, Try.ntmps15
  go_wp2_with ((with_reducible refine wpMakeS 35 23 (.int .u8 0) 60 n Try.underlying35 HI.out HI2.out (by decide) HMB.out ?_ ?_); rfl; intro u1 r1 b1 s1; have R1 := Lib.hid (HMK.out u1 r1); have B1 := Lib.hid b1; clear r1 b1 s1)
  go_loopw [0, 6, 13] (fun t _ i wr => ∃ k : Nat, k ≤ n ∧ i = .int .i64 k ∧ t = .string (str (l.drop (60 * k))) ∧ Row wr w.heap.size 23 (bytes (half n k l)) ∧ Below w.heap.size w wr) (fun _ _ i _ => n - (intOf i).toNat)
  case atStart => exact ⟨0, by omega, rfl, by rw [← HS.out], R1.out, B1.out⟩
  case round =>
    obtain ⟨k, hk, rfl, rfl, hrow, hbw⟩ := hrel
    by_cases hlt : k < n
    · rw [half_now n k l hlt, bytes_append, bytes_append] at hrow
      have HNX : Hid (bytes (splitF k l).flatten ++ bytes (blk (l.drop (60 * k))) ++ bytes (List.replicate (60 * (n - (k + 1))) 0) = bytes (half n (k + 1) l)) := Lib.hid (by rw [← half_next, bytes_append, bytes_append])
      have L1 : Hid ((bytes (splitF k l).flatten).length = k * 60) := Lib.hid (by rw [bytes_length, split_flat_length]; omega)
      have L2 : Hid ((bytes (List.replicate 60 0)).length = 60) := Lib.hid (by rw [bytes_length, List.length_replicate])
      have L3 : Hid ((bytes (blk (l.drop (60 * k)))).length = 60) := Lib.hid (by rw [bytes_length, blk_length])
      have H1 : Hid ((bytes (blk (l.drop (60 * k)))).all (·.oneCell') = true) := Lib.hid (bytes_oneC _)
      have HF2 := Lib.hid (HF.out k wr)
      generalize bytes (blk (l.drop (60 * k))) = B at HNX L3 H1 HF2
      generalize bytes (splitF k l).flatten = X at HNX L1 hrow
      generalize bytes (List.replicate 60 0) = Y at L2 hrow
      generalize bytes (List.replicate (60 * (n - (k + 1))) 0) = Z at HNX hrow
      obtain ⟨S, hS⟩ : ∃ S, S = str (l.drop (60 * k)) := ⟨_, rfl⟩
      obtain ⟨S2, hS2⟩ : ∃ S, S = str (l.drop (60 * (k + 1))) := ⟨_, rfl⟩
      rw [← hS, ← hS2] at HF2
      rw [← hS]
      have HS2 := Lib.hid hS2
      have HROW := Lib.hid hrow
      have HBW := Lib.hid hbw
      clear hrow hbw hS hS2
      go_wp2_with (first
        | (go_at_call 21; (with_reducible refine HF2.out.mono ?_); rintro e u2 ⟨rfl, b2⟩; have R2 := Lib.hid (HROW.out.step b2); have B2 : Hid (Below w.heap.size w u2) := Lib.hid (HBW.out.next b2); clear b2)
        | ((with_reducible refine R2.out.wpStoreMidK (k * 60) L1.out 23 B fits_block L2.out L3.out H1.out ?_ ?_); rfl; intro u3 r3 o3 s3; rw [HNX.out] at r3; have R3 := Lib.hid r3; have B3 : Hid (Below w.heap.size w u3) := Lib.hid (B2.out.trans (o3.below (Nat.le_refl _) B2.out.size)); clear r3 o3 s3))
      go_roundw
      case rel => exact ⟨k + 1, by omega, by go_num, by rw [HS2.out], R3.out, B3.out⟩
      case measure => simp [intOf]; omega
    · have ek : k = n := by omega
      subst ek
      rw [half_full] at hrow
      have HROW := Lib.hid hrow
      clear hrow
      go_wp2
      go_ret
      exact ⟨_, rfl, Nat.le_refl _, HROW.out, hbw⟩
end Go.Proofs.Ytmffkfgcopaoeaa
