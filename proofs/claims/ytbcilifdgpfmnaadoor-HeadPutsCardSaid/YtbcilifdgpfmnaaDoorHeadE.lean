/- The document's Put, of a right head. -/
import Derived.Test.YtbcilifdgpfmnaaDoorHeadD
namespace Go.Proofs.YtbcilifdgpfmnaaDoor
open Go.RowKit HeadMath NumMath
set_option linter.unusedVariables false
set_option maxRecDepth 100000

set_option maxHeartbeats 1000000 in
theorem rhead_put_any (a b c n : Int) (H : List UInt8) (w : World) (hok : hOk a b c n = true) (hH : H.length = 32) :
    Calls Tryd.prog 10 #[.agg (hdv a b c n H).toArray] w fun e w' => e = .returned (.string (str (headB a b c n H))) ∧ Below w.heap.size w w' := by
  obtain ⟨h1, h2, h3, h4⟩ := hOk_is hok
  obtain ⟨TV, hTV⟩ : ∃ T, str (be 2 a.toNat ++ be 2 b.toNat ++ be 2 c.toNat) = T := ⟨_, rfl⟩
  obtain ⟨TN, hTN⟩ : ∃ T, str (be 4 n.toNat) = T := ⟨_, rfl⟩
  obtain ⟨TH, hTH⟩ : ∃ T, str H = T := ⟨_, rfl⟩
  obtain ⟨TR, hTR⟩ : ∃ T, str (headB a b c n H) = T := ⟨_, rfl⟩
  have zV : TV.size = 6 := by rw [← hTV, str_size]; simp [be_length]
  have zN : TN.size = 4 := by rw [← hTN, str_size, be_length]
  have zH : TH.size = 32 := by rw [← hTH, str_size, hH]
  have HRES : Hid (({ data := #[84, 82, 73, 80] } : ByteArray) ++ TV ++ TN ++ TH ++ str [0, 0] = TR) := Lib.hid (by
    rw [← hTV, ← hTN, ← hTH, ← hTR, show ({ data := #[84, 82, 73, 80] } : ByteArray) = str [84, 82, 73, 80] from rfl, str_append, str_append, str_append, str_append]
    rfl)
  have s1 : (({ data := #[84, 82, 73, 80] } : ByteArray)).size = 4 := rfl
  have s2 : (({ data := #[84, 82, 73, 80] } : ByteArray) ++ TV).size = 10 := by rw [ByteArray.size_append, zV]; rfl
  have s3 : (({ data := #[84, 82, 73, 80] } : ByteArray) ++ TV ++ TN).size = 14 := by rw [ByteArray.size_append, s2, zN]
  have s4 : (({ data := #[84, 82, 73, 80] } : ByteArray) ++ TV ++ TN ++ TH).size = 46 := by rw [ByteArray.size_append, s3, zH]
  have s5 : (str [0, 0]).size = 2 := rfl
  have HP1 : Hid (∀ u, Calls Tryd.prog 19 #[.int .i64 2, .slice (some ⟨u.heap.size, 0, none⟩) 3 3] (u.alloc (.cells #[.int .i64 a, .int .i64 b, .int .i64 c] 3)) fun e u' => e = .returned (.tuple #[.string TV, .int .i64 0]) ∧ Below u.heap.size u u') := Lib.hid fun u => by
    rw [← hTV]
    exact (num_refPut_at 2 _ 3 3 [a, b, c] _ 0 (u.alloc (.cells #[.int .i64 a, .int .i64 b, .int .i64 c] 3)) rfl (putR_ver hok) (by omega) (by intro x hx; simp at hx; omega) (Lies.new (ints [a, b, c]) u 3)).mono fun e u' h => ⟨h.1, (alloc_below u _).next h.2⟩
  have HP2 : Hid (∀ u, Calls Tryd.prog 19 #[.int .i64 4, .slice (some ⟨u.heap.size, 0, none⟩) 1 1] (u.alloc (.cells #[.int .i64 n] 3)) fun e u' => e = .returned (.tuple #[.string TN, .int .i64 0]) ∧ Below u.heap.size u u') := Lib.hid fun u => by
    rw [← hTN]
    exact (num_refPut_at 4 _ 1 1 [n] _ 0 (u.alloc (.cells #[.int .i64 n] 3)) rfl (putR_len hok) (by omega) (by intro x hx; simp at hx; omega) (Lies.new (ints [n]) u 3)).mono fun e u' h => ⟨h.1, (alloc_below u _).next h.2⟩
  have HTH := Lib.hid hTH
  have LH := Lib.hid hH
  rw [hTR]
  obtain ⟨V, hV⟩ : ∃ V, hdv a b c n H = V := ⟨_, rfl⟩
  have H0 : Hid (V[0]? = some (.int .i64 a)) := Lib.hid (by rw [← hV]; rfl)
  have H1 : Hid (V[1]? = some (.int .i64 b)) := Lib.hid (by rw [← hV]; rfl)
  have H2 : Hid (V[2]? = some (.int .i64 c)) := Lib.hid (by rw [← hV]; rfl)
  have H3 : Hid (V[3]? = some (.int .i64 n)) := Lib.hid (by rw [← hV]; rfl)
  have HCC : Hid (∀ u g t, Row u g t V → ∀ (j : Nat) (hj : j < H.length), u.cell? ⟨g, 4 + j, none⟩ = some (.int .u8 (H[j].toNat : Int))) := Lib.hid (by rw [← hV]; exact fun u g t r j hj => hdv_hash a b c n H u g t r j hj)
  rw [hV]
  clear hok hH hTV hTN hTH hTR hV h1 h2 h3 h4
  go_enter Tryd.func10, Tryd.ntmps10
  go_wp2_with (first
    | ((with_reducible refine wpBoxK V 29 ?_ ?_); rfl; intro u1 r1 b1 s1; have R1 := Lib.hid r1; have B1 := Lib.hid b1; have c0 : u1.cell? ⟨w.heap.size, 0, none⟩ = some (.int .i64 a) := (r1.cell 0).trans H0.out; have c1 : u1.cell? ⟨w.heap.size, 1, none⟩ = some (.int .i64 b) := (r1.cell 1).trans H1.out; have c2 : u1.cell? ⟨w.heap.size, 2, none⟩ = some (.int .i64 c) := (r1.cell 2).trans H2.out; have hbs : w.heap.size < u1.heap.size := r1.lt; clear r1 b1 s1)
    | (go_at_call 19; (with_reducible refine (HP1.out u1).mono ?_); rintro e u3 ⟨rfl, b3⟩; have R3 := Lib.hid (R1.out.step b3); have B3 : Hid (Below w.heap.size w u3) := Lib.hid (B1.out.next b3); have c3 : u3.cell? ⟨w.heap.size, 3, none⟩ = some (.int .i64 n) := (R3.out.cell 3).trans H3.out; clear b3)
    | (go_at_call 19; (with_reducible refine (HP2.out u3).mono ?_); rintro e u4 ⟨rfl, b4⟩; have B4 : Hid (Below w.heap.size w u4) := Lib.hid (B3.out.next b4); have R4 := Lib.hid (R3.out.step b4); clear b4))
  have hown0 : (u4.alloc (.cells #[] 5)).ownsRow u4.heap.size 5 1 (.slice (some ⟨u4.heap.size, 0, none⟩) 0 0) 0 (bytes (H.take 0)) := by
    have h1 : Row (u4.alloc (.cells #[] 5)) u4.heap.size 5 ([] ++ []) := Row.new u4 _ []
    have := h1.owns (base := u4.heap.size) (n := 0) (cap := 0) (Nat.le_refl _) rfl rfl (by omega) (by unfold maxLen; omega)
    simpa [bytes] using this
  have hr1 := R4.out.step (alloc_below u4 (.cells #[] 5))
  have hb1 := B4.out.next (alloc_below u4 (.cells #[] 5))
  have hz1 : u4.heap.size ≤ (u4.alloc (.cells #[] 5)).heap.size := (alloc_below u4 (.cells #[] 5)).size
  have HOWN := Lib.hid hown0
  have HR := Lib.hid hr1
  have HB := Lib.hid hb1
  have HZ := Lib.hid hz1
  obtain ⟨M, hM⟩ : ∃ M, M = u4.heap.size := ⟨_, rfl⟩
  have hMw : w.heap.size < M := by have := R4.out.lt; omega
  clear hown0 hr1 hb1 hz1 c0 c1 c2 c3
  go_loopw [7, 8] (fun v i wr => ∃ k : Nat, k ≤ 32 ∧ i = .int .i64 k ∧ wr.ownsRow M 5 1 v k (bytes (H.take k)) ∧ Row wr w.heap.size 29 V ∧ M ≤ wr.heap.size ∧ Below w.heap.size w wr) (fun _ i _ => 32 - (intOf i).toNat)
  case atStart => exact ⟨0, by omega, rfl, by rw [hM]; exact HOWN.out, HR.out, by rw [hM]; exact HZ.out, HB.out⟩
  case round =>
    clear HOWN HR HB HZ hM
    obtain ⟨k, hk, rfl, hown, hr, hmw, hbw⟩ := hrel
    by_cases hlt : k < 32
    · have hkA : k < H.length := by rw [LH.out]; exact hlt
      obtain ⟨x, hb⟩ : ∃ b, H[k] = b := ⟨_, rfl⟩
      have hcell : wr.cell? ⟨w.heap.size, 4 + k, none⟩ = some (.int .u8 (x.toNat : Int)) := by rw [HCC.out wr _ _ hr k hkA, hb]
      have HT : Hid (bytes (H.take (k + 1)) = bytes (H.take k) ++ [.int .u8 (x.toNat : Int)]) := Lib.hid (by rw [List.take_succ_eq_append_getElem hkA, hb, bytes_append]; rfl)
      have HOWN := Lib.hid (hown.alloc (.cells #[.int .u8 (x.toNat : Int)] 5))
      have HL : Hid (Lies (wr.alloc (.cells #[.int .u8 (x.toNat : Int)] 5)) (wr.alloc (.cells #[.int .u8 (x.toNat : Int)] 5)).heap.size (some ⟨wr.heap.size, 0, none⟩) [.int .u8 (x.toNat : Int)]) := Lib.hid (Lies.new [_] _ _)
      have HBW := Lib.hid (hbw.alloc hbw.size (.cells #[.int .u8 (x.toNat : Int)] 5))
      have HR := Lib.hid (hr.alloc (.cells #[.int .u8 (x.toNat : Int)] 5))
      have HZZ : Hid (M ≤ (wr.alloc (.cells #[.int .u8 (x.toNat : Int)] 5)).heap.size) := Lib.hid (by simp; omega)
      have HO1 : Hid ((Value.int .u8 (x.toNat : Int)).oneCell' = true) := Lib.hid rfl
      have HPK : Big (k + 1 ≤ 1099511627776) := ⟨by omega⟩
      have HOWB : Hid (∀ j, u7.ownBlock = some j → M ≤ j) := Lib.hid fun j hj => (hown.lt j hj).1
      have hk1 : (k : Int) < 32 := by omega
      clear hown hr hmw hbw hb hkA
      go_wp2_with (first
        | ((with_reducible refine wpAppend1K HOWN.out Tryd.underlying50 hd_one_byte HL.out HO1.out HPK HZZ.out ?_ ?_); rfl; intro v1 w1 g1 g2 g3; have HV1 := Lib.hid g1; have HG1 := Lib.hid g2; clear g1 g2 g3))
      go_roundw
      case rel =>
        have hb1 := HBW.out.grown HG1.out HBW.out.size (fun j hj => by have := HOWB.out j hj; omega)
        refine ⟨k + 1, by omega, by go_num, by rw [HT.out]; exact HV1.out, (HG1.out.block w.heap.size HR.out.lt (fun e => by have := HOWB.out _ e.symm; omega)).trans HR.out, Nat.le_trans HZZ.out HG1.out.size, hb1⟩
      case measure => simp [intOf]; omega
    · have ek : k = 32 := by omega
      rw [ek, List.take_of_length_le (by rw [LH.out]; omega)] at hown
      have hconv := own_string hown
      rw [HTH.out] at hconv
      have hconv2 := conv_bytes wr.heap.size 0 2 [0, 0] 2 (wr.alloc (.cells #[.int .u8 0, .int .u8 0] 5)) rfl (fun j hj => by have h := (Row.new wr 5 (bytes [0, 0])).cell j; rw [Nat.zero_add]; exact h.trans (bytes_get _ _ hj))
      have HB : Hid (Below w.heap.size w (wr.alloc (.cells #[.int .u8 0, .int .u8 0] 5))) := Lib.hid (hbw.next (alloc_below _ _))
      clear hown hr hmw hbw ek
      go_wp2
      go_ret
      exact ⟨by rw [HRES.out]; rfl, HB.out⟩

end Go.Proofs.YtbcilifdgpfmnaaDoor
