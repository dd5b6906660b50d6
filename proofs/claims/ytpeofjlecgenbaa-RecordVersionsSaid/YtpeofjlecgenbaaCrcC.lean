/- Contracts of crc's Sum, tail, Seal. -/
import Derived.Test.YtpeofjlecgenbaaCrcB
import Derived.Test.YtpeofjlecgenbaaPut
import Derived.Test.YtpeofjlecgenbaaShelf
import Derived.Lib.Join
namespace Go.Proofs.Ytpeofjlecgenbaa
open Go.RowKit CrcMath

/-- The sum of bytes, as a number. -/
def sumI (l : List UInt8) : Int := ((crc l).toNat : Int)
theorem sumI_bd (l : List UInt8) : 0 ≤ sumI l ∧ sumI l < 4294967296 := by
  unfold sumI
  have := (crc l).isLt
  omega

theorem sum_end (l : List UInt8) : wrap64 (bits .xor .u32 IntKind.u32.max ((reg ones l).toNat : Int)) = sumI l := by
  have hb := sumI_bd l
  have e : bits .xor .u32 IntKind.u32.max ((reg ones l).toNat : Int) = sumI l := by
    have h1 : IntKind.u32.max = ((4294967295 : Nat) : Int) := rfl
    rw [h1, u32_xor_nat _ _ (by omega) (BitVec.isLt _), sumI, crc, ← BitVec.allOnes_xor, BitVec.toNat_xor, BitVec.toNat_allOnes]
  rw [e, IntWalk.wrap64_in _ ⟨by omega, by omega⟩]

theorem crc_sum_any (b : Nat) (a : Option Addr) (cap : Nat) (l : List ByteArray) (w : World) (ht : Tab w b 0) (hb : b < w.heap.size) (hl : l.length ≤ 140737488355328) (hs : ∀ s ∈ l, s.size ≤ maxLen) (hr : Lies w w.heap.size a (strs l)) :
    Calls Try.prog 26 #[.pointer (some ⟨b, 0, none⟩), .slice a l.length cap] w fun e w' => e = .returned (.int .i64 (sumI (cat l))) ∧ Below w.heap.size w w' := by
  go_enter Try.func26, Try.ntmps26
  go_wp2_with (go_at_call 47; refine (bare_any _ _ _ ht).mono ?_; rintro e w' ⟨rfl, rfl⟩)
  go_loopw [5, 19] (fun t i wr => ∃ k : Nat, k ≤ l.length ∧ i = .int .i64 k ∧ t = .int .u32 ((reg ones (cat (l.take k))).toNat : Int) ∧ Below w.heap.size w wr) (fun _ i _ => l.length - (intOf i).toNat)
  case atStart => exact ⟨0, by omega, rfl, rfl, Below.refl _ _⟩
  case round =>
    obtain ⟨k, hk, rfl, rfl, hbw⟩ := hrel
    by_cases hlt : k < l.length
    · obtain ⟨bl, off, rfl, hbb, hc⟩ := hr (by rw [strs_length]; omega)
      have hcell : wr.cell? ⟨bl, off + k, none⟩ = some (.string l[k]) := (hbw.cell (p := ⟨bl, off + k, none⟩) hbb).trans (hc k _ (strs_get l k hlt))
      have hsz := hs l[k] (List.getElem_mem _)
      have HT : Hid (_ = _) := Lib.hid (take_snoc l k hlt)
      have htw : Hid (Tab wr b 0) := Lib.hid (ht.below hbw hb)
      have hbz : b < wr.heap.size := Nat.lt_of_lt_of_le hb hbw.size
      generalize hx : reg ones (cat (l.take k)) = x
      have HX := Lib.hid hx
      clear hx hc hs hr ht
      go_wp2_with (go_at_call 48; refine (feed_any _ _ _ _ _ htw.out hbz hsz).mono ?_; rintro e w1 ⟨rfl, hb1⟩)
      go_roundw
      case rel => exact ⟨k + 1, by omega, by go_num, by rw [HT.out, cat_snoc, reg_append, HX.out], hbw.trans (hb1.mono hbw.size)⟩
      case measure => simp [intOf]; omega
    · have HE : Hid (l.take k = l) := Lib.hid (List.take_of_length_le (by omega))
      go_wp2
      go_ret
      exact ⟨ret_int (by rw [HE.out]; exact sum_end _), hbw⟩

theorem sum_at (b : Nat) (a : Option Addr) (n cap : Nat) (l : List ByteArray) (w : World) (hn : l.length = n) (ht : Tab w b 0) (hb : b < w.heap.size) (hl : n ≤ 140737488355328) (hs : ∀ s ∈ l, s.size ≤ maxLen) (hr : Lies w w.heap.size a (strs l)) :
    Calls Try.prog 26 #[.pointer (some ⟨b, 0, none⟩), .slice a n cap] w fun e w' => e = .returned (.int .i64 (sumI (cat l))) ∧ Below w.heap.size w w' := by
  subst hn
  exact crc_sum_any b a cap l w ht hb hl hs hr

/-- A slice of one text that the call has just laid. -/
theorem lies_str (x : ByteArray) (w : World) (t : TypeId) : Lies (w.alloc (.cells #[.string x] t)) (w.alloc (.cells #[.string x] t)).heap.size (some ⟨w.heap.size, 0, none⟩) (strs [x]) := Lies.one (by simp) (by simp)

/-- A sum as four bytes. -/
def tailB (n : Int) : List UInt8 := NumMath.be 4 n.toNat

theorem cat_join (l : List ByteArray) : Lib.join (l.map (·.data.toList)) (ByteArray.empty).data.toList = cat l := by
  have e : (ByteArray.empty).data.toList = [] := rfl
  rw [Lib.join, e]
  induction l with
  | nil => rfl
  | cons s l ih =>
    cases l with
    | nil => simp [cat, List.intercalate]
    | cons t l =>
      have h : cat (s :: t :: l) = s.data.toList ++ cat (t :: l) := rfl
      rw [h, ← ih]
      simp [List.intercalate]

/-- What was sealed. -/
def sealB (l : List UInt8) : List UInt8 := l ++ tailB (sumI l)
theorem tailB_length (n : Int) : (tailB n).length = 4 := NumMath.be_length _ _
theorem sealB_length (l : List UInt8) : (sealB l).length = l.length + 4 := by rw [sealB, List.length_append, tailB_length]

/-- What Open answers. -/
def openR (l : List UInt8) : List UInt8 × Int :=
  if l.length < 4 then ([], 13) else if l.drop (l.length - 4) = tailB (sumI (l.take (l.length - 4))) then (l.take (l.length - 4), 0) else ([], 7)
theorem openR_short {l : List UInt8} (h : l.length < 4) : openR l = ([], 13) := by rw [openR, if_pos h]
theorem openR_sum {l : List UInt8} (h : ¬ l.length < 4) (h2 : ¬ l.drop (l.length - 4) = tailB (sumI (l.take (l.length - 4)))) : openR l = ([], 7) := by rw [openR, if_neg h, if_neg h2]
theorem openR_ok {l : List UInt8} (h : ¬ l.length < 4) (h2 : l.drop (l.length - 4) = tailB (sumI (l.take (l.length - 4)))) : openR l = (l.take (l.length - 4), 0) := by rw [openR, if_neg h, if_pos h2]

/-! The contracts at a list of texts that the caller has just laid. -/
theorem sum_new (b n cap : Nat) (l : List ByteArray) (t : TypeId) (w : World) (hn : l.length = n) (ht : Tab w b 0) (hb : b < w.heap.size) (hl : n ≤ 140737488355328) (hs : ∀ s ∈ l, s.size ≤ maxLen) :
    Calls Try.prog 26 #[.pointer (some ⟨b, 0, none⟩), .slice (some ⟨w.heap.size, 0, none⟩) n cap] (w.alloc (.cells (strs l).toArray t)) fun e w' => e = .returned (.int .i64 (sumI (cat l))) ∧ Below w.heap.size w w' := by
  refine (sum_at b _ n cap l _ hn (ht.below (alloc_below _ _) hb) (by simp; omega) hl hs (Lies.new _ _ _)).mono fun e w' h => ⟨h.1, (alloc_below _ _).trans (h.2.mono (by simp))⟩
/-! A summer that isn't there. -/
theorem sum_none (a : Option Addr) (n cap : Nat) (w : World) :
    Calls Try.prog 26 #[.pointer none, .slice a n cap] w fun e w' => e = .returned (.int .i64 0) ∧ w = w' := by
  go_enter Try.func26, Try.ntmps26
  go_wp2
  go_ret
  exact ⟨rfl, rfl⟩
end Go.Proofs.Ytpeofjlecgenbaa
