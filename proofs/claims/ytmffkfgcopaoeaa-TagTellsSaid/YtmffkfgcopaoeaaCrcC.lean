/- Contracts of crc's Sum, tail, Seal. -/
import Derived.Test.YtmffkfgcopaoeaaCrcB
import Derived.Test.YtmffkfgcopaoeaaPut
import Derived.Test.YtmffkfgcopaoeaaShelf
import Derived.Lib.Join
namespace Go.Proofs.Ytmffkfgcopaoeaa
open Go.RowKit CrcMath

/-- The sum of bytes, as a number. -/
def sumI (l : List UInt8) : Int := ((crc l).toNat : Int)
theorem sumI_bd (l : List UInt8) : 0 ≤ sumI l ∧ sumI l < 4294967296 := by
  unfold sumI
  have := (crc l).isLt
  omega

theorem sum_end (l : List UInt8) : wrap64 (bits .xor .u32 IntKind.u32.max ((reg ones l).toNat : Int)) = sumI l := by
  have hb := sumI_bd l
  have e : bits .xor .u32 IntKind.u32.max ((reg ones l).toNat : Int) = sumI l := by
    have h1 : IntKind.u32.max = ((4294967295 : Nat) : Int) := rfl
    rw [h1, u32_xor_nat _ _ (by omega) (BitVec.isLt _), sumI, crc, ← BitVec.allOnes_xor, BitVec.toNat_xor, BitVec.toNat_allOnes]
  rw [e, IntWalk.wrap64_in _ ⟨by omega, by omega⟩]

theorem crc_sum_any (b : Nat) (a : Option Addr) (cap : Nat) (l : List ByteArray) (w : World) (ht : Tab w b 0) (hb : b < w.heap.size) (hl : l.length ≤ 140737488355328) (hs : ∀ s ∈ l, s.size ≤ maxLen) (hr : Lies w w.heap.size a (strs l)) :
    Calls Try.prog 34 #[.pointer (some ⟨b, 0, none⟩), .slice a l.length cap] w fun e w' => e = .returned (.int .i64 (sumI (cat l))) ∧ Below w.heap.size w w' := by
  go_enter Try.func34, Try.ntmps34
  go_wp2_with (go_at_call 43; refine (bare_any _ _ _ ht).mono ?_; rintro e w' ⟨rfl, rfl⟩)
  go_loopw [5, 19] (fun t i wr => ∃ k : Nat, k ≤ l.length ∧ i = .int .i64 k ∧ t = .int .u32 ((reg ones (cat (l.take k))).toNat : Int) ∧ Below w.heap.size w wr) (fun _ i _ => l.length - (intOf i).toNat)
  case atStart => exact ⟨0, by omega, rfl, rfl, Below.refl _ _⟩
  case round =>
    obtain ⟨k, hk, rfl, rfl, hbw⟩ := hrel
    by_cases hlt : k < l.length
    · obtain ⟨bl, off, rfl, hbb, hc⟩ := hr (by rw [strs_length]; omega)
      have hcell : wr.cell? ⟨bl, off + k, none⟩ = some (.string l[k]) := (hbw.cell (p := ⟨bl, off + k, none⟩) hbb).trans (hc k _ (strs_get l k hlt))
      have hsz := hs l[k] (List.getElem_mem _)
      have HT : Hid (_ = _) := Lib.hid (take_snoc l k hlt)
      have htw : Hid (Tab wr b 0) := Lib.hid (ht.below hbw hb)
      have hbz : b < wr.heap.size := Nat.lt_of_lt_of_le hb hbw.size
      generalize hx : reg ones (cat (l.take k)) = x
      have HX := Lib.hid hx
      clear hx hc hs hr ht
      go_wp2_with (go_at_call 44; refine (feed_any _ _ _ _ _ htw.out hbz hsz).mono ?_; rintro e w1 ⟨rfl, hb1⟩)
      go_roundw
      case rel => exact ⟨k + 1, by omega, by go_num, by rw [HT.out, cat_snoc, reg_append, HX.out], hbw.trans (hb1.mono hbw.size)⟩
      case measure => simp [intOf]; omega
    · have HE : Hid (l.take k = l) := Lib.hid (List.take_of_length_le (by omega))
      go_wp2
      go_ret
      exact ⟨ret_int (by rw [HE.out]; exact sum_end _), hbw⟩

theorem sum_at (b : Nat) (a : Option Addr) (n cap : Nat) (l : List ByteArray) (w : World) (hn : l.length = n) (ht : Tab w b 0) (hb : b < w.heap.size) (hl : n ≤ 140737488355328) (hs : ∀ s ∈ l, s.size ≤ maxLen) (hr : Lies w w.heap.size a (strs l)) :
    Calls Try.prog 34 #[.pointer (some ⟨b, 0, none⟩), .slice a n cap] w fun e w' => e = .returned (.int .i64 (sumI (cat l))) ∧ Below w.heap.size w w' := by
  subst hn
  exact crc_sum_any b a cap l w ht hb hl hs hr

/-- A slice of one text that the call has just laid. -/
theorem lies_str (x : ByteArray) (w : World) (t : TypeId) : Lies (w.alloc (.cells #[.string x] t)) (w.alloc (.cells #[.string x] t)).heap.size (some ⟨w.heap.size, 0, none⟩) (strs [x]) := Lies.one (by simp) (by simp)

/-- A sum as four bytes. -/
def tailB (n : Int) : List UInt8 := NumMath.be 4 n.toNat

theorem crc_tail_any (n : Int) (w : World) (h0 : 0 ≤ n) (h1 : n < 4294967296) :
    Calls Try.prog 33 #[.int .i64 n] w fun e w' => e = .returned (.string (str (tailB n))) ∧ Below w.heap.size w w' := by
  have HR : Hid (putR 4 [n] = (tailB n, 0)) := Lib.hid <| by
    rw [putR_ok rfl (by simp [fitAll, fitB]; omega)]
    simp [putBytes, tailB]
  have HL : Hid (Lies (w.alloc (.cells #[.int .i64 n] 3)) (w.alloc (.cells #[.int .i64 n] 3)).heap.size (some ⟨w.heap.size, 0, none⟩) (ints [n])) := Lib.hid (Lies.one (by simp) (by simp))
  go_enter Try.func33, Try.ntmps33
  go_wp2_with (go_at_call 42; refine (put_at _ _ 1 _ [n] _ _ _ rfl HR.out (by decide) HL.out).mono ?_; rintro e w1 ⟨rfl, hb1⟩)
  go_ret
  exact ⟨rfl, ((Below.refl _ _).alloc (Nat.le_refl _) _).trans (hb1.mono (by simp))⟩

theorem cat_join (l : List ByteArray) : Lib.join (l.map (·.data.toList)) (ByteArray.empty).data.toList = cat l := by
  have e : (ByteArray.empty).data.toList = [] := rfl
  rw [Lib.join, e]
  induction l with
  | nil => rfl
  | cons s l ih =>
    cases l with
    | nil => simp [cat, List.intercalate]
    | cons t l =>
      have h : cat (s :: t :: l) = s.data.toList ++ cat (t :: l) := rfl
      rw [h, ← ih]
      simp [List.intercalate]

theorem join_any (a : Option Addr) (cap : Nat) (l : List ByteArray) (w : World) (hl : l.length ≤ 140737488355328) (hcap : l.length ≤ cap) (hlen : (cat l).length ≤ 140737488355328) (hr : Lies w w.heap.size a (strs l)) :
    Calls Try.prog 32 #[.slice a l.length cap, .string ByteArray.empty] w fun e w' => e = .returned (.string (str (cat l))) ∧ Below w.heap.size w w' := by
  by_cases h0 : 0 < l.length
  · obtain ⟨b, o, rfl, hb, hc⟩ := hr (by rw [strs_length]; exact h0)
    refine (Try.strings_Join b o cap l ByteArray.empty w (fun j x hx => hc j _ ?_) hb hl hcap (by rw [cat_join]; exact hlen)).mono fun e w' h => ⟨?_, h.2⟩
    · simp [strs, hx]
    · rw [h.1, cat_join]; rfl
  · have e : l = [] := List.eq_nil_of_length_eq_zero (by omega)
    subst e
    exact (Try.strings_Join_none a cap ByteArray.empty w).mono fun e w' h => ⟨h.1, h.2 ▸ Below.refl _ _⟩

/-- What was sealed. -/
def sealB (l : List UInt8) : List UInt8 := l ++ tailB (sumI l)
theorem tailB_length (n : Int) : (tailB n).length = 4 := NumMath.be_length _ _
theorem sealB_length (l : List UInt8) : (sealB l).length = l.length + 4 := by rw [sealB, List.length_append, tailB_length]

theorem seal_any (b : Nat) (a : Option Addr) (cap : Nat) (l : List ByteArray) (w : World) (ht : Tab w b 0) (hb : b < w.heap.size) (hl : l.length ≤ 140737488355328) (hcap : l.length ≤ cap) (hs : ∀ s ∈ l, s.size ≤ maxLen) (hlen : (cat l).length ≤ 140737488355000) (hr : Lies w w.heap.size a (strs l)) :
    Calls Try.prog 19 #[.pointer (some ⟨b, 0, none⟩), .slice a l.length cap] w fun e w' => e = .returned (.string (str (sealB (cat l)))) ∧ Below w.heap.size w w' := by
  have hz : (str (cat l)).size ≤ 140737488355000 := by rw [str_size]; exact hlen
  have hz2 : (str (tailB (sumI (cat l)))).size ≤ 4 := by rw [str_size, tailB_length]; omega
  have hs2 := sumI_bd (cat l)
  go_enter Try.func19, Try.ntmps19
  go_wp2_with (first
    | (go_at_call 32; refine (join_any _ _ _ _ hl hcap (by omega) hr).mono ?_; rintro e w1 ⟨rfl, hb1⟩)
    | (go_at_call 34; refine (crc_sum_any _ _ _ _ _ (ht.below hb1 hb) (Nat.lt_of_lt_of_le hb hb1.size) hl hs (hr.step hb1)).mono ?_; rintro e w2 ⟨rfl, hb2⟩)
    | (go_at_call 33; refine (crc_tail_any _ _ hs2.1 hs2.2).mono ?_; rintro e w3 ⟨rfl, hb3⟩))
  go_ret
  exact ⟨ret_str (by rw [str_append]; rfl), hb1.trans ((hb2.mono hb1.size).trans (hb3.mono (Nat.le_trans hb1.size hb2.size)))⟩

/-- What Open answers. -/
def openR (l : List UInt8) : List UInt8 × Int :=
  if l.length < 4 then ([], 13) else if l.drop (l.length - 4) = tailB (sumI (l.take (l.length - 4))) then (l.take (l.length - 4), 0) else ([], 7)
theorem openR_short {l : List UInt8} (h : l.length < 4) : openR l = ([], 13) := by rw [openR, if_pos h]
theorem openR_sum {l : List UInt8} (h : ¬ l.length < 4) (h2 : ¬ l.drop (l.length - 4) = tailB (sumI (l.take (l.length - 4)))) : openR l = ([], 7) := by rw [openR, if_neg h, if_neg h2]
theorem openR_ok {l : List UInt8} (h : ¬ l.length < 4) (h2 : l.drop (l.length - 4) = tailB (sumI (l.take (l.length - 4)))) : openR l = (l.take (l.length - 4), 0) := by rw [openR, if_neg h, if_pos h2]

theorem crc_clone_any (s : ByteArray) (w : World) (hs : s.size ≤ 140737488355328) :
    Calls Try.prog 35 #[.string s] w fun e w' => e = .returned (.string s) ∧ Below w.heap.size w w' := by
  go_enter Try.func35, Try.ntmps35
  go_wp2_with (go_at_call 45; refine (Try.stringslite_Clone _ _ (by omega)).mono ?_; rintro e w3 ⟨rfl, hb3⟩)
  go_ret
  exact ⟨rfl, hb3⟩

theorem open_any (b : Nat) (s : ByteArray) (w : World) (ht : Tab w b 0) (hb : b < w.heap.size) (hs : s.size ≤ 140737488355328) :
    Calls Try.prog 20 #[.pointer (some ⟨b, 0, none⟩), .string s] w fun e w' => e = .returned (.tuple #[.string (str (openR s.data.toList).1), .int .i64 (openR s.data.toList).2]) ∧ Below w.heap.size w w' := by
  by_cases h4 : s.size < 4
  · have HR : Hid (openR s.data.toList = ([], 13)) := Lib.hid (openR_short (by rw [size_list]; exact h4))
    go_enter Try.func20, Try.ntmps20
    go_wp2
    go_ret2
    exact ⟨by rw [HR.out]; rfl, Below.refl _ _⟩
  · go_enter Try.func20, Try.ntmps20
    go_wp2
    go_quiet (fail)
    generalize hw0 : w.drewN nq = w0
    have hb0 : Below w.heap.size w w0 := by rw [← hw0]; exact (Below.refl _ _).drewN _
    have hz0 : w0.heap.size = w.heap.size := by rw [← hw0]; rfl
    have HZ0 := Lib.hid hz0
    clear hw0 hz0
    obtain ⟨x, hx⟩ : ∃ x, s.extract 0 (s.size - 4) = x := ⟨_, rfl⟩
    obtain ⟨y, hy⟩ : ∃ y, s.extract (s.size - 4) s.size = y := ⟨_, rfl⟩
    rw [hx, hy]
    have HX : Hid (s.data.toList.take (s.size - 4) = x.data.toList) := Lib.hid (by rw [← hx, ByteArray.data_extract]; simp)
    have HY : Hid (s.data.toList.drop (s.size - 4) = y.data.toList) := Lib.hid (by rw [← hy, ByteArray.data_extract]; simp [List.take_of_length_le])
    have hxs : x.size ≤ 140737488355328 := by rw [← hx, ByteArray.size_extract]; omega
    clear hx hy
    have hbz : b < w0.heap.size := Nat.lt_of_lt_of_le hb hb0.size
    have HTW : Hid (Tab (w0.alloc (.cells #[.string x] 9)) b 0) := Lib.hid ((ht.below hb0 hb).below ((Below.refl _ _).alloc (Nat.le_refl _) _) hbz)
    have HL := Lib.hid (lies_str x w0 9)
    have hbz2 : b < (w0.alloc (.cells #[.string x] 9)).heap.size := by rw [World.size_alloc]; omega
    have hs2 := sumI_bd (cat [x])
    have HC : Hid (cat [x] = x.data.toList) := Lib.hid (cat_one x)
    have hx1 : ∀ s ∈ [x], s.size ≤ maxLen := by intro s hs; rw [List.mem_singleton] at hs; rw [hs]; unfold maxLen; omega
    have HX1 := Lib.hid hx1
    clear hx1 ht
    by_cases hyes : y = str (tailB (sumI (cat [x])))
    · have HR : Hid (openR s.data.toList = (x.data.toList, 0)) := Lib.hid <| by
        have hn : ¬ s.data.toList.length < 4 := by rw [size_list]; exact h4
        rw [openR_ok hn (by rw [size_list, HX.out, HY.out, hyes, str_list, HC.out]), size_list, HX.out]
      have hq := beq_yes hyes
      have HY2 := Lib.hid hyes
      clear hyes
      go_wp2_with (first
        | (go_at_call 34; refine (sum_at _ _ 1 _ [x] _ rfl HTW.out hbz2 (by decide) HX1.out HL.out).mono ?_; rintro e w1 ⟨rfl, hb1⟩)
        | (go_at_call 33; refine (crc_tail_any _ _ hs2.1 hs2.2).mono ?_; rintro e w2 ⟨rfl, hb2⟩)
        | (go_at_call 35; refine (crc_clone_any _ _ (by omega)).mono ?_; rintro e w3 ⟨rfl, hb3⟩))
      go_ret2
      exact ⟨by rw [HR.out, str_of]; rfl, hb0.trans (((((Below.refl _ _).alloc (Nat.le_refl _) _).trans (hb1.mono (by simp))).trans ((hb2.mono (by have := hb1.size; simp at this; omega)).trans (hb3.mono (by have := hb1.size; have := hb2.size; simp at *; omega)))).mono hb0.size)⟩
    · have HR : Hid (openR s.data.toList = ([], 7)) := Lib.hid <| by
        have hn : ¬ s.data.toList.length < 4 := by rw [size_list]; exact h4
        refine openR_sum hn ?_
        rw [size_list, HX.out, HY.out]
        intro e
        exact hyes (by rw [HC.out, ← e, str_of])
      have hq := beq_no hyes
      have HY2 := Lib.hid hyes
      clear hyes
      go_wp2_with (first
        | (go_at_call 34; refine (sum_at _ _ 1 _ [x] _ rfl HTW.out hbz2 (by decide) HX1.out HL.out).mono ?_; rintro e w1 ⟨rfl, hb1⟩)
        | (go_at_call 33; refine (crc_tail_any _ _ hs2.1 hs2.2).mono ?_; rintro e w2 ⟨rfl, hb2⟩))
      go_ret2
      exact ⟨by rw [HR.out]; rfl, hb0.trans ((((Below.refl _ _).alloc (Nat.le_refl _) _).trans ((hb1.mono (by simp)).trans (hb2.mono (by have := hb1.size; simp at this; omega)))).mono hb0.size)⟩

/-! The contracts at a list of texts that the caller has just laid. -/
theorem sum_new (b n cap : Nat) (l : List ByteArray) (t : TypeId) (w : World) (hn : l.length = n) (ht : Tab w b 0) (hb : b < w.heap.size) (hl : n ≤ 140737488355328) (hs : ∀ s ∈ l, s.size ≤ maxLen) :
    Calls Try.prog 34 #[.pointer (some ⟨b, 0, none⟩), .slice (some ⟨w.heap.size, 0, none⟩) n cap] (w.alloc (.cells (strs l).toArray t)) fun e w' => e = .returned (.int .i64 (sumI (cat l))) ∧ Below w.heap.size w w' := by
  refine (sum_at b _ n cap l _ hn (ht.below (alloc_below _ _) hb) (by simp; omega) hl hs (Lies.new _ _ _)).mono fun e w' h => ⟨h.1, (alloc_below _ _).trans (h.2.mono (by simp))⟩
theorem seal_new (b n cap : Nat) (l : List ByteArray) (t : TypeId) (w : World) (hn : l.length = n) (ht : Tab w b 0) (hb : b < w.heap.size) (hl : n ≤ 140737488355328) (hcap : n ≤ cap) (hs : ∀ s ∈ l, s.size ≤ maxLen) (hlen : (cat l).length ≤ 140737488355000) :
    Calls Try.prog 19 #[.pointer (some ⟨b, 0, none⟩), .slice (some ⟨w.heap.size, 0, none⟩) n cap] (w.alloc (.cells (strs l).toArray t)) fun e w' => e = .returned (.string (str (sealB (cat l)))) ∧ Below w.heap.size w w' := by
  subst hn
  refine (seal_any b _ cap l _ (ht.below (alloc_below _ _) hb) (by simp; omega) hl hcap hs hlen (Lies.new _ _ _)).mono fun e w' h => ⟨h.1, (alloc_below _ _).trans (h.2.mono (by simp))⟩

/-! A summer that isn't there. -/
theorem sum_none (a : Option Addr) (n cap : Nat) (w : World) :
    Calls Try.prog 34 #[.pointer none, .slice a n cap] w fun e w' => e = .returned (.int .i64 0) ∧ w = w' := by
  go_enter Try.func34, Try.ntmps34
  go_wp2
  go_ret
  exact ⟨rfl, rfl⟩
theorem seal_none (a : Option Addr) (n cap : Nat) (w : World) :
    Calls Try.prog 19 #[.pointer none, .slice a n cap] w fun e w' => e = .returned (.string ByteArray.empty) ∧ w = w' := by
  go_enter Try.func19, Try.ntmps19
  go_wp2
  go_ret
  exact ⟨rfl, rfl⟩
theorem open_none (s : ByteArray) (w : World) :
    Calls Try.prog 20 #[.pointer none, .string s] w fun e w' => e = .returned (.tuple #[.string ByteArray.empty, .int .i64 1]) ∧ w = w' := by
  go_enter Try.func20, Try.ntmps20
  go_wp2
  go_ret2
  exact ⟨rfl, rfl⟩

end Go.Proofs.Ytmffkfgcopaoeaa
