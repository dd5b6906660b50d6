/- The texts B5, StrMath, StrA, GrowM, StrB, StrC, StrD, StrE, one behind the other: what the claim wants of them. -/
import Derived.Test.YtnbjaijhdjneoaaGreatShelf
import Derived.Lib.Join
import Derived.Deep.RegionWith
import Derived.Deep.QuietTactic
import Derived.Shelf.Strings.Builder1
import Derived.PlainAid
import Derived.Test.YtnbjaijhdjneoaaGreatP4
namespace Go.Proofs.YtnbjaijhdjneoaaGreat
open Go.RowKit NumMath
set_option maxRecDepth 100000

/-- May a number have that many bytes? -/
def okB (s : Int) : Bool := decide (1 ≤ s ∧ s ≤ 7)

theorem okB_yes {s : Int} (h1 : 1 ≤ s) (h2 : s ≤ 7) : okB s = true := by unfold okB; simp; omega
theorem okB_no {s : Int} (h : ¬ (1 ≤ s ∧ s ≤ 7)) : okB s = false := by unfold okB; simpa using h

theorem num_right_any (s : Int) (w : World) :
    Calls Tryz.prog 113 #[.int .i64 s] w fun e w' => e = .returned (.bool (okB s)) ∧ w = w' := by
  by_cases h1 : 1 ≤ s
  · by_cases h2 : s ≤ 7
    · go_enter Tryz.func113, Tryz.ntmps113
      go_wp2
      go_ret
      exact ⟨ret_bool (okB_yes h1 h2).symm, rfl⟩
    · go_enter Tryz.func113, Tryz.ntmps113
      go_wp2
      go_ret
      exact ⟨ret_bool (okB_no (by omega)).symm, rfl⟩
  · go_enter Tryz.func113, Tryz.ntmps113
    go_wp2
    go_ret
    exact ⟨ret_bool (okB_no (by omega)).symm, rfl⟩

/-- Can n stand in s bytes? -/
def fitB (s n : Int) : Bool := decide (0 ≤ n ∧ n < 256 ^ s.toNat)

theorem pow_two (s : Int) (h : 0 ≤ s) : (2 : Int) ^ (8 * s).toNat = 256 ^ s.toNat := by
  obtain ⟨k, rfl⟩ := Int.eq_ofNat_of_zero_le h
  have e1 : (8 * (k : Int)).toNat = 8 * k := by omega
  rw [e1, Int.toNat_natCast, Int.pow_mul]
  rfl

theorem fit_shr (s n : Int) (h : 0 ≤ s) : (n / 2 ^ (8 * s).toNat == 0) = fitB s n := by
  rw [pow_two s h]
  have hp : (0 : Int) < 256 ^ s.toNat := Int.pow_pos (by omega)
  unfold fitB
  rw [Bool.eq_iff_iff]
  simp only [beq_iff_eq, decide_eq_true_eq]
  constructor
  · intro e
    have h1 := Int.emod_nonneg n (Int.ne_of_gt hp)
    have h2 := Int.emod_lt_of_pos n hp
    have h3 := Int.mul_ediv_add_emod n (256 ^ s.toNat)
    rw [e] at h3
    omega
  · rintro ⟨h1, h2⟩
    exact Int.ediv_eq_zero_of_lt h1 h2

theorem num_fits_any (s n : Int) (w : World) (h1 : 1 ≤ s) (h7 : s ≤ 7) :
    Calls Tryz.prog 114 #[.int .i64 s, .int .i64 n] w fun e w' => e = .returned (.bool (fitB s n)) ∧ w = w' := by
  go_enter Tryz.func114, Tryz.ntmps114
  go_wp2
  go_ret
  exact ⟨ret_bool (fit_shr s n (by omega)), rfl⟩

/-- What num.add lays behind: the bytes of n, of which the s - k highest are laid. -/
theorem be_step (s k n : Nat) (hk : k < s) : (be s n).take (k + 1) = (be s n).take k ++ [UInt8.ofNat (n / 256 ^ (s - 1 - k) % 256)] := by
  induction s generalizing n k with
  | zero => omega
  | succ s ih =>
    rw [be_cons]
    cases k with
    | zero => simp
    | succ k =>
      rw [List.take_succ_cons, List.take_succ_cons, ih k n (by omega), List.cons_append]
      have e : s + 1 - 1 - (k + 1) = s - 1 - k := by omega
      rw [e]

theorem num_add_any (v : Value) (m : Nat) (xs : List Value) (s n base : Nat) (w : World) (hs1 : 1 ≤ s) (hs : s ≤ 7) (hn : n < 256 ^ s) (hm : m ≤ 1000000) (hown : w.ownsRow base 5 1 v m xs) (hb : base ≤ w.heap.size) :
    Calls Tryz.prog 115 #[v, .int .i64 s, .int .i64 n] w fun e w' =>
      ∃ v', e = .returned v' ∧ w'.ownsRow base 5 1 v' (m + s) (xs ++ bytes (be s n)) ∧ Below base w w' := by
  obtain ⟨i0, hi, hz0, hz1, hz2⟩ := info_parts info_byte
  go_enter Tryz.func115, Tryz.ntmps115
  go_wp2
  go_loopw [0, 7] (fun v i wr => ∃ k : Nat, k ≤ s ∧ i = .int .i64 ((s : Int) - 1 - k) ∧ wr.ownsRow base 5 1 v (m + k) (xs ++ bytes ((be s n).take k)) ∧ Below base w wr)
    (fun _ i _ => (intOf i + 1).toNat)
  case atStart => exact ⟨0, Nat.zero_le _, by simp, by simpa [bytes] using hown, Below.refl _ _⟩
  case round =>
    obtain ⟨k, hk, rfl, hownr, hbw⟩ := hrel
    by_cases hlt : k < s
    · go_wp2_with (at_builtin; refine wpList_append_own _ rfl (.tmp 14) (.tmp 20) 67 rfl base 5 i0 (.int .u8 0) 1 1 Tryz.underlying67 hi hz0 hz1 hz2 rfl (by decide) _ _ _ rfl (hownr.alloc _) ⟨wr.heap.size, 0, none⟩ 1 1 [.int .u8 ((UInt8.ofNat (n / 256 ^ (s - 1 - k) % 256)).toNat : Int)] rfl rfl ?c1 ?c2 ?c3 ?c4 ?c5 ?_)
      case c1 =>
        intro j u hj
        match j, hj with
        | 0, hj =>
          simp at hj
          subst hj
          simp [Addr.add]
          rw [Int.pow_mul]
          rfl
      case c2 => intro u hu; simp at hu; subst hu; rfl
      case c3 => unfold maxLen; omega
      case c4 => omega
      case c5 => have := hbw.size; simp; omega
      intro v' w1 hown1 hg1 _
      have hb1 : Below base w w1 := (hbw.alloc (by have := hbw.size; omega) _).grown hg1 (by have := hbw.size; simp; omega) (fun j hj => (hownr.lt j hj).1)
      have ho2 : w1.ownsRow base 5 1 v' (m + (k + 1)) (xs ++ bytes ((be s n).take (k + 1))) := by
        have e : (((UInt8.ofNat (n / 256 ^ (s - 1 - k) % 256)).toNat : Nat) : Int) = (n : Int) / 256 ^ (s - 1 - k) % 256 := by rw [toNat_mod]; simp
        rw [be_step s k n hlt, bytes_append, ← Nat.add_assoc]
        simp only [bytes, List.map_cons, List.map_nil, e]
        exact hown1
      clear hown1 hg1 hownr hbw hown
      go_wp2
      go_roundw
      case rel => exact ⟨k + 1, by omega, by go_num, ho2, hb1⟩
      case measure => simp [intOf]; omega
    · go_wp2
      go_ret
      have e : k = s := by omega
      subst e
      rw [List.take_of_length_le (by rw [be_length]; omega)] at hownr
      exact ⟨_, rfl, hownr, hbw⟩

/-- The bytes of all numbers. -/
def putBytes (s : Int) (l : List Int) : List UInt8 := l.flatMap fun n => be s.toNat n.toNat
def fitAll (s : Int) (l : List Int) : Bool := l.all (fitB s)
theorem putBytes_snoc (s : Int) (l : List Int) (n : Int) : putBytes s (l ++ [n]) = putBytes s l ++ be s.toNat n.toNat := by simp [putBytes]
theorem fitAll_snoc (s : Int) (l : List Int) (n : Int) : fitAll s (l ++ [n]) = (fitAll s l && fitB s n) := by simp [fitAll]
theorem fitAll_take {s : Int} {l : List Int} (k : Nat) (h : fitAll s l = true) : fitAll s (l.take k) = true := by
  unfold fitAll at *
  rw [List.all_eq_true] at *
  intro x hx
  exact h x (List.mem_of_mem_take hx)

/-- num.Put's answer: the bytes, and the error's number. -/
def putR (s : Int) (l : List Int) : List UInt8 × Int :=
  if okB s then if fitAll s l then (putBytes s l, 0) else ([], 2) else ([], 1)
theorem putR_arg {s : Int} {l : List Int} (h : okB s = false) : putR s l = ([], 1) := by simp [putR, h]
theorem putR_range {s : Int} {l : List Int} (h : okB s = true) (h2 : fitAll s l = false) : putR s l = ([], 2) := by simp [putR, h, h2]
theorem putR_ok {s : Int} {l : List Int} (h : okB s = true) (h2 : fitAll s l = true) : putR s l = (putBytes s l, 0) := by simp [putR, h, h2]

def Answers (s : Int) (l : List Int) (w : World) (e : Ending) (w' : World) : Prop :=
  e = .returned (.tuple #[.string (str (putR s l).1), .int .i64 (putR s l).2]) ∧ Below w.heap.size w w'

theorem add_int (v : Value) (m : Nat) (xs : List Value) (s : Nat) (x : Int) (base : Nat) (w : World) (hs1 : 1 ≤ s) (hs : s ≤ 7) (h0 : 0 ≤ x) (hx : x < 256 ^ s) (hm : m ≤ 1000000) (hown : w.ownsRow base 5 1 v m xs) (hb : base ≤ w.heap.size) :
    Calls Tryz.prog 115 #[v, .int .i64 s, .int .i64 x] w fun e w' =>
      ∃ v', e = .returned v' ∧ w'.ownsRow base 5 1 v' (m + s) (xs ++ bytes (be s x.toNat)) ∧ Below base w w' := by
  obtain ⟨n, rfl⟩ := Int.eq_ofNat_of_zero_le h0
  have hn : n < 256 ^ s := by
    have e : ((256 ^ s : Nat) : Int) = 256 ^ s := by simp
    omega
  exact num_add_any v m xs s n base w hs1 hs hn hm hown hb

theorem put_any (s : Int) (a : Option Addr) (cap : Nat) (l : List Int) (w : World) (hl : l.length ≤ 100000) (hr : Lies w w.heap.size a (ints l)) :
    Calls Tryz.prog 91 #[.int .i64 s, .slice a l.length cap] w (Answers s l w) := by
  by_cases hok : okB s = true
  · have hb2 : 1 ≤ s ∧ s ≤ 7 := by simpa [okB] using hok
    obtain ⟨n, rfl⟩ := Int.eq_ofNat_of_zero_le (show 0 ≤ s by omega)
    have hn1 : 1 ≤ n := by omega
    have hn7 : n ≤ 7 := by omega
    have hmul : n * l.length ≤ 7 * l.length := Nat.mul_le_mul_right _ hn7
    obtain ⟨p, hp⟩ : ∃ p, p = n * l.length := ⟨_, rfl⟩
    have hwr : wrap64 ((n : Int) * (l.length : Int)) = (p : Int) := by
      have e : (n : Int) * (l.length : Int) = (p : Int) := by rw [hp]; simp
      rw [e]
      exact IntWalk.wrap64_in _ ⟨by omega, by omega⟩
    have hpb : p ≤ 700000 := by omega
    have HP := Lib.hid hp
    clear hp hmul
    obtain ⟨i0, hi, hz0, hz1, hz2⟩ := info_parts info_byte
    go_enter Tryz.func91, Tryz.ntmps91
    go_wp2_with (first | (go_at_call 113; refine (num_right_any _ _).mono ?_; rintro e w' ⟨rfl, rfl⟩) | (at_make; refine wpList_make_own _ rfl (.const (.int .i64 0)) (.tmp 15) 67 rfl w.heap.size 5 i0 (.int .u8 0) 1 Tryz.underlying67 hi hz0 hz1 _ _ _ p rfl rfl hwr ?b2 ?b3 (Nat.le_refl _) ?_))
    case b2 => rw [hz2]; omega
    case b3 => unfold maxLen; omega
    intro w0 hown0 hg0
    go_wp2
    have hb0 : Below w.heap.size w w0 := (Below.refl _ _).grown hg0 (Nat.le_refl _) (fun k h => by cases h)
    go_loopw [6, 19] (fun v i wr => ∃ k : Nat, k ≤ l.length ∧ i = .int .i64 k ∧ fitAll n (l.take k) = true ∧ wr.ownsRow w.heap.size 5 1 v (k * n) (bytes (putBytes n (l.take k))) ∧ Below w.heap.size w wr)
      (fun _ i _ => l.length - (intOf i).toNat)
    case atStart => exact ⟨0, Nat.zero_le _, rfl, rfl, by simpa [bytes, putBytes, Value.slice] using hown0, hb0⟩
    case round =>
      obtain ⟨k, hk, rfl, hall, hownr, hbw⟩ := hrel
      by_cases hlt : k < l.length
      · obtain ⟨b, off, rfl, hbb, hc⟩ := hr (by rw [ints_length]; omega)
        have hcell : wr.cell? ⟨b, off + k, none⟩ = some (.int .i64 l[k]) := (hbw.cell (p := ⟨b, off + k, none⟩) hbb).trans (hc k _ (ints_get l k hlt))
        clear hc hr hown0 hg0 hb0
        have HA := Lib.hid hall
        clear hall
        have HT := Lib.hid (take_snoc l k hlt)
        by_cases hfit : fitB n l[k] = true
        · have hf2 : 0 ≤ l[k] ∧ l[k] < 256 ^ n := by simpa [fitB] using hfit
          have hkn : k * n ≤ 1000000 := by have := Nat.mul_le_mul (show k ≤ 100000 by omega) hn7; omega
          go_wp2_with (first | (go_at_call 114; refine (num_fits_any _ _ _ (by omega) (by omega)).mono ?_; rintro e w' ⟨rfl, rfl⟩) | (go_at_call 115; refine (add_int _ _ _ _ _ _ _ hn1 hn7 hf2.1 hf2.2 hkn hownr hbw.size).mono ?_; rintro e w1 ⟨v', rfl, hown1, hb1⟩))
          go_roundw
          case rel => exact ⟨k + 1, by omega, by go_num, by rw [HT.out, fitAll_snoc, HA.out, hfit]; rfl, by rw [HT.out, putBytes_snoc, bytes_append, Nat.succ_mul]; simpa using hown1, hbw.trans hb1⟩
          case measure => simp [intOf]; omega
        · have hno : fitB n l[k] = false := by simpa using hfit
          clear hfit
          go_wp2_with (go_at_call 114; refine (num_fits_any _ _ _ (by omega) (by omega)).mono ?_; rintro e w' ⟨rfl, rfl⟩)
          go_ret2
          have hnot : fitAll n l = false := by
            cases hh : fitAll n l with
            | false => rfl
            | true =>
              have := fitAll_take (k + 1) hh
              rw [HT.out, fitAll_snoc, hno, Bool.and_false] at this
              cases this
          exact ⟨by rw [putR_range hok hnot]; rfl, hbw⟩
      · have HE : Hid (l.take k = l) := Lib.hid (List.take_of_length_le (by omega))
        have hconv := own_string hownr
        have HA := Lib.hid hall
        clear hall
        go_wp2
        go_ret2
        have h1 := HA.out
        rw [HE.out] at h1
        exact ⟨by rw [putR_ok hok h1, HE.out]; rfl, hbw⟩
  · have hno : okB s = false := by simpa using hok
    clear hok
    go_enter Tryz.func91, Tryz.ntmps91
    go_wp2_with (go_at_call 113; refine (num_right_any _ _).mono ?_; rintro e w' ⟨rfl, rfl⟩)
    go_ret2
    exact ⟨by rw [putR_arg hno]; rfl, Below.refl _ _⟩

/-- The contract where the length stands by another name, and the answer is known. -/
theorem put_at (s : Int) (a : Option Addr) (n cap : Nat) (l : List Int) (L : List UInt8) (c : Int) (w : World) (hn : l.length = n) (hR : putR s l = (L, c)) (hl : n ≤ 100000) (hr : Lies w w.heap.size a (ints l)) :
    Calls Tryz.prog 91 #[.int .i64 s, .slice a n cap] w fun e w' => e = .returned (.tuple #[.string (str L), .int .i64 c]) ∧ Below w.heap.size w w' := by
  subst hn
  refine (put_any s a cap l w hl hr).mono fun e w' h => ?_
  unfold Answers at h
  rw [hR] at h
  exact h

end Go.Proofs.YtnbjaijhdjneoaaGreat

namespace Go.Proofs.YtnbjaijhdjneoaaGreat
open Go.RowKit CrcMath

/-- The sum of bytes, as a number. -/
def sumI (l : List UInt8) : Int := ((crc l).toNat : Int)
theorem sumI_bd (l : List UInt8) : 0 ≤ sumI l ∧ sumI l < 4294967296 := by
  unfold sumI
  have := (crc l).isLt
  omega

theorem sum_end (l : List UInt8) : wrap64 (bits .xor .u32 IntKind.u32.max ((reg ones l).toNat : Int)) = sumI l := by
  have hb := sumI_bd l
  have e : bits .xor .u32 IntKind.u32.max ((reg ones l).toNat : Int) = sumI l := by
    have h1 : IntKind.u32.max = ((4294967295 : Nat) : Int) := rfl
    rw [h1, u32_xor_nat _ _ (by omega) (BitVec.isLt _), sumI, crc, ← BitVec.allOnes_xor, BitVec.toNat_xor, BitVec.toNat_allOnes]
  rw [e, IntWalk.wrap64_in _ ⟨by omega, by omega⟩]

theorem crc_sum_any (b : Nat) (a : Option Addr) (cap : Nat) (l : List ByteArray) (w : World) (ht : Tab w b 0) (hb : b < w.heap.size) (hl : l.length ≤ 140737488355328) (hs : ∀ s ∈ l, s.size ≤ maxLen) (hr : Lies w w.heap.size a (strs l)) :
    Calls Tryz.prog 75 #[.pointer (some ⟨b, 0, none⟩), .slice a l.length cap] w fun e w' => e = .returned (.int .i64 (sumI (cat l))) ∧ Below w.heap.size w w' := by
  go_enter Tryz.func75, Tryz.ntmps75
  go_wp2_with (go_at_call 92; refine (bare_any _ _ _ ht).mono ?_; rintro e w' ⟨rfl, rfl⟩)
  go_loopw [5, 19] (fun t i wr => ∃ k : Nat, k ≤ l.length ∧ i = .int .i64 k ∧ t = .int .u32 ((reg ones (cat (l.take k))).toNat : Int) ∧ Below w.heap.size w wr) (fun _ i _ => l.length - (intOf i).toNat)
  case atStart => exact ⟨0, by omega, rfl, rfl, Below.refl _ _⟩
  case round =>
    obtain ⟨k, hk, rfl, rfl, hbw⟩ := hrel
    by_cases hlt : k < l.length
    · obtain ⟨bl, off, rfl, hbb, hc⟩ := hr (by rw [strs_length]; omega)
      have hcell : wr.cell? ⟨bl, off + k, none⟩ = some (.string l[k]) := (hbw.cell (p := ⟨bl, off + k, none⟩) hbb).trans (hc k _ (strs_get l k hlt))
      have hsz := hs l[k] (List.getElem_mem _)
      have HT : Hid (_ = _) := Lib.hid (take_snoc l k hlt)
      have htw : Hid (Tab wr b 0) := Lib.hid (ht.below hbw hb)
      have hbz : b < wr.heap.size := Nat.lt_of_lt_of_le hb hbw.size
      generalize hx : reg ones (cat (l.take k)) = x
      have HX := Lib.hid hx
      clear hx hc hs hr ht
      go_wp2_with (go_at_call 93; refine (feed_any _ _ _ _ _ htw.out hbz hsz).mono ?_; rintro e w1 ⟨rfl, hb1⟩)
      go_roundw
      case rel => exact ⟨k + 1, by omega, by go_num, by rw [HT.out, cat_snoc, reg_append, HX.out], hbw.trans (hb1.mono hbw.size)⟩
      case measure => simp [intOf]; omega
    · have HE : Hid (l.take k = l) := Lib.hid (List.take_of_length_le (by omega))
      go_wp2
      go_ret
      exact ⟨ret_int (by rw [HE.out]; exact sum_end _), hbw⟩

theorem sum_at (b : Nat) (a : Option Addr) (n cap : Nat) (l : List ByteArray) (w : World) (hn : l.length = n) (ht : Tab w b 0) (hb : b < w.heap.size) (hl : n ≤ 140737488355328) (hs : ∀ s ∈ l, s.size ≤ maxLen) (hr : Lies w w.heap.size a (strs l)) :
    Calls Tryz.prog 75 #[.pointer (some ⟨b, 0, none⟩), .slice a n cap] w fun e w' => e = .returned (.int .i64 (sumI (cat l))) ∧ Below w.heap.size w w' := by
  subst hn
  exact crc_sum_any b a cap l w ht hb hl hs hr

/-- A slice of one text that the call has just laid. -/
theorem lies_str (x : ByteArray) (w : World) (t : TypeId) : Lies (w.alloc (.cells #[.string x] t)) (w.alloc (.cells #[.string x] t)).heap.size (some ⟨w.heap.size, 0, none⟩) (strs [x]) := Lies.one (by simp) (by simp)

/-- A sum as four bytes. -/
def tailB (n : Int) : List UInt8 := NumMath.be 4 n.toNat

theorem crc_tail_any (n : Int) (w : World) (h0 : 0 ≤ n) (h1 : n < 4294967296) :
    Calls Tryz.prog 74 #[.int .i64 n] w fun e w' => e = .returned (.string (str (tailB n))) ∧ Below w.heap.size w w' := by
  have HR : Hid (putR 4 [n] = (tailB n, 0)) := Lib.hid <| by
    rw [putR_ok rfl (by simp [fitAll, fitB]; omega)]
    simp [putBytes, tailB]
  have HL : Hid (Lies (w.alloc (.cells #[.int .i64 n] 3)) (w.alloc (.cells #[.int .i64 n] 3)).heap.size (some ⟨w.heap.size, 0, none⟩) (ints [n])) := Lib.hid (Lies.one (by simp) (by simp))
  go_enter Tryz.func74, Tryz.ntmps74
  go_wp2_with (go_at_call 91; refine (put_at _ _ 1 _ [n] _ _ _ rfl HR.out (by decide) HL.out).mono ?_; rintro e w1 ⟨rfl, hb1⟩)
  go_ret
  exact ⟨rfl, ((Below.refl _ _).alloc (Nat.le_refl _) _).trans (hb1.mono (by simp))⟩

theorem cat_join (l : List ByteArray) : Lib.join (l.map (·.data.toList)) (ByteArray.empty).data.toList = cat l := by
  have e : (ByteArray.empty).data.toList = [] := rfl
  rw [Lib.join, e]
  induction l with
  | nil => rfl
  | cons s l ih =>
    cases l with
    | nil => simp [cat, List.intercalate]
    | cons t l =>
      have h : cat (s :: t :: l) = s.data.toList ++ cat (t :: l) := rfl
      rw [h, ← ih]
      simp [List.intercalate]

theorem join_any (a : Option Addr) (cap : Nat) (l : List ByteArray) (w : World) (hl : l.length ≤ 140737488355328) (hcap : l.length ≤ cap) (hlen : (cat l).length ≤ 140737488355328) (hr : Lies w w.heap.size a (strs l)) :
    Calls Tryz.prog 73 #[.slice a l.length cap, .string ByteArray.empty] w fun e w' => e = .returned (.string (str (cat l))) ∧ Below w.heap.size w w' := by
  by_cases h0 : 0 < l.length
  · obtain ⟨b, o, rfl, hb, hc⟩ := hr (by rw [strs_length]; exact h0)
    refine (Tryz.strings_Join b o cap l ByteArray.empty w (fun j x hx => hc j _ ?_) hb hl hcap (by rw [cat_join]; exact hlen)).mono fun e w' h => ⟨?_, h.2⟩
    · simp [strs, hx]
    · rw [h.1, cat_join]; rfl
  · have e : l = [] := List.eq_nil_of_length_eq_zero (by omega)
    subst e
    exact (Tryz.strings_Join_none a cap ByteArray.empty w).mono fun e w' h => ⟨h.1, h.2 ▸ Below.refl _ _⟩

/-- What was sealed. -/
def sealB (l : List UInt8) : List UInt8 := l ++ tailB (sumI l)
theorem tailB_length (n : Int) : (tailB n).length = 4 := NumMath.be_length _ _
theorem sealB_length (l : List UInt8) : (sealB l).length = l.length + 4 := by rw [sealB, List.length_append, tailB_length]

theorem seal_any (b : Nat) (a : Option Addr) (cap : Nat) (l : List ByteArray) (w : World) (ht : Tab w b 0) (hb : b < w.heap.size) (hl : l.length ≤ 140737488355328) (hcap : l.length ≤ cap) (hs : ∀ s ∈ l, s.size ≤ maxLen) (hlen : (cat l).length ≤ 140737488355000) (hr : Lies w w.heap.size a (strs l)) :
    Calls Tryz.prog 50 #[.pointer (some ⟨b, 0, none⟩), .slice a l.length cap] w fun e w' => e = .returned (.string (str (sealB (cat l)))) ∧ Below w.heap.size w w' := by
  have hz : (str (cat l)).size ≤ 140737488355000 := by rw [str_size]; exact hlen
  have hz2 : (str (tailB (sumI (cat l)))).size ≤ 4 := by rw [str_size, tailB_length]; omega
  have hs2 := sumI_bd (cat l)
  go_enter Tryz.func50, Tryz.ntmps50
  go_wp2_with (first
    | (go_at_call 73; refine (join_any _ _ _ _ hl hcap (by omega) hr).mono ?_; rintro e w1 ⟨rfl, hb1⟩)
    | (go_at_call 75; refine (crc_sum_any _ _ _ _ _ (ht.below hb1 hb) (Nat.lt_of_lt_of_le hb hb1.size) hl hs (hr.step hb1)).mono ?_; rintro e w2 ⟨rfl, hb2⟩)
    | (go_at_call 74; refine (crc_tail_any _ _ hs2.1 hs2.2).mono ?_; rintro e w3 ⟨rfl, hb3⟩))
  go_ret
  exact ⟨ret_str (by rw [str_append]; rfl), hb1.trans ((hb2.mono hb1.size).trans (hb3.mono (Nat.le_trans hb1.size hb2.size)))⟩

/-- What Open answers. -/
def openR (l : List UInt8) : List UInt8 × Int :=
  if l.length < 4 then ([], 13) else if l.drop (l.length - 4) = tailB (sumI (l.take (l.length - 4))) then (l.take (l.length - 4), 0) else ([], 7)
theorem openR_short {l : List UInt8} (h : l.length < 4) : openR l = ([], 13) := by rw [openR, if_pos h]
theorem openR_sum {l : List UInt8} (h : ¬ l.length < 4) (h2 : ¬ l.drop (l.length - 4) = tailB (sumI (l.take (l.length - 4)))) : openR l = ([], 7) := by rw [openR, if_neg h, if_neg h2]
theorem openR_ok {l : List UInt8} (h : ¬ l.length < 4) (h2 : l.drop (l.length - 4) = tailB (sumI (l.take (l.length - 4)))) : openR l = (l.take (l.length - 4), 0) := by rw [openR, if_neg h, if_pos h2]

theorem crc_clone_any (s : ByteArray) (w : World) (hs : s.size ≤ 140737488355328) :
    Calls Tryz.prog 94 #[.string s] w fun e w' => e = .returned (.string s) ∧ Below w.heap.size w w' := by
  go_enter Tryz.func94, Tryz.ntmps94
  go_wp2_with (go_at_call 116; refine (Tryz.stringslite_Clone _ _ (by omega)).mono ?_; rintro e w3 ⟨rfl, hb3⟩)
  go_ret
  exact ⟨rfl, hb3⟩

theorem open_any (b : Nat) (s : ByteArray) (w : World) (ht : Tab w b 0) (hb : b < w.heap.size) (hs : s.size ≤ 140737488355328) :
    Calls Tryz.prog 76 #[.pointer (some ⟨b, 0, none⟩), .string s] w fun e w' => e = .returned (.tuple #[.string (str (openR s.data.toList).1), .int .i64 (openR s.data.toList).2]) ∧ Below w.heap.size w w' := by
  by_cases h4 : s.size < 4
  · have HR : Hid (openR s.data.toList = ([], 13)) := Lib.hid (openR_short (by rw [size_list]; exact h4))
    go_enter Tryz.func76, Tryz.ntmps76
    go_wp2
    go_ret2
    exact ⟨by rw [HR.out]; rfl, Below.refl _ _⟩
  · go_enter Tryz.func76, Tryz.ntmps76
    go_wp2
    go_quiet (fail)
    generalize hw0 : w.drewN nq = w0
    have hb0 : Below w.heap.size w w0 := by rw [← hw0]; exact (Below.refl _ _).drewN _
    have hz0 : w0.heap.size = w.heap.size := by rw [← hw0]; rfl
    have HZ0 := Lib.hid hz0
    clear hw0 hz0
    obtain ⟨x, hx⟩ : ∃ x, s.extract 0 (s.size - 4) = x := ⟨_, rfl⟩
    obtain ⟨y, hy⟩ : ∃ y, s.extract (s.size - 4) s.size = y := ⟨_, rfl⟩
    rw [hx, hy]
    have HX : Hid (s.data.toList.take (s.size - 4) = x.data.toList) := Lib.hid (by rw [← hx, ByteArray.data_extract]; simp)
    have HY : Hid (s.data.toList.drop (s.size - 4) = y.data.toList) := Lib.hid (by rw [← hy, ByteArray.data_extract]; simp [List.take_of_length_le])
    have hxs : x.size ≤ 140737488355328 := by rw [← hx, ByteArray.size_extract]; omega
    clear hx hy
    have hbz : b < w0.heap.size := Nat.lt_of_lt_of_le hb hb0.size
    have HTW : Hid (Tab (w0.alloc (.cells #[.string x] 9)) b 0) := Lib.hid ((ht.below hb0 hb).below ((Below.refl _ _).alloc (Nat.le_refl _) _) hbz)
    have HL := Lib.hid (lies_str x w0 9)
    have hbz2 : b < (w0.alloc (.cells #[.string x] 9)).heap.size := by rw [World.size_alloc]; omega
    have hs2 := sumI_bd (cat [x])
    have HC : Hid (cat [x] = x.data.toList) := Lib.hid (cat_one x)
    have hx1 : ∀ s ∈ [x], s.size ≤ maxLen := by intro s hs; rw [List.mem_singleton] at hs; rw [hs]; unfold maxLen; omega
    have HX1 := Lib.hid hx1
    clear hx1 ht
    by_cases hyes : y = str (tailB (sumI (cat [x])))
    · have HR : Hid (openR s.data.toList = (x.data.toList, 0)) := Lib.hid <| by
        have hn : ¬ s.data.toList.length < 4 := by rw [size_list]; exact h4
        rw [openR_ok hn (by rw [size_list, HX.out, HY.out, hyes, str_list, HC.out]), size_list, HX.out]
      have hq := beq_yes hyes
      have HY2 := Lib.hid hyes
      clear hyes
      go_wp2_with (first
        | (go_at_call 75; refine (sum_at _ _ 1 _ [x] _ rfl HTW.out hbz2 (by decide) HX1.out HL.out).mono ?_; rintro e w1 ⟨rfl, hb1⟩)
        | (go_at_call 74; refine (crc_tail_any _ _ hs2.1 hs2.2).mono ?_; rintro e w2 ⟨rfl, hb2⟩)
        | (go_at_call 94; refine (crc_clone_any _ _ (by omega)).mono ?_; rintro e w3 ⟨rfl, hb3⟩))
      go_ret2
      exact ⟨by rw [HR.out, str_of]; rfl, hb0.trans (((((Below.refl _ _).alloc (Nat.le_refl _) _).trans (hb1.mono (by simp))).trans ((hb2.mono (by have := hb1.size; simp at this; omega)).trans (hb3.mono (by have := hb1.size; have := hb2.size; simp at *; omega)))).mono hb0.size)⟩
    · have HR : Hid (openR s.data.toList = ([], 7)) := Lib.hid <| by
        have hn : ¬ s.data.toList.length < 4 := by rw [size_list]; exact h4
        refine openR_sum hn ?_
        rw [size_list, HX.out, HY.out]
        intro e
        exact hyes (by rw [HC.out, ← e, str_of])
      have hq := beq_no hyes
      have HY2 := Lib.hid hyes
      clear hyes
      go_wp2_with (first
        | (go_at_call 75; refine (sum_at _ _ 1 _ [x] _ rfl HTW.out hbz2 (by decide) HX1.out HL.out).mono ?_; rintro e w1 ⟨rfl, hb1⟩)
        | (go_at_call 74; refine (crc_tail_any _ _ hs2.1 hs2.2).mono ?_; rintro e w2 ⟨rfl, hb2⟩))
      go_ret2
      exact ⟨by rw [HR.out]; rfl, hb0.trans ((((Below.refl _ _).alloc (Nat.le_refl _) _).trans ((hb1.mono (by simp)).trans (hb2.mono (by have := hb1.size; simp at this; omega)))).mono hb0.size)⟩

/-! The contracts at a list of texts that the caller has just laid. -/
theorem sum_new (b n cap : Nat) (l : List ByteArray) (t : TypeId) (w : World) (hn : l.length = n) (ht : Tab w b 0) (hb : b < w.heap.size) (hl : n ≤ 140737488355328) (hs : ∀ s ∈ l, s.size ≤ maxLen) :
    Calls Tryz.prog 75 #[.pointer (some ⟨b, 0, none⟩), .slice (some ⟨w.heap.size, 0, none⟩) n cap] (w.alloc (.cells (strs l).toArray t)) fun e w' => e = .returned (.int .i64 (sumI (cat l))) ∧ Below w.heap.size w w' := by
  refine (sum_at b _ n cap l _ hn (ht.below (alloc_below _ _) hb) (by simp; omega) hl hs (Lies.new _ _ _)).mono fun e w' h => ⟨h.1, (alloc_below _ _).trans (h.2.mono (by simp))⟩
theorem seal_new (b n cap : Nat) (l : List ByteArray) (t : TypeId) (w : World) (hn : l.length = n) (ht : Tab w b 0) (hb : b < w.heap.size) (hl : n ≤ 140737488355328) (hcap : n ≤ cap) (hs : ∀ s ∈ l, s.size ≤ maxLen) (hlen : (cat l).length ≤ 140737488355000) :
    Calls Tryz.prog 50 #[.pointer (some ⟨b, 0, none⟩), .slice (some ⟨w.heap.size, 0, none⟩) n cap] (w.alloc (.cells (strs l).toArray t)) fun e w' => e = .returned (.string (str (sealB (cat l)))) ∧ Below w.heap.size w w' := by
  subst hn
  refine (seal_any b _ cap l _ (ht.below (alloc_below _ _) hb) (by simp; omega) hl hcap hs hlen (Lies.new _ _ _)).mono fun e w' h => ⟨h.1, (alloc_below _ _).trans (h.2.mono (by simp))⟩

/-! A summer that isn't there. -/
end Go.Proofs.YtnbjaijhdjneoaaGreat

namespace Go.Proofs.YtnbjaijhdjneoaaGreat
open Go.RowKit CrcMath

/-- The register behind k bits of a byte, as the document has it. -/
def refR (k : Nat) (x : R) (c : UInt8) : R := its k (x ^^^ ex c) ^^^ (ex c >>> k)
theorem refR_zero (x : R) (c : UInt8) : refR 0 x c = x := by
  show (x ^^^ ex c) ^^^ (ex c >>> 0) = x
  rw [BitVec.ushiftRight_zero, BitVec.xor_assoc, BitVec.xor_self, BitVec.xor_zero]
theorem ex_shift (c : UInt8) (k : Nat) : (ex c >>> k).toNat = c.toNat / 2 ^ k := by
  have := c.toNat_lt
  rw [BitVec.toNat_ushiftRight, Nat.shiftRight_eq_div_pow, ex, BitVec.toNat_ofNat, Nat.mod_eq_of_lt (by omega)]
theorem refR_eight (x : R) (c : UInt8) : refR 8 x c = fd x c := by
  have h : ex c >>> 8 = 0 := by
    apply BitVec.eq_of_toNat_eq
    rw [ex_shift]
    have := c.toNat_lt
    show c.toNat / 256 = 0
    omega
  rw [refR, h]
  show its 8 (x ^^^ ex c) ^^^ 0#32 = _
  rw [BitVec.xor_zero]; rfl
theorem lsb_mod (x : R) : x.getLsbD 0 = decide (x.toNat % 2 = 1) := by
  rw [BitVec.getLsbD, Nat.testBit_zero]
theorem refR_succ (k : Nat) (x : R) (c : UInt8) :
    refR (k + 1) x c = if ((refR k x c).toNat % 2 = c.toNat / 2 ^ k % 2) then refR k x c >>> 1 else (refR k x c >>> 1) ^^^ P := by
  obtain ⟨z, hz⟩ : ∃ z, z = its k (x ^^^ ex c) := ⟨_, rfl⟩
  obtain ⟨d, hd⟩ : ∃ d, d = ex c >>> k := ⟨_, rfl⟩
  have e1 : refR k x c = z ^^^ d := by rw [hz, hd, refR]
  have e2 : refR (k + 1) x c = stp z ^^^ (d >>> 1) := by
    rw [hz, hd, refR, its, ← BitVec.shiftRight_add]
  have e3 : c.toNat / 2 ^ k = d.toNat := by rw [hd, ex_shift]
  have hl : (z ^^^ d).getLsbD 0 = (z.getLsbD 0 ^^ d.getLsbD 0) := BitVec.getLsbD_xor ..
  rw [lsb_mod, lsb_mod d] at hl
  rw [e1, e2, e3, stp]
  have hx : ((z ^^^ d) >>> 1) = (z >>> 1) ^^^ (d >>> 1) := BitVec.ushiftRight_xor_distrib ..
  rw [hx]
  have hb : ∀ a : Nat, a % 2 = 0 ∨ a % 2 = 1 := fun a => by omega
  cases hq : z.getLsbD 0 with
  | true =>
    rw [hq] at hl
    rw [if_pos rfl, if_neg]
    · ac_rfl
    · intro h
      rw [h] at hl
      rcases hb d.toNat with h1 | h1 <;> simp [h1] at hl
  | false =>
    rw [hq] at hl
    rw [if_neg (by decide), if_pos]
    rw [Bool.false_xor, decide_eq_decide] at hl
    generalize (z ^^^ d).toNat = q at hl ⊢
    have := hb d.toNat
    have := hb q
    omega

theorem ref_xor (y : R) : bits .xor .i64 ((y.toNat : Int) / 2) 3988292384 = (((y >>> 1) ^^^ P).toNat : Int) := by
  have hx := y.isLt
  have e1 : (y.toNat : Int) / 2 = ((y.toNat / 2 : Nat) : Int) := by omega
  rw [e1, show (3988292384 : Int) = ((3988292384 : Nat) : Int) from rfl, xor_i64 _ _ (by omega) (by omega), BitVec.toNat_xor, BitVec.toNat_ushiftRight, Nat.shiftRight_eq_div_pow]
  rfl
theorem ref_end (l : List UInt8) : 4294967295 - ((reg ones l).toNat : Int) = sumI l := by
  have := (reg ones l).isLt
  rw [sumI, crc, BitVec.toNat_not]
  omega

set_option maxRecDepth 100000 in
theorem refSum_any (s : ByteArray) (w : World) (hs : s.size ≤ 140737488355328) :
    Calls Tryz.prog 82 #[.string s] w fun e w' => e = .returned (.int .i64 (sumI s.data.toList)) ∧ w = w' := by
  go_enter Tryz.func82, Tryz.ntmps82
  go_wp2
  go_loop [3, 4] (fun t i => ∃ k : Nat, k ≤ s.size ∧ i = .int .i64 k ∧ t = .int .i64 ((reg ones (s.data.toList.take k)).toNat : Int)) (fun _ i => s.size - (intOf i).toNat)
  case atStart => exact ⟨0, by omega, rfl, rfl⟩
  case round =>
    obtain ⟨k, hk, rfl, rfl⟩ := hrel
    generalize hx : reg ones (s.data.toList.take k) = x
    have HX := Lib.hid hx
    clear hx
    have hx32 : x.toNat < 4294967296 := x.isLt
    by_cases hlt : k < s.size
    · have HT : Hid (reg ones (s.data.toList.take (k + 1)) = fd x s[k]) := Lib.hid (by rw [bytes_take s k hlt, reg_snoc, HX.out])
      have hc256 : (s[k].toNat : Int) < 256 := by have := s[k].toNat_lt; omega
      go_wp2
      go_loop [3, 5, 6] (fun t d i => ∃ b : Nat, b ≤ 8 ∧ i = .int .i64 b ∧ d = .int .i64 ((s[k].toNat / 2 ^ b : Nat) : Int) ∧ t = .int .i64 ((refR b x s[k]).toNat : Int)) (fun _ _ i => 8 - (intOf i).toNat)
      case atStart => exact ⟨0, by omega, rfl, by simp, by rw [refR_zero]⟩
      case round =>
        obtain ⟨b, hb, rfl, rfl, rfl⟩ := hrel
        by_cases hb8 : b < 8
        · have HS : Hid (_ = _) := Lib.hid (refR_succ b x s[k])
          have HD : Hid (s[k].toNat / 2 ^ (b + 1) = s[k].toNat / 2 ^ b / 2) := Lib.hid (by rw [Nat.pow_succ, Nat.div_div_eq_div_mul])
          generalize hy : refR b x s[k] = y
          rw [hy] at HS
          generalize hd : s[k].toNat / 2 ^ b = d
          rw [hd] at HS HD
          have hd256 : d < 256 := by rw [← hd]; exact Nat.lt_of_le_of_lt (Nat.div_le_self _ _) (by omega)
          have hy32 : y.toNat < 4294967296 := y.isLt
          have HXO : Hid (_ = _) := Lib.hid (ref_xor y)
          clear hy hd
          by_cases hq : y.toNat % 2 = d % 2
          · have hne : ((y.toNat : Int) % 2 != (d : Int) % 2) = false := by rw [bne_eq_false_iff_eq]; omega
            have HQ := Lib.hid hq
            clear hq
            go_wp2
            go_round
            case rel => exact ⟨b + 1, by omega, by go_num, by rw [HD.out]; go_num, by rw [HS.out, if_pos HQ.out, BitVec.toNat_ushiftRight, Nat.shiftRight_eq_div_pow]; go_num⟩
            case measure => simp [intOf]; omega
          · have hne : ((y.toNat : Int) % 2 != (d : Int) % 2) = true := by rw [bne_iff_ne]; omega
            have HQ := Lib.hid hq
            clear hq
            go_wp2
            go_round
            case rel => exact ⟨b + 1, by omega, by go_num, by rw [HD.out]; go_num, by rw [HS.out, if_neg HQ.out, HXO.out]⟩
            case measure => simp [intOf]; omega
        · have eb : b = 8 := by omega
          subst eb
          go_wp2
          go_round
          case rel => exact ⟨k + 1, by omega, by go_num, by rw [HT.out, refR_eight]⟩
          case measure => simp [intOf]; omega
    · have HE : Hid (s.data.toList.take k = s.data.toList) := Lib.hid (List.take_of_length_le (by rw [size_list]; omega))
      go_wp2
      go_ret
      exact ⟨ret_int (by rw [← HX.out, HE.out]; exact ref_end _), rfl⟩

end Go.Proofs.YtnbjaijhdjneoaaGreat

namespace Go.Proofs.YtnbjaijhdjneoaaGreat
open Go.RowKit CrcMath

theorem refSeal_any (s : ByteArray) (w : World) (hs : s.size ≤ 140737488355000) :
    Calls Tryz.prog 57 #[.string s] w fun e w' => e = .returned (.string (str (sealB s.data.toList))) ∧ Below w.heap.size w w' := by
  obtain ⟨n, hn⟩ : ∃ n, n = sumI s.data.toList := ⟨_, rfl⟩
  have hb := sumI_bd s.data.toList
  rw [← hn] at hb
  have h0 := hb.1
  have h1 := hb.2
  have HN := Lib.hid hn
  clear hn hb
  have hconv : (convert 67 9 (.slice (some ⟨w.heap.size, 0, none⟩) 4 4)).run Tryz.prog (w.alloc (.cells #[.int .u8 (n / 16777216), .int .u8 (n / 65536 % 256), .int .u8 (n / 256 % 256), .int .u8 (n % 256)] 5)) = .ok (.string (str (tailB n))) (w.alloc (.cells #[.int .u8 (n / 16777216), .int .u8 (n / 65536 % 256), .int .u8 (n / 256 % 256), .int .u8 (n % 256)] 5)) := by
    have e : tailB n = [UInt8.ofNat (n.toNat / 16777216 % 256), UInt8.ofNat (n.toNat / 65536 % 256), UInt8.ofNat (n.toNat / 256 % 256), UInt8.ofNat (n.toNat % 256)] := by
      rw [tailB, NumMath.be_cons, NumMath.be_cons, NumMath.be_cons, NumMath.be_cons]
      simp [NumMath.be]
    have hv : ∀ m : Nat, ((UInt8.ofNat (m % 256)).toNat : Int) = (m : Int) % 256 := fun m => by rw [NumMath.toNat_mod]; omega
    refine conv_bytes _ 0 4 (tailB n) 4 _ (tailB_length n) fun j hj => ?_
    rw [Nat.zero_add, World.cell?_alloc_at _ _ _ j rfl]
    rw [tailB_length] at hj
    simp only [e]
    match j, hj with
    | 0, _ => simp only [List.getElem_cons_zero, hv]; simp; omega
    | 1, _ => simp only [List.getElem_cons_succ, List.getElem_cons_zero, hv]; simp; omega
    | 2, _ => simp only [List.getElem_cons_succ, List.getElem_cons_zero, hv]; simp; omega
    | 3, _ => simp only [List.getElem_cons_succ, List.getElem_cons_zero, hv]; simp; omega
  go_enter Tryz.func57, Tryz.ntmps57
  have hT : (str (tailB n)).size ≤ 4 := by rw [str_size, tailB_length]; omega
  go_wp2_with (go_at_call 82; refine (refSum_any _ _ (by omega)).mono ?_; rintro e w1 ⟨rfl, rfl⟩; rw [← HN.out])
  go_ret
  exact ⟨ret_str (by rw [sealB, ← str_append, str_of, ← HN.out]), alloc_below _ _⟩

theorem refOpen_any (s : ByteArray) (w : World) (hs : s.size ≤ 140737488351232) :
    Calls Tryz.prog 54 #[.string s] w fun e w' => e = .returned (.tuple #[.string (str (openR s.data.toList).1), .int .i64 (openR s.data.toList).2]) ∧ Below w.heap.size w w' := by
  by_cases h4 : s.size < 4
  · have HR : Hid (openR s.data.toList = ([], 13)) := Lib.hid (openR_short (by rw [size_list]; exact h4))
    go_enter Tryz.func54, Tryz.ntmps54
    go_wp2
    go_ret2
    exact ⟨by rw [HR.out]; rfl, Below.refl _ _⟩
  · have hn : ¬ s.data.toList.length < 4 := by rw [size_list]; exact h4
    obtain ⟨x, hx⟩ : ∃ x, s.extract 0 (s.size - 4) = x := ⟨_, rfl⟩
    have hxl : s.data.toList.take (s.size - 4) = x.data.toList := by rw [← hx, ByteArray.data_extract]; simp
    have hxs : x.size ≤ 140737488351000 ∨ 140737488351000 < x.size := by omega
    have hxz : x.size = s.size - 4 := by rw [← hx, ByteArray.size_extract]; omega
    have HZ := Lib.hid hxz
    have hxs2 : x.size ≤ 140737488351228 := by omega
    have HXL := Lib.hid hxl
    clear hxl hxz hxs
    by_cases hyes : str (sealB x.data.toList) = s
    · have HR : Hid (openR s.data.toList = (x.data.toList, 0)) := Lib.hid <| by
        have h1 : s.data.toList = x.data.toList ++ tailB (sumI x.data.toList) := by rw [← hyes, str_list, sealB]
        have h2 : s.data.toList.drop (s.data.toList.length - 4) = tailB (sumI (s.data.toList.take (s.data.toList.length - 4))) := by
          rw [size_list, HXL.out]
          conv => lhs; rw [h1]
          have : s.size - 4 = x.data.toList.length := by rw [size_list, HZ.out]
          rw [this, List.drop_left]
        rw [openR_ok hn h2, size_list, HXL.out]
      have hq := beq_yes hyes
      have HY := Lib.hid hyes
      clear hyes hn
      go_enter Tryz.func54, Tryz.ntmps54
      go_wp2_with (go_at_call 57; rw [hx]; refine (refSeal_any _ _ (by omega)).mono ?_; rintro e w1 ⟨rfl, hb1⟩)
      go_ret2
      exact ⟨by rw [HR.out, str_of, hx]; rfl, hb1⟩
    · have HR : Hid (openR s.data.toList = ([], 7)) := Lib.hid <| by
        refine openR_sum hn fun h => hyes ?_
        rw [size_list, HXL.out] at h
        have h1 : s.data.toList = s.data.toList.take (s.size - 4) ++ s.data.toList.drop (s.size - 4) := (List.take_append_drop _ _).symm
        rw [sealB, ← h, ← HXL.out, ← h1, str_of]
      have hq := beq_no hyes
      have HY := Lib.hid hyes
      clear hyes hn
      go_enter Tryz.func54, Tryz.ntmps54
      go_wp2_with (go_at_call 57; rw [hx]; refine (refSeal_any _ _ (by omega)).mono ?_; rintro e w1 ⟨rfl, hb1⟩)
      go_ret2
      exact ⟨by rw [HR.out]; rfl, hb1⟩

end Go.Proofs.YtnbjaijhdjneoaaGreat

namespace Go.Proofs.YtnbjaijhdjneoaaGreat
open Go.RowKit CrcMath

/-- What was sealed is opened. -/
theorem openR_seal (l : List UInt8) : openR (sealB l) = (l, 0) := by
  have e : (sealB l).length - 4 = l.length := by rw [sealB_length]; omega
  have h1 : (sealB l).take ((sealB l).length - 4) = l := by rw [e, sealB, List.take_left]
  have h2 : (sealB l).drop ((sealB l).length - 4) = tailB (sumI l) := by rw [e, sealB, List.drop_left]
  rw [openR_ok (by rw [sealB_length]; omega) (by rw [h1, h2]), h1]

end Go.Proofs.YtnbjaijhdjneoaaGreat

namespace Go.Proofs.YtnbjaijhdjneoaaGreat
open Go.RowKit CrcMath

def zer (n : Nat) : List UInt8 := List.replicate n 0
def pick4 (b0 b1 b2 b3 : UInt8) : Nat → UInt8
  | 0 => b0 | 1 => b1 | 2 => b2 | _ => b3
/-- The bytes L, of which the first k of four from a on are turned. -/
def mix (L : List UInt8) (a : Nat) (p : Nat → UInt8) : Nat → List UInt8
  | 0 => L
  | k + 1 => (mix L a p k).set (a + k) ((mix L a p k).getD (a + k) 0 ^^^ p k)
theorem mix_length (L : List UInt8) (a : Nat) (p : Nat → UInt8) (k : Nat) : (mix L a p k).length = L.length := by
  induction k with
  | zero => rfl
  | succ k ih => rw [mix, List.length_set, ih]
theorem mix_get (L : List UInt8) (a : Nat) (p : Nat → UInt8) (k i : Nat) :
    (mix L a p k).getD i 0 = if a ≤ i ∧ i < a + k ∧ i < L.length then L.getD i 0 ^^^ p (i - a) else L.getD i 0 := by
  induction k with
  | zero => rw [if_neg (by omega)]; rfl
  | succ k ih =>
    rw [mix, List.getD_eq_getElem?_getD, List.getElem?_set, mix_length]
    by_cases e : a + k = i
    · subst e
      rw [if_pos rfl]
      by_cases hl : a + k < L.length
      · have h2 : (mix L a p k).getD (a + k) 0 = L.getD (a + k) 0 := by
          have h3 : ∀ j, (mix L a p j).getD (a + k) 0 = (mix L a p j).getD (a + k) 0 := fun _ => rfl
          rw [ih, if_neg (by omega)]
        rw [if_pos hl, if_pos (by omega), Option.getD_some, h2]
        congr 2
        omega
      · rw [if_neg hl, if_neg (by omega)]
        simp [List.getD_eq_getElem?_getD, hl]
    · rw [if_neg e, ← List.getD_eq_getElem?_getD, ih]
      by_cases h : a ≤ i ∧ i < a + k ∧ i < L.length
      · rw [if_pos h, if_pos (by omega)]
      · rw [if_neg h, if_neg (by omega)]

theorem xors_length (l m : List UInt8) (h : l.length = m.length) : (xors l m).length = l.length := by simp [xors, h]
theorem xors_getD (l m : List UInt8) (h : l.length = m.length) (i : Nat) : (xors l m).getD i 0 = l.getD i 0 ^^^ m.getD i 0 := by
  simp only [List.getD_eq_getElem?_getD, xors, List.getElem?_zipWith]
  by_cases hi : i < l.length
  · rw [List.getElem?_eq_getElem hi, List.getElem?_eq_getElem (by omega)]
    rfl
  · rw [List.getElem?_eq_none (by omega), List.getElem?_eq_none (by omega)]
    decide
theorem ext_getD {l m : List UInt8} (h : l.length = m.length) (hg : ∀ i, l.getD i 0 = m.getD i 0) : l = m := by
  refine List.ext_getElem h fun i h1 h2 => ?_
  have := hg i
  rwa [List.getD_eq_getElem?_getD, List.getD_eq_getElem?_getD, List.getElem?_eq_getElem h1, List.getElem?_eq_getElem h2, Option.getD_some, Option.getD_some] at this

/-- What is turned in all. -/
def err (a r : Nat) (b0 b1 b2 b3 : UInt8) : List UInt8 := zer a ++ [b0, b1, b2, b3] ++ zer r
theorem err_length (a r : Nat) (b0 b1 b2 b3 : UInt8) : (err a r b0 b1 b2 b3).length = a + 4 + r := by simp [err, zer]; omega
theorem err_get (a r : Nat) (b0 b1 b2 b3 : UInt8) (i : Nat) : (err a r b0 b1 b2 b3).getD i 0 = if a ≤ i ∧ i < a + 4 then pick4 b0 b1 b2 b3 (i - a) else 0 := by
  rw [err, zer, zer, List.append_assoc, List.getD_eq_getElem?_getD]
  by_cases h1 : i < a
  · rw [List.getElem?_append_left (by simpa using h1), List.getElem?_replicate, if_pos h1, if_neg (by omega)]; rfl
  · rw [List.getElem?_append_right (by simp; omega), List.length_replicate]
    by_cases h2 : i - a < 4
    · rw [List.getElem?_append_left (by simpa using h2), if_pos (by omega)]
      obtain ⟨j, hj⟩ : ∃ j, i - a = j := ⟨_, rfl⟩
      rw [hj] at h2 ⊢
      match j, h2 with
      | 0, _ | 1, _ | 2, _ | 3, _ => rfl
    · rw [List.getElem?_append_right (by simp; omega), if_neg (by omega), List.getElem?_replicate]
      split <;> rfl

theorem mix_err (L : List UInt8) (a r : Nat) (b0 b1 b2 b3 : UInt8) (h : L.length = a + 4 + r) : mix L a (pick4 b0 b1 b2 b3) 4 = xors L (err a r b0 b1 b2 b3) := by
  have hl : L.length = (err a r b0 b1 b2 b3).length := by rw [err_length, h]
  refine ext_getD (by rw [mix_length, xors_length _ _ hl]) fun i => ?_
  rw [xors_getD _ _ hl, mix_get, err_get]
  by_cases h1 : a ≤ i ∧ i < a + 4
  · rw [if_pos (by omega), if_pos h1]
  · rw [if_neg (by omega), if_neg h1, UInt8.xor_zero]

theorem reg_err (a r : Nat) (b0 b1 b2 b3 : UInt8) (h : reg 0 (err a r b0 b1 b2 b3) = 0) : b0 = 0 ∧ b1 = 0 ∧ b2 = 0 ∧ b3 = 0 := by
  rw [err, reg_append, reg_append, zer, reg_zero_zeros] at h
  exact four _ _ _ _ (reg_zeros r h)

theorem sumI_turned (l : List UInt8) (e : List UInt8) (hl : l.length = e.length) (h : sumI (xors l e) = sumI l) : reg 0 e = 0 := by
  have h1 := reg_xor l e hl ones 0
  have h0 : ones ^^^ (0 : R) = ones := by decide
  rw [h0] at h1
  have h2 : crc (xors l e) = crc l := by
    apply BitVec.eq_of_toNat_eq
    unfold sumI at h
    omega
  have h3 : reg ones (xors l e) = reg ones l := by
    have := congrArg (fun x : R => ~~~ x) h2
    simpa [crc] using this
  rw [h3] at h1
  have := congrArg (fun x : R => reg ones l ^^^ x) h1
  simp only [← BitVec.xor_assoc, BitVec.xor_self, BitVec.zero_xor] at this
  exact this.symm

theorem tailB_inj {n m : Int} (hn : 0 ≤ n ∧ n < 4294967296) (hm : 0 ≤ m ∧ m < 4294967296) (h : tailB n = tailB m) : n = m := by
  have := NumMath.be_inj 4 n.toNat m.toNat (by omega) (by omega) h
  omega

theorem xors_append (a b c d : List UInt8) (h : a.length = c.length) : xors (a ++ b) (c ++ d) = xors a c ++ xors b d := by
  simp [xors, List.zipWith_append h]
theorem xors_zer (l : List UInt8) (n : Nat) (h : l.length = n) : xors l (zer n) = l := by
  refine ext_getD (by simp [xors, zer, h]) fun i => ?_
  rw [xors_getD _ _ (by simp [zer, h]), zer, List.getD_eq_getElem?_getD, List.getD_eq_getElem?_getD, List.getElem?_replicate]
  split <;> simp

theorem tells (l : List UInt8) (a : Nat) (b0 b1 b2 b3 : UInt8) (hne : ¬ (b0 = 0 ∧ b1 = 0 ∧ b2 = 0 ∧ b3 = 0)) (ha : a = l.length ∨ a + 4 ≤ l.length) :
    openR (mix (sealB l) a (pick4 b0 b1 b2 b3) 4) = ([], 7) := by
  have hlen : (sealB l).length = a + 4 + (l.length - a) := by rw [sealB_length]; omega
  have e1 : (mix (sealB l) a (pick4 b0 b1 b2 b3) 4).length = l.length + 4 := by rw [mix_length, sealB_length]
  have e2 : (mix (sealB l) a (pick4 b0 b1 b2 b3) 4).length - 4 = l.length := by omega
  refine openR_sum (by omega) ?_
  rw [e2, mix_err _ _ _ _ _ _ _ hlen]
  rcases ha with rfl | ha
  · have h0 : err l.length (l.length - l.length) b0 b1 b2 b3 = zer l.length ++ [b0, b1, b2, b3] := by simp [err, zer]
    have h1 : xors (sealB l) (err l.length (l.length - l.length) b0 b1 b2 b3) = l ++ xors (tailB (sumI l)) [b0, b1, b2, b3] := by
      rw [h0, sealB, xors_append _ _ _ _ (by simp [zer]), xors_zer l _ rfl]
    rw [h1, List.drop_left, List.take_left]
    intro h
    apply hne
    have hx : ∀ i, (tailB (sumI l)).getD i 0 ^^^ [b0, b1, b2, b3].getD i 0 = (tailB (sumI l)).getD i 0 := fun i => by
      rw [← xors_getD _ _ (by rw [tailB_length]; rfl), h]
    have hz : ∀ i, [b0, b1, b2, b3].getD i 0 = 0 := fun i => by
      have := congrArg (fun x => (tailB (sumI l)).getD i 0 ^^^ x) (hx i)
      simpa [← UInt8.xor_assoc] using this
    exact ⟨hz 0, hz 1, hz 2, hz 3⟩
  · obtain ⟨r, hr⟩ : ∃ r, l.length = a + 4 + r := ⟨l.length - a - 4, by omega⟩
    have h0 : err a (l.length - a) b0 b1 b2 b3 = err a r b0 b1 b2 b3 ++ zer 4 := by
      rw [err, err, List.append_assoc (zer a ++ [b0, b1, b2, b3])]
      congr 1
      rw [zer, zer, zer, List.replicate_append_replicate]
      congr 1
      omega
    have hl : l.length = (err a r b0 b1 b2 b3).length := by rw [err_length, hr]
    have h1 : xors (sealB l) (err a (l.length - a) b0 b1 b2 b3) = xors l (err a r b0 b1 b2 b3) ++ tailB (sumI l) := by
      rw [h0, sealB, xors_append _ _ _ _ hl, xors_zer _ 4 (tailB_length _)]
    have h2 : (xors l (err a r b0 b1 b2 b3)).length = l.length := xors_length _ _ hl
    rw [h1, ← h2, List.drop_left, List.take_left]
    intro h
    have h3 := tailB_inj (sumI_bd _) (sumI_bd _) h
    exact hne (reg_err a r _ _ _ _ (sumI_turned l _ hl h3.symm))

end Go.Proofs.YtnbjaijhdjneoaaGreat

namespace Go.Proofs.YtnbjaijhdjneoaaGreat
section
variable {P : Program}
theorem run_part_int {e : TypeId} (hg : ∀ w, (isAgg e).run P w = .ok false w) (xs : Array Value) (i : Nat) (v : Value) (h : xs[i]? = some v) (w : World) : (part e xs i).run P w = .ok v w := by
  simp [part, hg, h]
theorem run_equal_ints (D : Nat) (t e : TypeId) (n : Nat) (k : IntKind) (xs ys : List Int) (w : World) (ht : P.underlying t = some (.array n e)) (he : P.underlying e = some (.int k)) 
   (hs : ∀ w, (sizeOf e).run P w = .ok 1 w) (hg : ∀ w, (isAgg e).run P w = .ok false w) (hx : xs.length = n) (hy : ys.length = n) :
    (Op.equalIn (D + 2) t (.agg (xs.map (Value.int k)).toArray) (.agg (ys.map (Value.int k)).toArray)).run P w = .ok (decide (xs = ys)) w := by
  obtain ⟨E, hE⟩ : ∃ E, D + 1 = E := ⟨_, rfl⟩
  have hstep : ∀ (a b : Int) (w : World), (Op.equalIn E e (.int k a) (.int k b)).run P w = .ok (a == b) w := fun a b w => by
    rw [← hE]; exact run_equalIn_int w D e k k a b he
  rw [show D + 2 = E + 1 by omega]
  simp only [Op.equalIn, Sem.run_bind, run_underlying ht, Result.andThen_ok, hs, Nat.mul_one]
  rw [Std.Legacy.Range.forIn_eq_forIn_range']
  have key : ∀ (m i : Nat), i + m = n → xs.take i = ys.take i → ∀ w,
     ((forIn (List.range' i m 1) ((none : Option Bool), ()) fun (j : Nat) (_ : Option Bool × Unit) => do
        if (!(← Op.equalIn E e (← part e (List.map (Value.int k) xs).toArray j) (← part e (List.map (Value.int k) ys).toArray j))) = true then pure (ForInStep.done (some false, ())) else pure (ForInStep.yield ((none : Option Bool), ())) : Sem (Option Bool × Unit))).run P w = .ok (if xs = ys then none else some false, ()) w := by
    intro m
    induction m with
    | zero =>
      intro i hi hp w
      have e : xs = ys := by rwa [List.take_of_length_le (by omega), List.take_of_length_le (by omega)] at hp
      rw [if_pos e]
      simp
    | succ m ih =>
      intro i hi hp w
      have h1 : i < xs.length := by omega
      have h2 : i < ys.length := by omega
      have p1 := run_part_int (P := P) hg (List.map (Value.int k) xs).toArray i (.int k xs[i]) (by simp [h1])
      have p2 := run_part_int (P := P) hg (List.map (Value.int k) ys).toArray i (.int k ys[i]) (by simp [h2])
      rw [List.range'_succ, List.forIn_cons]
      simp only [Sem.run_bind, p1, p2, hstep, Result.andThen_ok]
      by_cases e : xs[i] = ys[i]
      · have eb : (xs[i] == ys[i]) = true := by simpa using e
        simp only [eb, Bool.not_true, Bool.false_eq_true, if_false, Sem.run_pure, Result.andThen_ok]
        exact ih (i + 1) (by omega) (by rw [List.take_succ_eq_append_getElem h1, List.take_succ_eq_append_getElem h2, hp, e]) w
      · have eb : (xs[i] == ys[i]) = false := by simpa using e
        have hne : ¬ xs = ys := fun h => e (by simp [h])
        simp only [eb, Bool.not_false, if_true, Sem.run_pure, Result.andThen_ok, if_neg hne]
  have hsz : [:n].size = n := by simp [Std.Legacy.Range.size]
  rw [hsz]
  have k0 := key n 0 (by omega) rfl w
  refine (congrArg (fun r => Result.andThen r _) k0).trans ?_
  by_cases e : xs = ys
  · simp [e]
  · simp [e]
end
end Go.Proofs.YtnbjaijhdjneoaaGreat

namespace Go.Proofs.YtnbjaijhdjneoaaGreat
open Go.RowKit CrcMath

end Go.Proofs.YtnbjaijhdjneoaaGreat

namespace Go.Proofs.YtnbjaijhdjneoaaGreat
open Go.RowKit CrcMath

/-- A text's first block. -/
def blk (l : List UInt8) : List UInt8 := l.take 60 ++ List.replicate (60 - l.length) 0
theorem blk_length (l : List UInt8) : (blk l).length = 60 := by simp [blk]; omega
theorem blk_seal (l : List UInt8) (h : l.length = 60) : blk (sealB l) = l := by
  unfold blk
  rw [sealB_length, sealB, h, List.take_left' h]
  simp
theorem flat_length (L : List (List UInt8)) (h : ∀ b ∈ L, b.length = 60) : L.flatten.length = 60 * L.length := by
  induction L with
  | nil => rfl
  | cons b L ih =>
    rw [List.flatten_cons, List.length_append, h b (List.mem_cons_self ..), ih (fun c hc => h c (List.mem_cons_of_mem _ hc)), List.length_cons]
    omega
theorem flat_take (L : List (List UInt8)) (k : Nat) (hk : k < L.length) : (L.take (k + 1)).flatten = (L.take k).flatten ++ L[k] := by
  rw [List.take_succ_eq_append_getElem hk, List.flatten_append, List.flatten_cons, List.flatten_nil, List.append_nil]
theorem flat_mid (L : List (List UInt8)) (h : ∀ b ∈ L, b.length = 60) (k : Nat) (hk : k < L.length) : ∃ z, L.flatten = (L.take k).flatten ++ L[k] ++ z ∧ (L.take k).flatten.length = 60 * k := by
  refine ⟨(L.drop (k + 1)).flatten, ?_, ?_⟩
  · rw [← flat_take L k hk, ← List.flatten_append, List.take_append_drop]
  · rw [flat_length _ (fun b hb => h b (List.mem_of_mem_take hb)), List.length_take]
    congr 1
    omega

/-- Is a sector's tag right? -/
def rightT (l : List UInt8) : Bool := decide ((openR l).2 = 0) && decide (l.length = 64)
theorem right_seal (l : List UInt8) (h : l.length = 60) : rightT (sealB l) = true := by
  rw [rightT, openR_seal, sealB_length, h]; rfl
/-- A blank sector's tag isn't right. -/
theorem right_blank : rightT (List.replicate 64 255) = false := by decide +kernel

theorem bytes_oneC (l : List UInt8) : (bytes l).all (·.oneCell') = true := by simp [bytes, Value.oneCell']
theorem bytes_rep (n : Nat) (c : UInt8) : bytes (List.replicate n c) = List.replicate n (.int .u8 (c.toNat : Int)) := by simp [bytes]
end Go.Proofs.YtnbjaijhdjneoaaGreat

namespace Go.Proofs.YtnbjaijhdjneoaaGreat
open Go.RowKit

section
variable {P : Program} {ops : Array Oper} {Q : Exit → Act → World → Prop}

theorem region_storeT {id : Nat} {a : Act} {w : World} (s k : Nat) (X : List Nat) (hkX : k ∉ X) (D : List (Nat × Nat)) (φ : Nat → Value → World → Prop) (G : World → Prop) (H : Value → World → Prop) (hm : P.follows .mixedOrders = true)
    (hsz : s < ops.size) (hord : ordX ops = true) (hcl : ((List.range ops.size).all fun j => (j == s) || X.contains j || reachB ops ops.size s j) = true)
    (hD1 : D.map (·.1) = (List.range ops.size).filter fun j => j != s) (hD2 : (D.map (·.2)).Nodup) (hD3 : (D.all fun p => (ops[p.1]?.bind (·.dst)) == some p.2) = true) (hD4 : (D.all fun p => Nat.blt p.2 a.tmps.size) = true)
    (hS : (ops[s]?.map (·.dst)) = some none) (hmono : ∀ i v w w', φ i v w → Below w.heap.size w w' → φ i v w') (hG : G w.drew)
    (step : ∀ p ∈ D, waitsB ops p.1 s = false → ∀ u w, G w → Came ops φ u w p.1 →
      wpOp P ops Q p.1 (fun a' w' => a'.defers = (puts D a u).defers ∧ φ p.1 (a'.tmps.getD p.2 undef) w' ∧ G w' ∧ Below w.heap.size w w') (puts D a u) w)
    (stepX : ∀ p ∈ D, p.1 ∈ X → ∀ u w, H (u k) w → Came ops (fun i v _ => i ≠ s → ∃ w1, φ i v w1) u w p.1 →
      wpOp P ops Q p.1 (fun a' w' => a'.defers = (puts D a u).defers ∧ (∃ w1, φ p.1 (a'.tmps.getD p.2 undef) w1) ∧ H (u k) w') (puts D a u) w)
    (stepS : ∀ u w, G w → (∀ p ∈ D, p.1 ∉ X → φ p.1 (u p.1) w) → wpOp P ops Q s (fun a' w' => a'.defers = (puts D a u).defers ∧ H (u k) w') (puts D a u) w)
    (fin : ∀ u w, H (u k) w → (∀ p ∈ D, ∃ w1, φ p.1 (u p.1) w1) → Q .normal (puts D a u) w) : (Code.region id ops true).wp P Q a w := by
  refine wp_region_any hm ?_
  have hnd1 : (D.map (·.1)).Nodup := by rw [hD1]; exact List.nodup_range.filter _
  have hmemD : ∀ i, i < ops.size → i ≠ s → ∃ d, (i, d) ∈ D := fun i hi hne => by
    have : i ∈ D.map (·.1) := by rw [hD1]; exact List.mem_filter.2 ⟨List.mem_range.2 hi, by simpa using hne⟩
    obtain ⟨⟨i', d⟩, hp, rfl⟩ := List.mem_map.1 this
    exact ⟨d, hp⟩
  have hltD : ∀ p ∈ D, p.1 < ops.size ∧ p.1 ≠ s := fun p hp => by
    have : p.1 ∈ D.map (·.1) := List.mem_map.2 ⟨p, hp, rfl⟩
    rw [hD1] at this
    have h := List.mem_filter.1 this
    exact ⟨List.mem_range.1 h.1, by simpa using h.2⟩
  have hclX : ∀ j, j < ops.size → j ≠ s → j ∉ X → reachB ops ops.size s j = true := fun j hj hne hx => by
    have := List.all_eq_true.1 hcl j (List.mem_range.2 hj)
    rw [Bool.or_eq_true, Bool.or_eq_true] at this
    rcases this with (h | h) | h
    · exact absurd (by simpa using h) hne
    · exact absurd (by simpa using h) hx
    · exact h
  have hslot : ∀ p ∈ D, ∀ o, ops[p.1]? = some o → o.dst = some p.2 ∧ p.2 < a.tmps.size := fun p hp o ho => by
    have hd3 := List.all_eq_true.1 hD3 _ hp
    have hd4 := List.all_eq_true.1 hD4 _ hp
    simp only [ho, Option.bind_some, beq_iff_eq] at hd3
    exact ⟨hd3, by simp [Nat.blt] at hd4; omega⟩
  -- behind the write
  have keyB : ∀ (fuel : Nat) (listed : Array Bool) (w : World) (u : Nat → Value) (L : List Nat), listed.size = ops.size → L.length ≤ fuel → (∀ i, listed.getD i true = false → i ∈ L) → H (u k) w →
      (∀ i, listed.getD i true = false → i ≠ s ∧ i ∈ X) → (∀ i, i < ops.size → i ≠ s → listed.getD i true = true → ∃ w1, φ i (u i) w1) → wpAny P .any ops Q fuel listed (puts D a u) w := by
    intro fuel
    induction fuel with
    | zero =>
      intro listed w u L hs hL hin hh hX hφ
      have hall : ∀ i, listed.getD i true = true := fun i => by
        cases hi : listed.getD i true with
        | true => rfl
        | false => have := hin i hi; rw [List.length_eq_zero_iff.1 (Nat.le_zero.1 hL)] at this; cases this
      refine ⟨?_, fin u w hh fun p hp => hφ p.1 (hltD p hp).1 (hltD p hp).2 (hall _)⟩
      rw [List.eq_nil_iff_forall_not_mem]
      intro i hi
      have := (mem_ready.1 hi).2.1
      rw [hall i] at this
      cases this
    | succ fuel ih =>
      intro listed w u L hs hL hin hh hX hφ
      refine ⟨fun hr => fin u w hh fun p hp => hφ p.1 (hltD p hp).1 (hltD p hp).2 (all_listedX hord hs hr _), fun i hi => ?_⟩
      obtain ⟨h1, h2, o, ho, h3⟩ := mem_ready.1 hi
      obtain ⟨his, hiX⟩ := hX i h2
      obtain ⟨d, hp⟩ := hmemD i h1 his
      have hst := stepX _ hp hiX u w hh (fun o' ho' e he hb => by
        obtain rfl := Option.some.inj (ho'.symm.trans ho)
        have hl := h3 e he hb
        have hlt : e.on < ops.size := by
          rw [← hs]
          by_cases hl2 : e.on < listed.size
          · exact hl2
          · simp [Array.getD, hl2] at hl
        intro hes
        refine hφ e.on hlt hes ?_
        rw [getD_tf (by omega)]
        exact hl)
      obtain ⟨hd3, hd5⟩ := hslot _ hp o ho
      have hst2 := wpOp_value (R := fun v w' => (∃ w1, φ i v w1) ∧ H (u k) w') ho hd3 (by rw [puts_size]; exact hd5) hst
      refine wpOp_mono ?_ hst2
      rintro a' w' ⟨v, rfl, hv, hh'⟩
      rw [puts_put u i d v D a hnd1 hD2 hp]
      have eku : upd u i v k = u k := by simp [upd]; intro e; rw [e] at hkX; exact absurd hiX hkX
      refine ih _ w' (upd u i v) (L.erase i) (by simpa using hs) ?_ ?_ (by rw [eku]; exact hh') ?_ ?_
      · rw [List.length_erase_of_mem (hin i h2)]
        omega
      · intro j hj
        have hji : j ≠ i := fun e => by
          subst e
          have : j < listed.size := by omega
          simp [Array.getD, this] at hj
        rw [getD_set_other (Ne.symm hji)] at hj
        exact (List.mem_erase_of_ne hji).2 (hin j hj)
      · intro j hj
        have hji : j ≠ i := fun e => by
          subst e
          have : j < listed.size := by omega
          simp [Array.getD, this] at hj
        rw [getD_set_other (Ne.symm hji)] at hj
        exact hX j hj
      · intro j hj hjs hl
        by_cases hji : j = i
        · subst hji
          simpa [upd] using hv
        · have e1 : upd u i v j = u j := by simp [upd, hji]
          rw [e1]
          rw [getD_set_other (Ne.symm hji)] at hl
          exact hφ j hj hjs hl
  -- ahead of the write
  have keyA : ∀ (fuel : Nat) (listed : Array Bool) (w : World) (u : Nat → Value) (L : List Nat), listed.size = ops.size → L.length ≤ fuel → (∀ i, listed.getD i true = false → i ∈ L) → listed.getD s true = false → Anc ops listed → G w →
      (∀ i, i < ops.size → i ≠ s → listed.getD i true = true → φ i (u i) w) → wpAny P .any ops Q fuel listed (puts D a u) w := by
    intro fuel
    induction fuel with
    | zero =>
      intro listed w u L hs hL hin hns _ hg hφ
      have := hin s hns
      rw [List.length_eq_zero_iff.1 (Nat.le_zero.1 hL)] at this
      cases this
    | succ fuel ih =>
      intro listed w u L hs hL hin hns hanc hg hφ
      refine ⟨fun hr => ?_, fun i hi => ?_⟩
      · have := all_listedX hord hs hr s
        rw [hns] at this
        cases this
      · obtain ⟨h1, h2, o, ho, h3⟩ := mem_ready.1 hi
        have hancn : Anc ops (listed.setIfInBounds i true) := by
          intro j o' ho' hl e he hb
          by_cases ej : i = j
          · subst ej
            obtain rfl := Option.some.inj (ho'.symm.trans ho)
            have := h3 e he hb
            by_cases e2 : i = e.on
            · rw [← e2, getD_set_self (by omega)]
            · rw [getD_set_other e2]; exact this
          · rw [getD_set_other ej] at hl
            have := hanc j o' ho' hl e he hb
            by_cases e2 : i = e.on
            · rw [← e2, getD_set_self (by omega)]
            · rw [getD_set_other e2]; exact this
        by_cases his : i = s
        · subst his
          have hall : ∀ j, j < ops.size → j ≠ i → j ∉ X → listed.getD j false = true := fun j hj hne hx =>
            reach_listed hanc ops.size i j (fun o' ho' e he hb => by
              obtain rfl := Option.some.inj (ho'.symm.trans ho)
              exact h3 e he hb) (hclX j hj hne hx)
          have hod : o.dst = none := by
            rw [ho] at hS
            simpa using hS
          refine wpOp_mono ?_ (wpOp_none ho hod (stepS u w hg fun p hp hx => hφ p.1 (hltD p hp).1 (hltD p hp).2 (by rw [getD_tf (by have := (hltD p hp).1; omega)]; exact hall p.1 (hltD p hp).1 (hltD p hp).2 hx)))
          rintro a' w' ⟨rfl, hh⟩
          refine keyB fuel _ w' u (L.erase i) (by simpa using hs) ?_ ?_ hh ?_ ?_
          · rw [List.length_erase_of_mem (hin i h2)]
            omega
          · intro j hj
            have hji : j ≠ i := fun e => by
              subst e
              have : j < listed.size := by omega
              simp [Array.getD, this] at hj
            rw [getD_set_other (Ne.symm hji)] at hj
            exact (List.mem_erase_of_ne hji).2 (hin j hj)
          · intro j hj
            have hji : j ≠ i := fun e => by
              subst e
              have : j < listed.size := by omega
              simp [Array.getD, this] at hj
            rw [getD_set_other (Ne.symm hji)] at hj
            have hjl : j < listed.size := by
              by_cases hl : j < listed.size
              · exact hl
              · simp [Array.getD, hl] at hj
            refine ⟨hji, Classical.byContradiction fun hx => ?_⟩
            have := hall j (by omega) hji hx
            rw [← getD_tf hjl, hj] at this
            cases this
          · intro j hj hjs hl
            rw [getD_set_other (Ne.symm hjs)] at hl
            exact ⟨w, hφ j hj hjs hl⟩
        · obtain ⟨d, hp⟩ := hmemD i h1 his
          have hws : waitsB ops i s = false := by
            cases hw : waitsB ops i s with
            | false => rfl
            | true =>
              unfold waitsB at hw
              rw [ho] at hw
              simp only [Option.map_some, Option.getD_some, List.any_eq_true, Bool.and_eq_true, Nat.beq_eq] at hw
              obtain ⟨e, he, hb, rfl⟩ := hw
              have hl := h3 e he hb
              rw [← getD_tf (by omega), hns] at hl
              cases hl
          have hst := step _ hp hws u w hg (fun o' ho' e he hb => by
            obtain rfl := Option.some.inj (ho'.symm.trans ho)
            have hl := h3 e he hb
            have hlt : e.on < listed.size := by
              by_cases hl2 : e.on < listed.size
              · exact hl2
              · simp [Array.getD, hl2] at hl
            have hes : e.on ≠ s := fun e2 => by
              rw [e2] at hl
              rw [← getD_tf (by omega), hns] at hl
              cases hl
            refine hφ e.on (by omega) hes ?_
            rw [getD_tf hlt]
            exact hl)
          obtain ⟨hd3, hd5⟩ := hslot _ hp o ho
          have hst2 := wpOp_value (R := fun v w' => φ i v w' ∧ G w' ∧ Below w.heap.size w w') ho hd3 (by rw [puts_size]; exact hd5) hst
          refine wpOp_mono ?_ hst2
          rintro a' w' ⟨v, rfl, hv, hg', hb'⟩
          rw [puts_put u i d v D a hnd1 hD2 hp]
          refine ih _ w' (upd u i v) (L.erase i) (by simpa using hs) ?_ ?_ (by rw [getD_set_other his]; exact hns) hancn hg' ?_
          · rw [List.length_erase_of_mem (hin i h2)]
            omega
          · intro j hj
            have hji : j ≠ i := fun e => by
              subst e
              have : j < listed.size := by omega
              simp [Array.getD, this] at hj
            rw [getD_set_other (Ne.symm hji)] at hj
            exact (List.mem_erase_of_ne hji).2 (hin j hj)
          · intro j hj hjs hl
            by_cases hji : j = i
            · subst hji
              simpa [upd] using hv
            · have e1 : upd u i v j = u j := by simp [upd, hji]
              rw [e1]
              rw [getD_set_other (Ne.symm hji)] at hl
              exact hmono j _ w w' (hφ j hj hjs hl) hb'
  have hu : ∃ u : Nat → Value, puts D a u = a := by
    refine ⟨fun i => ((D.find? fun p => p.1 == i).map fun p => a.tmps.getD p.2 undef).getD undef, puts_self _ _ _ fun p hp => ?_⟩
    have : D.find? (fun q => q.1 == p.1) = some p := by
      clear fin step stepX stepS hD2 hD1 hD3 hD4 keyA keyB hmemD hltD hslot
      induction D with
      | nil => cases hp
      | cons q D ih =>
        rw [List.map_cons, List.nodup_cons] at hnd1
        rcases List.mem_cons.1 hp with rfl | hp
        · simp
        · have hne : (q.1 == p.1) = false := by
            rw [beq_eq_false_iff_ne]
            intro e
            exact hnd1.1 (List.mem_map.2 ⟨p, hp, e.symm⟩)
          rw [List.find?_cons, hne]
          exact ih hnd1.2 hp
    simp only [this, Option.map_some, Option.getD_some]
  obtain ⟨u, hu⟩ := hu
  have hfF : ∀ i, (Array.replicate ops.size false).getD i false = false := fun i => by
    by_cases h : i < ops.size <;> simp [Array.getD, h]
  have := keyA ops.size (Array.replicate ops.size false) w.drew u (List.range ops.size) (by simp) (by simp) (fun i hi => by
    rw [List.mem_range]
    by_cases hl : i < ops.size
    · exact hl
    · simp [Array.getD, hl] at hi) (by simp [Array.getD, hsz]) (fun i o _ hl => by rw [hfF] at hl; cases hl) hG (fun i hi _ hl => by
    simp [Array.getD, hi] at hl)
  rw [hu] at this
  exact this
end

end Go.Proofs.YtnbjaijhdjneoaaGreat

namespace Go.Proofs.YtnbjaijhdjneoaaGreat
open Go.RowKit
section
variable {P : Program} {o : Oper} {A : Act} {wx : World} {K : Act → World → Prop} {Q : Exit → Act → World → Prop} {φ : Value → World → Prop} {G : World → Prop}
theorem put_defers (a : Act) (d : Option Nat) (v : Value) : (a.put d v).defers = a.defers := by cases d <;> rfl
theorem opLoadK {g : Nat} {t : TypeId} {l : List Value} (h : Row wx g t l) (ty : TypeId) {n : Nat} (hf : Fits P ty n) (hl : l.length = n) (d : Nat) (hd : o.dst = some d) (hs : d < A.tmps.size)
    (hK : ∀ a' w', (a'.defers = A.defers ∧ φ (a'.tmps.getD d undef) w' ∧ G w' ∧ Below wx.heap.size wx w') → K a' w')
    (x : Operand) (hop : o.op = .load ty x) (hx : A.eval x = .pointer (some ⟨g, 0, none⟩)) (hφ : φ (.agg l.toArray) wx) (hG : G wx) : o.wp P A wx K Q := by
  obtain ⟨d', hu, hd'⟩ := hf.row
  refine wp_load_row ty x hop g hx t l.toArray (0, 0) d' h hu (by cases d' <;> simp_all) (by simpa [hl] using hf.size) (hK _ _ ⟨put_defers _ _ _, ?_, hG, Below.refl _ _⟩)
  rw [hd, put_get A d _ hs]
  exact hφ
theorem opLoadRK {g i : Nat} {l : List Value} (h : wx.rangeAt g i l) (ty : TypeId) {n : Nat} (hf : Fits P ty n) (hl : l.length = n) (d : Nat) (hd : o.dst = some d) (hs : d < A.tmps.size)
    (hK : ∀ a' w', (a'.defers = A.defers ∧ φ (a'.tmps.getD d undef) w' ∧ G w' ∧ Below wx.heap.size wx w') → K a' w')
    (x : Operand) (hop : o.op = .load ty x) (hx : A.eval x = .pointer (some ⟨g, i, none⟩)) (hφ : φ (.agg l.toArray) wx) (hG : G wx) : o.wp P A wx K Q := by
  obtain ⟨d', hu, hd'⟩ := hf.row
  refine wp_load_mid ty x hop g i hx l d' h hu hd' (by rw [hl]; exact hf.size) (hK _ _ ⟨put_defers _ _ _, ?_, hG, Below.refl _ _⟩)
  rw [hd, put_get A d _ hs]
  exact hφ
theorem opStoreK {H : World → Prop} {g : Nat} {t : TypeId} {l : List Value} (h : Row wx g t l) (ty : TypeId) (m : List Value) {n : Nat} (hf : Fits P ty n) (hl : l.length = n) (hm : m.length = n) (h1 : m.all (·.oneCell') = true)
    (hK : ∀ a' w', (a'.defers = A.defers ∧ H w') → K a' w')
    (x y : Operand) (hop : o.op = .store ty x y) (hx : A.eval x = .pointer (some ⟨g, 0, none⟩)) (hy : A.eval y = .agg m.toArray)
    (hH : ∀ w', Row w' g t m → Only g wx w' → w'.heap.size = wx.heap.size → H w') : o.wp P A wx K Q :=
  wp_store_row ty x y hop g m.toArray hx hy t l.toArray h (by simpa [hm] using hf.size) (by simp [hl, hm]) (by simpa using h1)
    (hK _ _ ⟨put_defers _ _ _, hH _ (h.put m) ((Only.refl g wx).putRow g _ (Or.inl rfl)) (by simp)⟩)
/-- A part of a block, by value. -/
theorem wpLoadRK {ops : Array Oper} {rest : List Oper} {o : Oper} {a : Act} {w : World} {Q : Exit → Act → World → Prop} {g i : Nat} {y : List Value} (h : w.rangeAt g i y) (ty : TypeId) {n : Nat} (hf : Fits P ty n) (hy : y.length = n)
    (ho : loadOf o a = some (ty, .pointer (some ⟨g, i, none⟩))) (k : wpList P ops Q rest (a.put o.dst (.agg y.toArray)) w) : wpList P ops Q (o :: rest) a w := by
  obtain ⟨hg, p, ho, hp⟩ := loadOf_spec ho
  obtain ⟨d, hu, hd⟩ := hf.row
  exact wpList_load_mid hg ty p ho g i hp y d h hu hd (by rw [hy]; exact hf.size) k
theorem madeCells_same (v : Value) (m n : Nat) (hm : 0 < m) : madeCells (List.replicate m v).toArray n = (List.replicate n v).toArray := by
  apply Array.ext
  · simp [madeCells]
  · intro i h1 h2
    simp [madeCells, Nat.mod_lt _ hm]
/-- make([]T, n), T of s cells that are all alike. -/
theorem wpMakeS {ops : Array Oper} {rest : List Oper} {o : Oper} {a : Act} {w : World} {Q : Exit → Act → World → Prop} (T e : TypeId) (v : Value) (s n : Nat) (hT : P.underlying T = some (.slice e)) (hz : (P.info? e).map (fun i => (i.zero, i.size)) = some (some (.agg (List.replicate s v).toArray), s)) (hb : ((P.info? e).map fun i => decide (i.bytes ≤ 4096)) = some true) (hs : 0 < s)
    (hn : n ≤ 1000000) (ho : makeOf o a = some (T, .int .i64 (n : Int), .int .i64 (n : Int)))
    (k : ∀ w', Row w' w.heap.size e (List.replicate (n * s) v) → Below w.heap.size w w' → w'.heap.size = w.heap.size + 1 → wpList P ops Q rest (a.put o.dst (.slice (some ⟨w.heap.size, 0, none⟩) n n)) w') : wpList P ops Q (o :: rest) a w := by
  obtain ⟨hg, x, y, hop, hx, hy⟩ := makeOf_spec ho
  cases hq : P.info? e with
  | none => rw [hq] at hz; cases hz
  | some i =>
    rw [hq] at hz hb
    simp only [Option.map_some, Option.some.injEq, Prod.mk.injEq] at hz
    simp only [Option.map_some, Option.some.injEq, decide_eq_true_eq] at hb
    have hbb : (i.bytes : Int) * (n : Int) ≤ 281474976710656 := by
      have h1 : i.bytes * n ≤ 4096 * 1000000 := Nat.mul_le_mul hb hn
      have h2 : ((i.bytes * n : Nat) : Int) ≤ 281474976710656 := by omega
      rwa [Int.natCast_mul] at h2
    have hr := run_make (P := P) w T e i _ hT hq hz.1 .i64 .i64 (n : Int) (n : Int) (by omega) (by omega) hbb (by omega)
    rw [Int.toNat_natCast, hz.2] at hr
    have hm : madeCells (Value.agg (List.replicate s v).toArray).cells (n * s) = (List.replicate (n * s) v).toArray := madeCells_same v s (n * s) hs
    rw [hm] at hr
    refine wpList_plain hg fun K hK => ?_
    unfold Oper.wp execOp
    simp only [hop, hx, hy, Sem.run_bind, hr, Result.andThen_ok]
    exact hK _ _ (k _ (Row.new w e _) ((Below.refl _ _).alloc (Nat.le_refl _) _) (by simp))
end
end Go.Proofs.YtnbjaijhdjneoaaGreat

namespace Go.Proofs.YtnbjaijhdjneoaaGreat
open Go.RowKit CrcMath
set_option linter.unusedVariables false
set_option maxRecDepth 100000

theorem tag_zero : ∀ u, (zeroValue 48).run Tryz.prog u = .ok (.agg (bytes (List.replicate 60 0)).toArray) u := fun u => by kernel_rfl
theorem fits_block : Fits Tryz.prog 48 60 := ⟨⟨_, Tryz.underlying48, rfl⟩, by kernel_rfl⟩
theorem tag_byte : One Tryz.prog 5 := One.of (by kernel_rfl)
set_option maxHeartbeats 1000000 in
theorem tag_first_any (s : ByteArray) (w : World) (hs : s.size ≤ 140737488355328) :
    Calls Tryz.prog 77 #[.string s] w fun e w' => e = .returned (.tuple #[.agg (bytes (blk s.data.toList)).toArray, .string (str (s.data.toList.drop 60))]) ∧ Below w.heap.size w w' := by
  obtain ⟨O, hO⟩ : ∃ O : List UInt8, O = List.replicate 60 0 := ⟨_, rfl⟩
  obtain ⟨B, hB⟩ : ∃ B, B = bytes (blk s.data.toList) := ⟨_, rfl⟩
  obtain ⟨n, hn⟩ : ∃ n, n = Nat.min s.size 60 := ⟨_, rfl⟩
  obtain ⟨Y, hY⟩ : ∃ Y : List Value, Y = bytes (List.replicate n 0) := ⟨_, rfl⟩
  obtain ⟨Z, hZ⟩ : ∃ Z : List Value, Z = bytes (List.replicate (60 - n) 0) := ⟨_, rfl⟩
  obtain ⟨X, hX⟩ : ∃ X, X = s.extract n s.size := ⟨_, rfl⟩
  have hn1 : n ≤ s.size := by rw [hn]; exact Nat.min_le_left _ _
  have hn2 : n ≤ 60 := by rw [hn]; exact Nat.min_le_right _ _
  have hnc : (n = s.size ∧ s.size ≤ 60) ∨ (n = 60 ∧ 60 ≤ s.size) := by
    have h : n = min s.size 60 := hn
    omega
  have hsl := size_list s
  have HZ0 : Hid (∀ u, (zeroValue 48).run Tryz.prog u = .ok (.agg (bytes O).toArray) u) := Lib.hid (by rw [hO]; exact tag_zero)
  have HOY : Hid (bytes O = [] ++ Y ++ Z) := Lib.hid (by rw [hO, hY, hZ, List.nil_append, ← bytes_append, List.replicate_append_replicate, show n + (60 - n) = 60 by omega])
  have HBY : Hid ([] ++ bytes (s.data.toList.take n) ++ Z = B) := Lib.hid (by
    rw [hB, hZ, List.nil_append, ← bytes_append, blk, size_list]
    congr 2
    · rcases hnc with h | h
      · rw [h.1, List.take_of_length_le (by omega), List.take_of_length_le (by omega)]
      · rw [h.1]
    · congr 1
      omega)
  have HN : Hid (Nat.min s.size 60 = n) := Lib.hid hn.symm
  have LY : Hid (Y.length = n) := Lib.hid (by rw [hY, bytes_length, List.length_replicate])
  have LB : Hid (B.length = 60) := Lib.hid (by rw [hB, bytes_length, blk_length])
  have LO : Hid ((bytes O).length = 60) := Lib.hid (by rw [hO, bytes_length, List.length_replicate])
  have HB1 : Hid (B.all (·.oneCell') = true) := Lib.hid (by rw [hB]; exact bytes_oneC _)
  have HXE : Hid (X = str (s.data.toList.drop 60)) := Lib.hid (by
    have e : X.data.toList = s.data.toList.drop 60 := by
      rw [hX, ByteArray.data_extract]
      simp only [Array.toList_extract]
      rw [List.extract_eq_take_drop, ← hsl]
      rcases hnc with h | h
      · rw [List.drop_of_length_le (by omega), List.drop_of_length_le (by omega), List.take_nil]
      · rw [h.1, List.take_of_length_le (by simp)]
    rw [← e, str_of])
  rw [← hB, ← HXE.out]
  have HXX : Hid (s.extract n s.size = X) := Lib.hid hX.symm
  have hn3 : (n : Int) ≤ (s.size : Int) := by omega
  clear hO hB hn hY hZ hnc hsl hX
  go_enter Tryz.func77, Tryz.ntmps77
  go_wp2_with (first
    | ((with_reducible refine wpAllocK (w := w) (bytes O) 48 HZ0.out ?_ ?_); rfl; intro u1 r1 b1 s1; have R1 := Lib.hid r1; have B1 := Lib.hid b1; have S1 := Lib.hid s1; clear r1 b1 s1)
    | ((with_reducible refine wpAllocK (w := u1) (bytes O) 48 HZ0.out ?_ ?_); rfl; intro u2 r2 b2 s2; rw [HOY.out] at r2; have R2 := Lib.hid r2; have Q2 := Lib.hid (R1.out.step b2); have B2 : Hid (Below w.heap.size w u2) := Lib.hid (B1.out.next b2); have S2 := Lib.hid s2; clear r2 b2 s2)
    | ((with_reducible refine R2.out.wpCopyK (s := s) (dLen := 60) rfl 9 60 Tryz.underlying67 tag_byte HN.out LY.out ?_ ?_); rfl; intro u3 r3 o3 s3; rw [HBY.out] at r3; have R3 := Lib.hid r3; have Q3 := Lib.hid (Q2.out.only o3 (by have := S1.out; omega)); have B3 : Hid (Below w.heap.size w u3) := Lib.hid (B2.out.trans (o3.below B1.out.size B2.out.size)); clear r3 o3 s3))
  -- R3
  refine region_storeT 4 0 [1, 2, 3, 5] (by decide) [(0, 9), (1, 10), (2, 11), (3, 12), (5, 3)]
    (fun ii => [Is (.agg (B).toArray), Is (.string s), Is (.int .i64 (n : Int)), Is (.string X), Is undef, Is (.string X)].getD ii (Is undef))
    (fun w' => Below u3.heap.size u3 w') (fun _ w' => Below w.heap.size w w' ∧ Row w' w.heap.size 48 B) (by kernel_rfl) (by decide) (by kernel_rfl) (by kernel_rfl) (by decide) (by decide) (by kernel_rfl) rfl (by kernel_rfl) ?monoA ((Below.refl _ _).drew) ?stepA ?stepXA ?stepSA ?finA
  case monoA =>
    intro i
    match i with
    | 0 | 1 | 2 | 3 | 4 | 5 => exact Is.monot _
    | _ + 6 => exact Is.monot _
  case stepA =>
    refine List.forall_mem_cons.2 ⟨?As0, List.forall_mem_cons.2 ⟨?As1, List.forall_mem_cons.2 ⟨?As2, List.forall_mem_cons.2 ⟨?As3, List.forall_mem_cons.2 ⟨?As5, List.forall_mem_nil _⟩⟩⟩⟩⟩
    case As0 =>
      intro _
      intro u wx hg hC
      clear hC
      generalize hA : puts [(0, 9), (1, 10), (2, 11), (3, 12), (5, 3)] _ u = A
      have hp : A.tmps.getD 4 undef = (.pointer (some ⟨u1.heap.size, 0, none⟩)) := by rw [← hA]; exact (puts_get_out u _ _ 4 (by decide)).trans (by rfl)
      have hsz : 9 < A.tmps.size := by rw [← hA]; exact puts_room u (by kernel_rfl)
      refine wpOp_step rfl (fun K hK => ?_)
      clear hA
      exact opLoadK (φ := Is (.agg (B).toArray)) (R3.out.step hg) _ (fits_block) (LB.out) 9 rfl hsz hK (.tmp 4) rfl hp rfl hg
    case As1 =>
      intro _
      intro u wx hg hC
      clear hC
      refine wpOp_step rfl (fun K hK => ?_)
      simp only [puts, List.foldl]
      go_simp
      exact hK _ _ ⟨rfl, rfl, hg, Below.refl _ _⟩
    case As2 =>
      intro _
      intro u wx hg hC
      clear hC
      refine wpOp_step rfl (fun K hK => ?_)
      simp only [puts, List.foldl]
      go_simp
      exact hK _ _ ⟨rfl, rfl, hg, Below.refl _ _⟩
    case As3 =>
      intro _
      intro u wx hg hC
      have hJ1 : u 1 = (.string s) := hC.at 1 (by kernel_rfl)
      have hJ2 : u 2 = (.int .i64 (n : Int)) := hC.at 2 (by kernel_rfl)
      clear hC
      have hxx : s.extract n s.size = X := HXX.out
      refine wpOp_step rfl (fun K hK => ?_)
      simp only [puts, List.foldl]
      go_simp
      exact hK _ _ ⟨rfl, rfl, hg, Below.refl _ _⟩
    case As5 =>
      intro hw; exact Bool.noConfusion (hw.symm.trans (show waitsB _ 5 4 = true by kernel_rfl))
  case stepXA =>
    refine List.forall_mem_cons.2 ⟨?Ax0, List.forall_mem_cons.2 ⟨?Ax1, List.forall_mem_cons.2 ⟨?Ax2, List.forall_mem_cons.2 ⟨?Ax3, List.forall_mem_cons.2 ⟨?Ax5, List.forall_mem_nil _⟩⟩⟩⟩⟩
    case Ax0 =>
      intro hx; exact absurd hx (by decide)
    case Ax1 =>
      intro _ u wx hh hC
      clear hC
      refine wpOp_step rfl (fun K hK => ?_)
      simp only [puts, List.foldl]
      go_simp
      exact hK _ _ ⟨rfl, ⟨wx, rfl⟩, hh⟩
    case Ax2 =>
      intro _ u wx hh hC
      clear hC
      refine wpOp_step rfl (fun K hK => ?_)
      simp only [puts, List.foldl]
      go_simp
      exact hK _ _ ⟨rfl, ⟨wx, rfl⟩, hh⟩
    case Ax3 =>
      intro _ u wx hh hC
      have hJ1 : u 1 = (.string s) := by obtain ⟨_, hq⟩ := hC.at 1 (by kernel_rfl) (by decide); exact hq
      have hJ2 : u 2 = (.int .i64 (n : Int)) := by obtain ⟨_, hq⟩ := hC.at 2 (by kernel_rfl) (by decide); exact hq
      clear hC
      have hxx : s.extract n s.size = X := HXX.out
      refine wpOp_step rfl (fun K hK => ?_)
      simp only [puts, List.foldl]
      go_simp
      exact hK _ _ ⟨rfl, ⟨wx, rfl⟩, hh⟩
    case Ax5 =>
      intro _ u wx hh hC
      have hJ3 : u 3 = (.string X) := by obtain ⟨_, hq⟩ := hC.at 3 (by kernel_rfl) (by decide); exact hq
      clear hC
      refine wpOp_step rfl (fun K hK => ?_)
      simp only [puts, List.foldl]
      go_simp
      exact hK _ _ ⟨rfl, ⟨wx, rfl⟩, hh⟩
  case stepSA =>
    intro u wx hg hC
    have hJ0 : u 0 = .agg B.toArray := hC (0, 9) (by decide) (by decide)
    clear hC
    generalize hA : puts [(0, 9), (1, 10), (2, 11), (3, 12), (5, 3)] _ u = A
    have hp : A.tmps.getD 2 undef = .pointer (some ⟨w.heap.size, 0, none⟩) := by rw [← hA]; exact (puts_get_out u _ _ 2 (by decide)).trans (by rfl)
    have hq : A.tmps.getD 9 undef = .agg B.toArray := by rw [← hA]; exact (puts_get u 0 9 _ _ (by decide) (by decide) (by kernel_rfl)).trans hJ0
    refine wpOp_step rfl (fun K hK => ?_)
    clear hA
    exact opStoreK (Q3.out.step hg) _ B fits_block LO.out LB.out HB1.out hK (.tmp 2) (.tmp 9) rfl hp hq fun w' h1 h2 h3 => ⟨(B3.out.next hg).trans (h2.below (Nat.le_refl _) (B3.out.next hg).size), h1⟩
  case finA =>
    intro u wx hh hφ
    obtain ⟨_, hJ5⟩ : ∃ w1 : World, u 5 = .string X := hφ (5, 3) (by decide)
    simp only [puts, List.foldl]
    rw [hJ5]
    obtain ⟨hb, hr⟩ := hh
    have HR := Lib.hid hr
    have HB := Lib.hid hb
    clear hr hb
    go_wp2
    exact bodyPost_ret (HR.out.resultT rfl _ _ rfl Tryz.underlying48 rfl (by rw [LB.out]; exact fits_block.size)) rfl ⟨rfl, HB.out⟩
  -- end R3
end Go.Proofs.YtnbjaijhdjneoaaGreat

namespace Go.Proofs.YtnbjaijhdjneoaaGreat
open Go.RowKit CrcMath
set_option linter.unusedVariables false
set_option maxRecDepth 100000

theorem tag_rep (c : UInt8) (n : Nat) (w : World) (hn : n ≤ 140737488355328) : Calls Tryz.prog 13 #[.string { data := #[c] }, .int .i64 (n : Int)] w fun e w' => e = .returned (.string (str (List.replicate n c))) ∧ Below w.heap.size w w' := by
  have h := Tryz.strings_Repeat { data := #[c] } n w (by omega) (by show 1 * n ≤ _; omega)
  refine h.mono ?_
  rintro e w' ⟨rfl, hb⟩
  refine ⟨ret_str ?_, hb⟩
  show (⟨(Lib.repeatL [c] n).toArray⟩ : ByteArray) = ⟨(List.replicate n c).toArray⟩
  have e : ∀ m, Lib.repeatL [c] m = List.replicate m c := fun m => by
    induction m with
    | zero => rfl
    | succ m ih => simp [Lib.repeatL, List.replicate_succ, ih]
  rw [e]

theorem tag_seal_any (b : Nat) (l : List UInt8) (w : World) (ht : Tab w b 0) (hb : b < w.heap.size) (hl : l.length = 60) :
    Calls Tryz.prog 24 #[.pointer (some ⟨b, 0, none⟩), .agg (bytes l).toArray] w fun e w' => e = .returned (.string (str (sealB l))) ∧ Below w.heap.size w w' := by
  obtain ⟨L, hL⟩ : ∃ L, L = bytes l := ⟨_, rfl⟩
  obtain ⟨T, hT⟩ : ∃ T, T = str l := ⟨_, rfl⟩
  obtain ⟨S, hS⟩ : ∃ S, S = str (sealB l) := ⟨_, rfl⟩
  have HC : Hid (∀ u g cap, Row u g 48 L → (convert 67 9 (.slice (some ⟨g, 0, none⟩) 60 cap)).run Tryz.prog u = .ok (.string T) u) := Lib.hid fun u g cap h => by
    rw [hT]
    refine conv_bytes g 0 cap l 60 u hl fun j hj => ?_
    rw [Nat.zero_add, h.cell, hL]
    exact bytes_get l j hj
  have hcat : cat [T] = l := by rw [cat_one, hT, str_list]
  have HSE : Hid (∀ u, Tab u b 0 → b < u.heap.size → Calls Tryz.prog 50 #[.pointer (some ⟨b, 0, none⟩), .slice (some ⟨u.heap.size, 0, none⟩) 1 1] (u.alloc (.cells #[.string T] 9)) fun e w' => e = .returned (.string S) ∧ Below u.heap.size u w') := Lib.hid fun u h1 h2 => by
    have hz : T.size = 60 := by rw [hT, str_size, hl]
    have := seal_new b 1 1 [T] 9 u rfl h1 h2 (by omega) (Nat.le_refl _) (by intro x hx; rw [List.mem_singleton] at hx; rw [hx, hz]; unfold maxLen; omega) (by rw [hcat, hl]; omega)
    rw [hcat] at this
    rw [hS]
    exact this
  have HT := Lib.hid (ht.below (Below.refl _ w) hb)
  have HB := Lib.hid hb
  rw [← hL, ← hS]
  clear hL hT hS hcat ht hb
  go_enter Tryz.func24, Tryz.ntmps24
  go_wp2_with (first
    | ((with_reducible refine wpBoxK (w := w) L 48 ?_ ?_); rfl; intro u1 r1 b1 s1; have hc := HC.out u1 w.heap.size 60 r1; have T1 := Lib.hid (HT.out.below b1 HB.out); have L1 : Hid (b < u1.heap.size) := Lib.hid (Nat.lt_of_lt_of_le HB.out b1.size); have B1 := Lib.hid b1; clear r1 b1 s1)
    | (go_at_call 50; (with_reducible refine (HSE.out u1 T1.out L1.out).mono ?_); rintro e u2 ⟨rfl, b2⟩; have B2 : Hid (Below w.heap.size w u2) := Lib.hid (B1.out.next b2); clear b2))
  go_ret
  exact ⟨rfl, B2.out⟩

/-- What Open does with what the summer tells. -/
theorem tag_open_of (p : Value) (x : ByteArray) (n : Int) (s : ByteArray) (r : Bool) (w : World) (hs : s.size ≤ 140737488355328) (hr : r = (decide (n = 0) && decide (s.size = 64)))
    (hO : ∀ u, Below w.heap.size w u → Calls Tryz.prog 76 #[p, .string s] u fun e w' => e = .returned (.tuple #[.string x, .int .i64 n]) ∧ Below u.heap.size u w') :
    Calls Tryz.prog 51 #[p, .string s] w fun e w' => e = .returned (.tuple #[.agg (bytes (blk s.data.toList)).toArray, .bool r]) ∧ Below w.heap.size w w' := by
  obtain ⟨O, hOO⟩ : ∃ O : List UInt8, O = List.replicate 60 0 := ⟨_, rfl⟩
  obtain ⟨B, hB⟩ : ∃ B, B = bytes (blk s.data.toList) := ⟨_, rfl⟩
  obtain ⟨X, hX⟩ : ∃ X, X = str (s.data.toList.drop 60) := ⟨_, rfl⟩
  have HZ0 : Hid (∀ u, (zeroValue 48).run Tryz.prog u = .ok (.agg (bytes O).toArray) u) := Lib.hid (by rw [hOO]; exact tag_zero)
  have LB : Hid (B.length = 60) := Lib.hid (by rw [hB, bytes_length, blk_length])
  have LO : Hid ((bytes O).length = 60) := Lib.hid (by rw [hOO, bytes_length, List.length_replicate])
  have HB1 : Hid (B.all (·.oneCell') = true) := Lib.hid (by rw [hB]; exact bytes_oneC _)
  have HF : Hid (∀ u, Calls Tryz.prog 77 #[.string s] u fun e w' => e = .returned (.tuple #[.agg B.toArray, .string X]) ∧ Below u.heap.size u w') := Lib.hid fun u => by rw [hB, hX]; exact tag_first_any s u hs
  have HO := Lib.hid hO
  rw [← hB]
  have HR := Lib.hid hr
  obtain ⟨a, ha⟩ : ∃ a, a = decide (n = 0) := ⟨_, rfl⟩
  obtain ⟨c, hc⟩ : ∃ c, c = decide (s.size = 64) := ⟨_, rfl⟩
  have HRR : Hid (r = (a && c)) := Lib.hid (by rw [hr, ha, hc])
  have h1 : (n == 0) = a := by rw [ha]; by_cases h : n = 0 <;> simp [h]
  have h2 : ((s.size : Int) == 64) = c := by
    rw [hc]
    by_cases h : s.size = 64
    · simp [h]
    · have h' : ¬ (s.size : Int) = 64 := by omega
      simp [h, h']
  clear hOO hB hX hO hr ha hc HR
  cases a
  all_goals cases c
  all_goals
    have hrv := HRR.out
    simp at hrv
    subst hrv
    go_enter Tryz.func51, Tryz.ntmps51
    go_wp2_with (first
      | ((with_reducible refine wpAllocK (w := w) (bytes O) 48 HZ0.out ?_ ?_); rfl; intro u1 r1 b1 s1; have R1 := Lib.hid r1; have B1 := Lib.hid b1; have S1 := Lib.hid s1; clear r1 b1 s1)
      | (go_at_call 76; (with_reducible refine (HO.out u1 B1.out).mono ?_); rintro e u2 ⟨rfl, b2⟩; have B2 : Hid (Below w.heap.size w u2) := Lib.hid (B1.out.next b2); have R2 := Lib.hid (R1.out.step b2); clear b2)
      | (go_at_call 77; (with_reducible refine (HF.out u2).mono ?_); rintro e u3 ⟨rfl, b3⟩; have B3 : Hid (Below w.heap.size w u3) := Lib.hid (B2.out.next b3); have R3 := Lib.hid (R2.out.step b3); clear b3)
      | ((with_reducible refine wpAllocK (w := u3) (bytes O) 48 HZ0.out ?_ ?_); rfl; intro u4 r4 b4 s4; have Q4 := Lib.hid r4; have B4 : Hid (Below w.heap.size w u4) := Lib.hid (B3.out.next b4); have R4 := Lib.hid (R3.out.step b4); have S4 := Lib.hid s4; clear r4 b4 s4)
      | ((with_reducible refine Q4.out.wpStoreK 48 B fits_block LO.out LB.out HB1.out ?_ ?_); rfl; intro u5 r5 o5 s5; have Q5 := Lib.hid r5; have B5 : Hid (Below w.heap.size w u5) := Lib.hid (B4.out.trans (o5.below B3.out.size B4.out.size)); have R5 := Lib.hid (R4.out.only o5 (by have := S1.out; have := R3.out.lt; omega)); clear r5 o5 s5)
      | ((with_reducible refine Q5.out.wpLoadK 48 fits_block LB.out ?_ ?_); rfl)
      | ((with_reducible refine R5.out.wpStoreK 48 B fits_block LO.out LB.out HB1.out ?_ ?_); rfl; intro u6 r6 o6 s6; have R6 := Lib.hid r6; have B6 : Hid (Below w.heap.size w u6) := Lib.hid (B5.out.trans (o6.below (Nat.le_refl _) B5.out.size)); clear r6 o6 s6))
    exact bodyPost_ret (R6.out.resultT rfl _ _ rfl Tryz.underlying48 rfl (by rw [LB.out]; exact fits_block.size)) rfl ⟨rfl, B6.out⟩

theorem tag_open_any (b : Nat) (s : ByteArray) (w : World) (ht : Tab w b 0) (hb : b < w.heap.size) (hs : s.size ≤ 140737488355328) :
    Calls Tryz.prog 51 #[.pointer (some ⟨b, 0, none⟩), .string s] w fun e w' => e = .returned (.tuple #[.agg (bytes (blk s.data.toList)).toArray, .bool (rightT s.data.toList)]) ∧ Below w.heap.size w w' :=
  tag_open_of _ _ _ s _ w hs (by rw [rightT, size_list]) fun u hu => open_any b s u (ht.below hu hb) (Nat.lt_of_lt_of_le hb hu.size) hs
end Go.Proofs.YtnbjaijhdjneoaaGreat

namespace Go.Proofs.YtnbjaijhdjneoaaGreat
open Go.RowKit
set_option linter.unusedVariables false
set_option maxRecDepth 100000

end Go.Proofs.YtnbjaijhdjneoaaGreat

namespace Go.Proofs.YtnbjaijhdjneoaaGreat
open Go.RowKit CrcMath
set_option linter.unusedVariables false
set_option maxRecDepth 100000


theorem Lies.range {w : World} {B : Nat} {b o : Nat} {xs : List Value} (hc : ∀ j u, xs[j]? = some u → w.cell? ⟨b, o + j, none⟩ = some u) (x y z : List Value) (e : xs = x ++ y ++ z) (i : Nat) (hi : x.length = i) : w.rangeAt b (o + i) y := by
  intro j v hv
  have hj : j < y.length := (List.getElem?_eq_some_iff.1 hv).1
  have := hc (i + j) v (by rw [e, List.append_assoc, List.getElem?_append_right (by omega), ← hi, Nat.add_sub_cancel_left, List.getElem?_append_left hj, hv])
  rwa [← Nat.add_assoc] at this

end Go.Proofs.YtnbjaijhdjneoaaGreat

namespace Go.Proofs.YtnbjaijhdjneoaaGreat
open Go.RowKit CrcMath
set_option linter.unusedVariables false
set_option maxRecDepth 100000

theorem info_block : (Tryz.prog.info? 48).map (fun i => (i.zero, i.size)) = some (some (.agg (List.replicate 60 (.int .u8 0)).toArray), 60) := by kernel_rfl
theorem info_block2 : ((Tryz.prog.info? 48).map fun i => decide (i.bytes ≤ 4096)) = some true := by kernel_rfl

end Go.Proofs.YtnbjaijhdjneoaaGreat

namespace Go.Proofs.YtnbjaijhdjneoaaGreat
open Go.RowKit CrcMath
set_option linter.unusedVariables false
set_option maxRecDepth 100000

set_option maxHeartbeats 1000000 in
theorem refText_any (A : List UInt8) (w : World) (hA : A.length = 60) :
    Calls Tryz.prog 58 #[.agg (bytes A).toArray] w fun e w' => e = .returned (.string (str A)) ∧ Below w.heap.size w w' := by
  have LA := Lib.hid hA
  clear hA
  go_enter Tryz.func58, Tryz.ntmps58
  go_wp2_with (first
    | ((with_reducible refine wpBoxK (w := w) (bytes A) 48 ?_ ?_); rfl; intro u0 r0 b0 s0; have R0 := Lib.hid r0; have B0 := Lib.hid b0; have S0 := Lib.hid s0; clear r0 b0 s0))
  have hown0 : (u0.alloc (.cells #[] 5)).ownsRow u0.heap.size 5 1 (.slice (some ⟨u0.heap.size, 0, none⟩) 0 0) 0 (bytes (A.take 0)) := by
    have h1 : Row (u0.alloc (.cells #[] 5)) u0.heap.size 5 ([] ++ []) := Row.new u0 _ []
    have := h1.owns (base := u0.heap.size) (n := 0) (cap := 0) (Nat.le_refl _) rfl rfl (by omega) (by unfold maxLen; omega)
    simpa [bytes] using this
  have hr1 := R0.out.step (alloc_below u0 (.cells #[] 5))
  have hb1 := B0.out.next (alloc_below u0 (.cells #[] 5))
  have hz1 : u0.heap.size ≤ (u0.alloc (.cells #[] 5)).heap.size := (alloc_below u0 (.cells #[] 5)).size
  have HOWN := Lib.hid hown0
  have HR := Lib.hid hr1
  have HB := Lib.hid hb1
  have HZ := Lib.hid hz1
  obtain ⟨M, hM⟩ : ∃ M, M = u0.heap.size := ⟨_, rfl⟩
  have hMw : w.heap.size < M := by have := S0.out; omega
  clear hown0 hr1 hb1 hz1 R0 B0 S0
  go_loopw [4, 3] (fun i v wr => ∃ k : Nat, k ≤ 60 ∧ i = .int .i64 k ∧ wr.ownsRow M 5 1 v k (bytes (A.take k)) ∧ Row wr w.heap.size 48 (bytes A) ∧ M ≤ wr.heap.size ∧ Below w.heap.size w wr) (fun i _ _ => 60 - (intOf i).toNat)
  case atStart => exact ⟨0, by omega, rfl, by rw [hM]; exact HOWN.out, HR.out, by rw [hM]; exact HZ.out, HB.out⟩
  case round =>
    clear HOWN HR HB HZ hM
    obtain ⟨k, hk, rfl, hown, hr, hmw, hbw⟩ := hrel
    by_cases hlt : k < 60
    · have hkA : k < A.length := by rw [LA.out]; exact hlt
      obtain ⟨b, hb⟩ : ∃ b, A[k] = b := ⟨_, rfl⟩
      have hcell : wr.cell? ⟨w.heap.size, k, none⟩ = some (.int .u8 (b.toNat : Int)) := by rw [hr.cell, bytes_get _ _ hkA, hb]
      have HT : Hid (bytes (A.take (k + 1)) = bytes (A.take k) ++ [.int .u8 (b.toNat : Int)]) := Lib.hid (by rw [List.take_succ_eq_append_getElem hkA, hb, bytes_append]; rfl)
      have HOWN := Lib.hid (hown.alloc (.cells #[.int .u8 (b.toNat : Int)] 5))
      have HL : Hid (Lies (wr.alloc (.cells #[.int .u8 (b.toNat : Int)] 5)) (wr.alloc (.cells #[.int .u8 (b.toNat : Int)] 5)).heap.size (some ⟨wr.heap.size, 0, none⟩) [.int .u8 (b.toNat : Int)]) := Lib.hid (Lies.new [_] _ _)
      have HBW := Lib.hid (hbw.alloc hbw.size (.cells #[.int .u8 (b.toNat : Int)] 5))
      have HR := Lib.hid (hr.alloc (.cells #[.int .u8 (b.toNat : Int)] 5))
      have HZZ : Hid (M ≤ (wr.alloc (.cells #[.int .u8 (b.toNat : Int)] 5)).heap.size) := Lib.hid (by simp; omega)
      have HO1 : Hid ((Value.int .u8 (b.toNat : Int)).oneCell' = true) := Lib.hid rfl
      have HPK : Big (k + 1 ≤ 1099511627776) := ⟨by omega⟩
      have HOL : Hid (∀ j, u3.ownBlock = some j → M ≤ j) := Lib.hid fun j hj => (hown.lt j hj).1
      have hk1 : (k : Int) < 60 := by omega
      clear hown hr hmw hbw hb hkA
      go_wp2_with (first
        | ((with_reducible refine wpAppend1K HOWN.out Tryz.underlying67 tag_byte HL.out HO1.out HPK HZZ.out ?_ ?_); rfl; intro v1 w1 g1 g2 g3; have HV1 := Lib.hid g1; have HG1 := Lib.hid g2; clear g1 g2 g3))
      go_roundw
      case rel =>
        have hb1 := HBW.out.grown HG1.out HBW.out.size (fun j hj => by have := HOL.out j hj; omega)
        refine ⟨k + 1, by omega, by go_num, by rw [HT.out]; exact HV1.out, (HG1.out.block w.heap.size HR.out.lt (fun e => by have := HOL.out _ e.symm; omega)).trans HR.out, Nat.le_trans HZZ.out HG1.out.size, hb1⟩
      case measure => simp [intOf]; omega
    · have ek : k = 60 := by omega
      rw [ek, List.take_of_length_le (by rw [LA.out]; omega)] at hown
      have hconv := own_string hown
      have HB := Lib.hid hbw
      clear hown hr hmw hbw ek
      go_wp2
      go_ret
      exact ⟨rfl, HB.out⟩

theorem tag_size_byte : (Tryz.prog.info? 5).map (·.size) = some 1 := by kernel_rfl
/-- The block while it is filled. -/
def fillB (l : List UInt8) (k : Nat) : List UInt8 := l.take k ++ List.replicate (60 - k) 0
theorem fillB_length (l : List UInt8) (k : Nat) (h : k ≤ l.length) (h2 : k ≤ 60) : (fillB l k).length = 60 := by simp [fillB]; omega
theorem fillB_next (l : List UInt8) (k : Nat) (h : k < l.length) (h2 : k < 60) : (fillB l k).set k l[k] = fillB l (k + 1) := by
  rw [fillB, fillB, List.set_append_right _ _ (by simp; omega)]
  have e : k - (l.take k).length = 0 := by simp; omega
  rw [e, show 60 - k = (60 - (k + 1)) + 1 by omega, List.replicate_succ, List.set_cons_zero, List.take_succ_eq_append_getElem h, List.append_assoc]
  rfl
theorem fillB_end (l : List UInt8) (k : Nat) (h : k ≤ l.length) (h2 : k ≤ 60) (h3 : ¬ (k < 60 ∧ k < l.length)) : fillB l k = blk l := by
  rw [fillB, blk]
  by_cases h4 : k = 60
  · subst h4
    rw [show 60 - l.length = 0 by omega]
  · have e : k = l.length := by omega
    rw [e, List.take_of_length_le (by omega), List.take_of_length_le (by omega)]

set_option maxHeartbeats 1000000 in
theorem refBlock_any (s : ByteArray) (w : World) (hs : s.size ≤ 140737488355328) :
    Calls Tryz.prog 12 #[.string s] w fun e w' => e = .returned (.agg (bytes (blk s.data.toList)).toArray) ∧ Below w.heap.size w w' := by
  obtain ⟨O, hO⟩ : ∃ O : List UInt8, O = List.replicate 60 0 := ⟨_, rfl⟩
  have HZ0 : Hid (∀ u, (zeroValue 48).run Tryz.prog u = .ok (.agg (bytes O).toArray) u) := Lib.hid (by rw [hO]; exact tag_zero)
  have LO : Hid ((bytes O).length = 60) := Lib.hid (by rw [hO, bytes_length, List.length_replicate])
  have HO1 : Hid ((bytes O).all (·.oneCell') = true) := Lib.hid (bytes_oneC O)
  have HBU : Hid (Tryz.prog.built 48 [] = some (bytes O).toArray) := Lib.hid (by rw [hO]; kernel_rfl)
  have HOF : Hid (bytes O = bytes (fillB s.data.toList 0)) := Lib.hid (by rw [hO]; rfl)
  have hsl := size_list s
  have HSL := Lib.hid hsl
  clear hO hsl
  go_enter Tryz.func12, Tryz.ntmps12
  go_wp2_with (first
    | ((with_reducible refine wpAllocK (w := w) (bytes O) 48 HZ0.out ?_ ?_); rfl; intro u1 r1 b1 s1; have R1 := Lib.hid r1; have B1 := Lib.hid b1; have S1 := Lib.hid s1; clear r1 b1 s1)
    | ((with_reducible refine wpBuildZeroK (bytes O) 48 HBU.out ?_ ?_); rfl)
    | ((with_reducible refine wpAllocK (w := u1) (bytes O) 48 HZ0.out ?_ ?_); rfl; intro u2 r2 b2 s2; have R2 := Lib.hid r2; have Q2 := Lib.hid (R1.out.step b2); have B2 : Hid (Below w.heap.size w u2) := Lib.hid (B1.out.next b2); clear r2 b2 s2)
    | ((with_reducible refine R2.out.wpStoreK 48 (bytes O) fits_block LO.out LO.out HO1.out ?_ ?_); rfl; intro u3 r3 o3 s3; rw [HOF.out] at r3; have R3 := Lib.hid r3; have Q3 := Lib.hid (Q2.out.only o3 (by have := S1.out; omega)); have B3 : Hid (Below w.heap.size w u3) := Lib.hid (B2.out.trans (o3.below B1.out.size B2.out.size)); clear r3 o3 s3))
  obtain ⟨g, hg⟩ : ∃ g, g = u1.heap.size := ⟨_, rfl⟩
  rw [← hg] at R3 ⊢
  have HGW : Hid (w.heap.size < g) := Lib.hid (by rw [hg, S1.out]; omega)
  clear hg
  go_loopw [4] (fun i wr => ∃ k : Nat, k ≤ 60 ∧ k ≤ s.size ∧ i = .int .i64 k ∧ Row wr g 48 (bytes (fillB s.data.toList k)) ∧ Row wr w.heap.size 48 (bytes O) ∧ Below w.heap.size w wr) (fun i _ => 60 - (intOf i).toNat)
  case atStart => exact ⟨0, by omega, by omega, rfl, R3.out, Q3.out, B3.out⟩
  case round =>
    obtain ⟨k, hk, hks, rfl, hrow, hrow0, hbw⟩ := hrel
    have HR := Lib.hid hrow
    have HQ := Lib.hid hrow0
    have HB := Lib.hid hbw
    clear hrow hrow0 hbw
    by_cases hlt : k < 60 ∧ k < s.size
    · have h1 := hlt.1
      have h2 := hlt.2
      have hi1 : (k : Int) < 60 := by omega
      have hi2 : (k : Int) < (s.size : Int) := by omega
      have HLEN : Hid (k < (bytes (fillB s.data.toList k)).length) := Lib.hid (by rw [bytes_length, fillB_length _ _ (by rw [HSL.out]; omega) hk]; exact h1)
      have hkl : k < s.data.toList.length := by rw [HSL.out]; exact h2
      have HNX : Hid ((bytes (fillB s.data.toList k)).set k (.int .u8 (s[k].toNat : Int)) = bytes (fillB s.data.toList (k + 1))) := Lib.hid (by
        rw [← fillB_next s.data.toList k hkl h1, bytes_set]
        rfl)
      generalize bytes (fillB s.data.toList k) = F at HR HLEN HNX
      clear hlt
      go_wp2_with (first
        | ((with_reducible refine HR.out.wpStore1K k 5 (.int .u8 (s[k].toNat : Int)) tag_size_byte HLEN.out ?_ ?_ ?_ ?_); rfl; rfl; rfl; intro w2 r2 o2 s2; rw [HNX.out] at r2; have R2 := Lib.hid r2; have Q2 := Lib.hid (HQ.out.only o2 (by have := HGW.out; omega)); have B2 : Hid (Below w.heap.size w w2) := Lib.hid (HB.out.trans (o2.below (by have := HGW.out; omega) HB.out.size)); clear r2 o2 s2))
      go_roundw
      case rel => exact ⟨k + 1, by omega, by omega, by go_num, R2.out, Q2.out, B2.out⟩
      case measure => simp [intOf]; omega
    · have HE : Hid (bytes (fillB s.data.toList k) = bytes (blk s.data.toList)) := Lib.hid (by rw [fillB_end _ _ (by rw [HSL.out]; exact hks) hk (by rw [HSL.out]; exact hlt)])
      rw [HE.out] at HR
      have LB : Hid ((bytes (blk s.data.toList)).length = 60) := Lib.hid (by rw [bytes_length, blk_length])
      have LB1 : Hid ((bytes (blk s.data.toList)).all (·.oneCell') = true) := Lib.hid (bytes_oneC _)
      obtain ⟨B, hB⟩ : ∃ B, bytes (blk s.data.toList) = B := ⟨_, rfl⟩
      rw [hB] at HR LB LB1 HE
      have HBE := Lib.hid hB
      clear hB
      have hcase : (¬ (k : Int) < 60) ∨ ((k : Int) < 60 ∧ ¬ (k : Int) < (s.size : Int)) := by omega
      clear hlt
      rcases hcase with h1 | ⟨h1, h2⟩
      all_goals
        go_wp2_with (first
          | ((with_reducible refine HR.out.wpLoadK 48 fits_block LB.out ?_ ?_); rfl)
          | ((with_reducible refine HQ.out.wpStoreK 48 B fits_block LO.out LB.out LB1.out ?_ ?_); rfl; intro w2 r2 o2 s2; have R2 := Lib.hid r2; have B2 : Hid (Below w.heap.size w w2) := Lib.hid (HB.out.trans (o2.below (Nat.le_refl _) HB.out.size)); clear r2 o2 s2))
        exact bodyPost_ret (R2.out.result rfl _ _ rfl Tryz.underlying48 rfl (by rw [LB.out]; exact fits_block.size)) rfl ⟨by rw [HBE.out], B2.out⟩

theorem refTSeal_any (l : List UInt8) (w : World) (hl : l.length = 60) :
    Calls Tryz.prog 31 #[.agg (bytes l).toArray] w fun e w' => e = .returned (.string (str (sealB l))) ∧ Below w.heap.size w w' := by
  have HT : Hid (∀ u, Calls Tryz.prog 58 #[.agg (bytes l).toArray] u fun e w' => e = .returned (.string (str l)) ∧ Below u.heap.size u w') := Lib.hid fun u => refText_any l u hl
  have HS : Hid (∀ u, Calls Tryz.prog 57 #[.string (str l)] u fun e w' => e = .returned (.string (str (sealB l))) ∧ Below u.heap.size u w') := Lib.hid fun u => by
    have := refSeal_any (str l) u (by rw [str_size, hl]; omega)
    rwa [str_list] at this
  obtain ⟨L, hL⟩ : ∃ L, L = bytes l := ⟨_, rfl⟩
  have LL : Hid (L.length = 60) := Lib.hid (by rw [hL, bytes_length, hl])
  rw [← hL] at HT ⊢
  generalize str (sealB l) = S at HS ⊢
  generalize str l = T at HT HS
  clear hL hl
  go_enter Tryz.func31, Tryz.ntmps31
  go_wp2_with (first
    | ((with_reducible refine wpBoxK (w := w) L 48 ?_ ?_); rfl; intro u1 r1 b1 s1; have R1 := Lib.hid r1; have B1 := Lib.hid b1; clear r1 b1 s1)
    | ((with_reducible refine R1.out.wpLoadK 48 fits_block LL.out ?_ ?_); rfl)
    | (go_at_call 58; (with_reducible refine (HT.out u1).mono ?_); rintro e u2 ⟨rfl, b2⟩; have B2 : Hid (Below w.heap.size w u2) := Lib.hid (B1.out.next b2); clear b2)
    | (go_at_call 57; (with_reducible refine (HS.out u2).mono ?_); rintro e u3 ⟨rfl, b3⟩; have B3 : Hid (Below w.heap.size w u3) := Lib.hid (B2.out.next b3); clear b3))
  go_ret
  exact ⟨rfl, B3.out⟩

theorem refRight_any (s : ByteArray) (w : World) (hs : s.size ≤ 140737488351232) :
    Calls Tryz.prog 28 #[.string s] w fun e w' => e = .returned (.bool (rightT s.data.toList)) ∧ Below w.heap.size w w' := by
  have HO := Lib.hid (refOpen_any s w hs)
  obtain ⟨a, ha⟩ : ∃ a, a = decide ((openR s.data.toList).2 = 0) := ⟨_, rfl⟩
  obtain ⟨c, hc⟩ : ∃ c, c = decide (s.size = 64) := ⟨_, rfl⟩
  have hr : rightT s.data.toList = (a && c) := by rw [rightT, size_list, ha, hc]
  rw [hr]
  generalize (openR s.data.toList).1 = X at HO
  generalize (openR s.data.toList).2 = n at HO ha
  have h1 : (n == 0) = a := by rw [ha]; by_cases h : n = 0 <;> simp [h]
  have h2 : ((s.size : Int) == 64) = c := by
    rw [hc]
    by_cases h : s.size = 64
    · simp [h]
    · have h' : ¬ (s.size : Int) = 64 := by omega
      simp [h, h']
  clear ha hc hr hs
  cases a
  all_goals cases c
  all_goals
    go_enter Tryz.func28, Tryz.ntmps28
    go_wp2_with (go_at_call 54; (with_reducible refine HO.out.mono ?_); rintro e u1 ⟨rfl, b1⟩; have B1 := Lib.hid b1; clear b1)
    go_ret
    exact ⟨rfl, B1.out⟩
end Go.Proofs.YtnbjaijhdjneoaaGreat

namespace Go.Proofs.YtnbjaijhdjneoaaGreat
open Go.RowKit CrcMath
set_option linter.unusedVariables false
set_option maxRecDepth 100000

/-- A summer. -/
def Smr : Value → World → Prop := fun v w => ∃ b, v = .pointer (some ⟨b, 0, none⟩) ∧ b < w.heap.size ∧ Tab w b 0
theorem Smr.monot : Monot Smr := fun _ _ _ ⟨b, h1, h2, h3⟩ hb => ⟨b, h1, Nat.lt_of_lt_of_le h2 hb.size, h3.below hb h2⟩
theorem smr_new (w : World) : Calls Tryz.prog 19 #[] w fun e w' => ∃ v, e = .returned v ∧ Smr v w' ∧ Below w.heap.size w w' :=
  (crc_new_any w).mono fun e w' ⟨b, h1, h2, h3, h4⟩ => ⟨_, h1, ⟨b, rfl, h2, h3⟩, h4⟩
theorem seal_val (v : Value) (l : List UInt8) (w : World) (h : Smr v w) (hl : l.length = 60) :
    Calls Tryz.prog 24 #[v, .agg (bytes l).toArray] w fun e w' => e = .returned (.string (str (sealB l))) ∧ Below w.heap.size w w' := by
  obtain ⟨b, rfl, h2, h3⟩ := h
  exact tag_seal_any b l w h3 h2 hl
theorem open_val (v : Value) (s : ByteArray) (w : World) (h : Smr v w) (hs : s.size ≤ 140737488355328) :
    Calls Tryz.prog 51 #[v, .string s] w fun e w' => e = .returned (.tuple #[.agg (bytes (blk s.data.toList)).toArray, .bool (rightT s.data.toList)]) ∧ Below w.heap.size w w' := by
  obtain ⟨b, rfl, h2, h3⟩ := h
  exact tag_open_any b s w h3 h2 hs
theorem tag_isz : ∀ w : World, (sizeOf 5).run Tryz.prog w = .ok 1 w := fun w => Tryz.sizeOf5 w
theorem tag_iag : ∀ w : World, (isAgg 5).run Tryz.prog w = .ok false w := fun w => Tryz.isAgg5 w
theorem tag_ints_inj (D E : List UInt8) : (D.map fun b => (b.toNat : Int)) = (E.map fun b => (b.toNat : Int)) ↔ D = E := by
  constructor
  · intro h
    refine List.map_inj_right (f := fun b : UInt8 => (b.toNat : Int)) ?_ |>.1 h
    intro a b hab
    exact UInt8.toNat_inj.1 (by have h2 : (a.toNat : Int) = (b.toNat : Int) := hab; omega)
  · rintro rfl; rfl
theorem eq_block (D E : List UInt8) (hD : D.length = 60) (hE : E.length = 60) (u : World) :
    (Op.equalIn 10000 48 (.agg (bytes D).toArray) (.agg (bytes E).toArray)).run Tryz.prog u = .ok (decide (D = E)) u := by
  have e : ∀ l : List UInt8, bytes l = (l.map fun b => (b.toNat : Int)).map (Value.int .u8) := fun l => by simp [bytes]
  rw [e, e, run_equal_ints 9998 48 5 60 .u8 _ _ u Tryz.underlying48 Tryz.underlying5 tag_isz tag_iag (by simpa using hD) (by simpa using hE)]
  congr 1
  exact decide_eq_decide.2 (tag_ints_inj D E)
theorem same_block (D : List UInt8) (hD : D.length = 60) : ∀ u : World, (Op.equalIn 10000 48 (.agg (bytes D).toArray) (.agg (bytes D).toArray)).run Tryz.prog u = .ok true u := fun u => by rw [eq_block D D hD hD u]; simp

end Go.Proofs.YtnbjaijhdjneoaaGreat

namespace Go.Proofs.YtnbjaijhdjneoaaGreat.GeoMath
set_option linter.unusedVariables false

structure Gm where
  d : Int
  p : Int
  s : Int
structure Sp where
  n : Int
  lo : Int
  hi : Int
def Sp.ok (s : Sp) : Bool := !(decide (s.n < s.lo) || decide (s.hi < s.n))
def okAll (L : List Sp) : Bool := L.all Sp.ok
def right (g : Gm) : Bool := okAll [⟨g.d, 1, 8⟩, ⟨g.p, 2, 6⟩, ⟨g.s, 1, 8⟩]
structure Rt (g : Gm) : Prop where
  d1 : 1 ≤ g.d
  d8 : g.d ≤ 8
  p2 : 2 ≤ g.p
  p6 : g.p ≤ 6
  s1 : 1 ≤ g.s
  s8 : g.s ≤ 8
theorem ok_iff (s : Sp) : s.ok = true ↔ s.lo ≤ s.n ∧ s.n ≤ s.hi := by simp [Sp.ok]
theorem right_iff (g : Gm) : right g = true ↔ Rt g := by
  rw [right, okAll]
  simp only [List.all_cons, List.all_nil, Bool.and_true, Bool.and_eq_true, ok_iff]
  exact ⟨fun ⟨⟨a, b⟩, ⟨c, d⟩, e, f⟩ => ⟨a, b, c, d, e, f⟩, fun ⟨a, b, c, d, e, f⟩ => ⟨⟨a, b⟩, ⟨c, d⟩, e, f⟩⟩
def wide (g : Gm) : Int := if right g = true then g.d + g.p else 0
def slot (g : Gm) : Int := wide g * g.s
def log (g : Gm) : Int := 3 * slot g
def tal (g : Gm) : Int := log g + 16
def all (g : Gm) : Int := if right g = true then tal g + 2 else 0
def room (g : Gm) : Int := if right g = true then max 0 (60 * g.d * g.s - 48) else 0
theorem wide_yes {g : Gm} (h : right g = true) : wide g = g.d + g.p := if_pos h
theorem wide_no {g : Gm} (h : right g = false) : wide g = 0 := if_neg (by rw [h]; decide)
end Go.Proofs.YtnbjaijhdjneoaaGreat.GeoMath

namespace Go.Proofs.YtnbjaijhdjneoaaGreat
open Go.RowKit GeoMath
set_option linter.unusedVariables false
set_option maxRecDepth 100000

def spc (s : Sp) : List Value := [.int .i64 s.n, .int .i64 s.lo, .int .i64 s.hi]
/-- The spans L lie at a. -/
def SpAt (w : World) (b : Nat) (L : List Sp) : Prop := b < w.heap.size ∧ ∀ i (h : i < L.length), w.rangeAt b (i * 3) (spc L[i])
theorem SpAt.step {w w' : World} {b : Nat} {L : List Sp} (h : SpAt w b L) (hb : Below w.heap.size w w') : SpAt w' b L :=
  ⟨Nat.lt_of_lt_of_le h.1 hb.size, fun i hi j v hj => (hb.cell (p := ⟨b, i * 3 + j, none⟩) h.1).trans (h.2 i hi j v hj)⟩
theorem SpAt.of_row {w : World} {b : Nat} {T : TypeId} {L : List Sp} (h : Row w b T (L.flatMap spc)) : SpAt w b L := by
  refine ⟨h.lt, fun i hi j v hj => ?_⟩
  rw [h.cell]
  have h3 : j < 3 := (List.getElem?_eq_some_iff.1 hj).1
  rw [← hj]
  clear h hj
  induction L generalizing i with
  | nil => exact absurd hi (by simp)
  | cons x L ih =>
    rw [List.flatMap_cons]
    cases i with
    | zero => rw [List.getElem?_append_left (by show 0 * 3 + j < 3; omega)]; simp
    | succ i =>
      rw [List.getElem?_append_right (by show 3 ≤ (i + 1) * 3 + j; omega)]
      have := ih i (by simpa using hi)
      rw [show (i + 1) * 3 + j - (spc x).length = i * 3 + j from by show (i + 1) * 3 + j - 3 = _; omega]
      simpa using this
section
variable {P : Program}
theorem wpLoadAtG {ops : Array Oper} {rest : List Oper} {o : Oper} {a : Act} {w : World} {Q : Exit → Act → World → Prop} {g i : Nat} {y : List Value} (hy : w.rangeAt g i y) (ty : TypeId) {n : Nat} (hf : Fits P ty n) (hl : y.length = n)
    (ho : loadOf o a = some (ty, .pointer (some ⟨g, i, none⟩))) (k : wpList P ops Q rest (a.put o.dst (.agg y.toArray)) w) : wpList P ops Q (o :: rest) a w := by
  obtain ⟨hg, x, ho, hx⟩ := loadOf_spec ho
  obtain ⟨d, hu, hd⟩ := hf.row
  exact wpList_load_mid hg ty x ho g i hx y d hy hu hd (by rw [hl]; exact hf.size) k
end
theorem fits_span : Fits Tryz.prog 93 3 := ⟨⟨_, Tryz.underlying93, rfl⟩, by kernel_rfl⟩
theorem zero_span : ∀ u, (zeroValue 93).run Tryz.prog u = .ok (.agg [Value.int .i64 0, .int .i64 0, .int .i64 0].toArray) u := fun u => by kernel_rfl

theorem okAll_bad {L : List Sp} {k : Nat} (hk : k < L.length) (h : L[k].ok = false) : okAll L = false := List.all_eq_false.2 ⟨_, List.getElem_mem hk, by rw [h]; decide⟩
theorem okAll_all {L : List Sp} (h : ∀ j (hj : j < L.length), L[j].ok = true) : okAll L = true := List.all_eq_true.2 fun s hs => by
  obtain ⟨j, hj, rfl⟩ := List.mem_iff_getElem.1 hs
  exact h j hj
theorem geowithin_any (b : Nat) (L : List Sp) (w : World) (h : SpAt w b L) (hL : L.length < 1000) :
    Calls Tryz.prog 38 #[.slice (some ⟨b, 0, none⟩) L.length L.length] w fun e w' => e = .returned (.bool (okAll L)) ∧ Below w.heap.size w w' := by
  obtain ⟨n, hn⟩ : ∃ n, L.length = n := ⟨_, rfl⟩
  have HNL := Lib.hid hn
  have HH := Lib.hid h
  rw [hn] at hL ⊢
  clear h hn
  go_enter Tryz.func38, Tryz.ntmps38
  go_wp2
  go_loopw [7] (fun x wr => ∃ k : Nat, k ≤ n ∧ x = .int .i64 k ∧ Below w.heap.size w wr ∧ ∀ j (hj : j < L.length), j < k → L[j].ok = true) (fun x _ => n - (intOf x).toNat)
  case atStart => exact ⟨0, Nat.zero_le _, rfl, Below.refl _ _, fun j hj h => absurd h (by omega)⟩
  case round =>
    obtain ⟨k, hk, rfl, hbl, hall⟩ := hrel
    have HA := Lib.hid hall
    have HBL := Lib.hid hbl
    clear hall hbl
    by_cases hlt : k < n
    · have hkL : k < L.length := by rw [HNL.out]; exact hlt
      obtain ⟨x, lo, hi, hs⟩ : ∃ x lo hi, L[k] = ⟨x, lo, hi⟩ := ⟨_, _, _, rfl⟩
      have RY : Hid (wr.rangeAt b (k * 3) [Value.int .i64 x, .int .i64 lo, .int .i64 hi]) := Lib.hid (by
        have := (HH.out.step HBL.out).2 k hkL
        rwa [hs] at this)
      have HS : Hid (∀ hj : k < L.length, L[k] = ⟨x, lo, hi⟩) := Lib.hid fun _ => hs
      have HK := Lib.hid hkL
      clear hs hkL
      by_cases h1 : x < lo
      · have HG : Hid (okAll L = false) := Lib.hid (okAll_bad HK.out (by rw [HS.out HK.out]; simp [Sp.ok, h1]))
        go_wp2_with (first
          | ((with_reducible refine wpLoadAtG RY.out 93 fits_span rfl ?_ ?_); rfl)
          | ((with_reducible refine wpAllocK [Value.int .i64 0, .int .i64 0, .int .i64 0] 93 zero_span ?_ ?_); rfl; intro w1 r1 b1 s1; have R1 := Lib.hid r1; have B1 := Lib.hid (HBL.out.next b1); clear r1 b1 s1)
          | ((with_reducible refine R1.out.wpStoreK 93 [Value.int .i64 x, .int .i64 lo, .int .i64 hi] fits_span rfl rfl rfl ?_ ?_); rfl; intro w2 r2 o2 s2; have c0 := r2.cell 0; have c1 := r2.cell 1; have c2 := r2.cell 2; have B2 := Lib.hid (B1.out.trans (o2.below HBL.out.size B1.out.size)); clear r2 o2 s2))
        go_ret
        exact ⟨ret_bool HG.out.symm, B2.out⟩
      · by_cases h2 : hi < x
        · have HG : Hid (okAll L = false) := Lib.hid (okAll_bad HK.out (by rw [HS.out HK.out]; simp [Sp.ok, h2]))
          go_wp2_with (first
            | ((with_reducible refine wpLoadAtG RY.out 93 fits_span rfl ?_ ?_); rfl)
            | ((with_reducible refine wpAllocK [Value.int .i64 0, .int .i64 0, .int .i64 0] 93 zero_span ?_ ?_); rfl; intro w1 r1 b1 s1; have R1 := Lib.hid r1; have B1 := Lib.hid (HBL.out.next b1); clear r1 b1 s1)
            | ((with_reducible refine R1.out.wpStoreK 93 [Value.int .i64 x, .int .i64 lo, .int .i64 hi] fits_span rfl rfl rfl ?_ ?_); rfl; intro w2 r2 o2 s2; have c0 := r2.cell 0; have c1 := r2.cell 1; have c2 := r2.cell 2; have B2 := Lib.hid (B1.out.trans (o2.below HBL.out.size B1.out.size)); clear r2 o2 s2))
          go_ret
          exact ⟨ret_bool HG.out.symm, B2.out⟩
        · have HG : Hid (∀ hj : k < L.length, L[k].ok = true) := Lib.hid fun hj => by rw [HS.out hj]; simp [Sp.ok]; omega
          go_wp2_with (first
            | ((with_reducible refine wpLoadAtG RY.out 93 fits_span rfl ?_ ?_); rfl)
            | ((with_reducible refine wpAllocK [Value.int .i64 0, .int .i64 0, .int .i64 0] 93 zero_span ?_ ?_); rfl; intro w1 r1 b1 s1; have R1 := Lib.hid r1; have B1 := Lib.hid (HBL.out.next b1); clear r1 b1 s1)
            | ((with_reducible refine R1.out.wpStoreK 93 [Value.int .i64 x, .int .i64 lo, .int .i64 hi] fits_span rfl rfl rfl ?_ ?_); rfl; intro w2 r2 o2 s2; have c0 := r2.cell 0; have c1 := r2.cell 1; have c2 := r2.cell 2; have B2 := Lib.hid (B1.out.trans (o2.below HBL.out.size B1.out.size)); clear r2 o2 s2))
          go_roundw
          case rel => exact ⟨k + 1, by omega, by go_num, B2.out, fun j hj h => by
            by_cases e : j = k
            · subst e; exact HG.out hj
            · exact HA.out j hj (by omega)⟩
          case measure => simp [intOf]; omega
    · have HG : Hid (okAll L = true) := Lib.hid (okAll_all fun j hj => HA.out j hj (by rw [HNL.out] at hj; omega))
      go_wp2
      go_ret
      exact ⟨ret_bool HG.out.symm, HBL.out⟩
end Go.Proofs.YtnbjaijhdjneoaaGreat

namespace Go.Proofs.YtnbjaijhdjneoaaGreat
open Go.RowKit GeoMath
set_option linter.unusedVariables false
set_option maxRecDepth 100000

def geoV (g : Gm) : Value := .agg #[.int .i64 g.d, .int .i64 g.p, .int .i64 g.s]
theorem fits_geo : Fits Tryz.prog 23 3 := ⟨⟨_, Tryz.underlying23, rfl⟩, by kernel_rfl⟩
theorem within_new (L : List Sp) (cs : Array Value) (n : Nat) (w : World) (hc : cs = (L.flatMap spc).toArray) (hn : L.length = n) (hL : n < 1000) :
    Calls Tryz.prog 38 #[.slice (some ⟨w.heap.size, 0, none⟩) n n] (w.alloc (.cells cs 93)) fun e w' => e = .returned (.bool (okAll L)) ∧ Below w.heap.size w w' := by
  subst hc
  subst hn
  refine (geowithin_any _ L _ (SpAt.of_row (Row.new w 93 (L.flatMap spc))) hL).mono ?_
  rintro e w' ⟨h1, h2⟩
  exact ⟨h1, (alloc_below w _).next h2⟩
theorem right_any (g : Gm) (w : World) :
    Calls Tryz.prog 15 #[geoV g] w fun e w' => e = .returned (.bool (right g)) ∧ Below w.heap.size w w' := by
  have HX := Lib.hid fun w1 => within_new [⟨g.d, 1, 8⟩, ⟨g.p, 2, 6⟩, ⟨g.s, 1, 8⟩] #[.int .i64 g.d, .int .i64 1, .int .i64 8, .int .i64 g.p, .int .i64 2, .int .i64 6, .int .i64 g.s, .int .i64 1, .int .i64 8] 3 w1 rfl rfl (by decide)
  have HR : Hid (okAll [⟨g.d, 1, 8⟩, ⟨g.p, 2, 6⟩, ⟨g.s, 1, 8⟩] = right g) := Lib.hid rfl
  generalize okAll [⟨g.d, 1, 8⟩, ⟨g.p, 2, 6⟩, ⟨g.s, 1, 8⟩] = r at HX HR
  rw [← HR.out]
  obtain ⟨d, p, s⟩ := g
  dsimp only [geoV] at HX ⊢
  go_enter Tryz.func15, Tryz.ntmps15
  go_wp2_with (first
    | ((with_reducible refine wpBoxK [Value.int .i64 d, .int .i64 p, .int .i64 s] 23 ?_ ?_); rfl; intro w1 r1 b1 s1; have c0 := r1.cell 0; have c1 := r1.cell 1; have c2 := r1.cell 2; have B1 := Lib.hid b1; clear r1 b1 s1)
    | (go_at_call 38; (with_reducible refine (HX.out w1).mono ?_); rintro e u1 ⟨rfl, b2⟩; have B2 := Lib.hid (B1.out.next b2); clear b2))
  go_ret
  exact ⟨rfl, B2.out⟩
theorem wide_any (g : Gm) (w : World) :
    Calls Tryz.prog 18 #[geoV g] w fun e w' => e = .returned (.int .i64 (wide g)) ∧ Below w.heap.size w w' := by
  have HX := Lib.hid fun w1 => right_any g w1
  cases hr : right g with
  | false =>
    have HW := Lib.hid (wide_no hr)
    rw [hr] at HX
    clear hr
    obtain ⟨d, p, s⟩ := g
    dsimp only [geoV] at HX ⊢
    go_enter Tryz.func18, Tryz.ntmps18
    go_wp2_with (first
      | ((with_reducible refine wpBoxK [Value.int .i64 d, .int .i64 p, .int .i64 s] 23 ?_ ?_); rfl; intro w1 r1 b1 s1; have R1 := Lib.hid r1; have B1 := Lib.hid b1; clear r1 b1 s1)
      | ((with_reducible refine R1.out.wpLoadK 23 fits_geo rfl ?_ ?_); rfl)
      | (go_at_call 15; (with_reducible refine (HX.out w1).mono ?_); rintro e u1 ⟨rfl, b2⟩; have B2 := Lib.hid (B1.out.next b2); clear b2))
    go_ret
    exact ⟨ret_int HW.out.symm, B2.out⟩
  | true =>
    have HW := Lib.hid (wide_yes hr)
    have hg := (right_iff g).1 hr
    rw [hr] at HX
    clear hr
    obtain ⟨d, p, s⟩ := g
    have h1 := hg.d1
    have h2 := hg.d8
    have h3 := hg.p2
    have h4 := hg.p6
    clear hg
    dsimp only [geoV] at HX h1 h2 h3 h4 ⊢
    go_enter Tryz.func18, Tryz.ntmps18
    go_wp2_with (first
      | ((with_reducible refine wpBoxK [Value.int .i64 d, .int .i64 p, .int .i64 s] 23 ?_ ?_); rfl; intro w1 r1 b1 s1; have R1 := Lib.hid r1; have B1 := Lib.hid b1; clear r1 b1 s1)
      | ((with_reducible refine R1.out.wpLoadK 23 fits_geo rfl ?_ ?_); rfl)
      | (go_at_call 15; (with_reducible refine (HX.out w1).mono ?_); rintro e u1 ⟨rfl, b2⟩; have R2 := R1.out.step b2; have c0 := R2.cell 0; have c1 := R2.cell 1; have B2 := Lib.hid (B1.out.next b2); clear b2 R2))
    go_ret
    exact ⟨ret_int HW.out.symm, B2.out⟩
end Go.Proofs.YtnbjaijhdjneoaaGreat

namespace Go.Proofs.YtnbjaijhdjneoaaGreat
open Go.RowKit GeoMath
set_option linter.unusedVariables false
set_option maxRecDepth 100000

end Go.Proofs.YtnbjaijhdjneoaaGreat

namespace Go.Proofs.YtnbjaijhdjneoaaGreat
open Go.RowKit GeoMath
set_option linter.unusedVariables false
set_option maxRecDepth 100000

end Go.Proofs.YtnbjaijhdjneoaaGreat

namespace Go.Proofs.YtnbjaijhdjneoaaGreat
open Go.RowKit GeoMath
set_option linter.unusedVariables false
set_option maxRecDepth 100000

end Go.Proofs.YtnbjaijhdjneoaaGreat

namespace Go.Proofs.YtnbjaijhdjneoaaGreat
open Go.RowKit GeoMath
set_option linter.unusedVariables false
set_option maxRecDepth 100000

end Go.Proofs.YtnbjaijhdjneoaaGreat

namespace Go.Proofs.YtnbjaijhdjneoaaGreat.GeoMath
set_option linter.unusedVariables false

structure Pl where
  w : Int
  a : Int
  b : Int
  c : Int
/-- How many sectors there are. -/
def cnt (W S : Nat) : Nat := 3 * (W * S) + 18
end Go.Proofs.YtnbjaijhdjneoaaGreat.GeoMath

namespace Go.Proofs.YtnbjaijhdjneoaaGreat
open Go.RowKit

/-- A type of s cells, of some bytes. -/
structure Many (P : Program) (e : TypeId) (s : Nat) : Prop where
  row : ∃ i z, P.info? e = some i ∧ i.zero = some z ∧ i.size = s ∧ z.cells.size = s ∧ i.bytes ≤ 64
theorem Many.of {P : Program} {e : TypeId} {s : Nat} (h : ((P.info? e).map fun i => (i.zero.map fun z => z.cells.size) == some s && i.size == s && decide (i.bytes ≤ 64)) = some true) : Many P e s := by
  generalize hq : P.info? e = q at h
  match q with
  | none => cases h
  | some i =>
    simp only [Option.map_some, Option.some.injEq, Bool.and_eq_true, beq_iff_eq, decide_eq_true_eq] at h
    obtain ⟨⟨h1, h2⟩, h3⟩ := h
    generalize hz : i.zero = zz at h1
    match zz with
    | none => cases h1
    | some z =>
      simp only [Option.map_some, Option.some.injEq] at h1
      exact ⟨i, z, hq, hz, h2, h1, h3⟩
section
variable {P : Program}
/-- append(v, l...): v a slice of one's own, l what lies at an address: m elements of s cells. -/
theorem wpAppendM {ops : Array Oper} {rest : List Oper} {o : Oper} {a : Act} {w : World} {Q : Exit → Act → World → Prop} {base n m s : Nat} {T e : TypeId} {v : Value} {xs news : List Value} {p : Option Addr} (c : Nat)
    (hown : w.ownsRow base e s v n xs) (hT : P.underlying T = some (.slice e)) (he : Many P e s) (hs : Lies w w.heap.size p news) (hl : news.length = m * s) (hm : 0 < m) (hs0 : 0 < s) (h1 : news.all (·.oneCell') = true) (hn : Big (n + m ≤ 1099511627776)) (hbase : base ≤ w.heap.size)
    (ho : appendOf o a = some (T, T, v, .slice p m c))
    (k : ∀ v' w', w'.ownsRow base e s v' (n + m) (xs ++ news) → w.grownBy w' v.ownBlock → (v'.ownBlock = v.ownBlock ∨ v'.ownBlock = some w.heap.size) → wpList P ops Q rest (a.put o.dst v') w') : wpList P ops Q (o :: rest) a w := by
  obtain ⟨hg, x, y, hop, hx, hy⟩ := appendOf_spec ho
  obtain ⟨i, z, hi, hz, h2, h3, h4⟩ := he.row
  obtain ⟨b, off, rfl, hb, hc⟩ := hs (by rw [hl]; exact Nat.mul_pos hm hs0)
  refine wpList_append_own_at w hg x y T hop base e i z s i.bytes hT hi hz h2 rfl h3 hs0 v n xs hx hown ⟨b, off, none⟩ m c news hy hl ?_ (fun u hu => (List.all_eq_true.1 h1) u hu) ?_ ?_ hbase fun v' w' g1 g2 _ g4 => k v' w' g1 g2 g4
  · intro j u hj
    rw [Addr.add_mid]
    exact hc j u hj
  · have := hn.out; unfold maxLen; omega
  · exact Nat.le_trans (Nat.mul_le_mul hn.out h4) (by omega)
end
/-- A block of one's own as a slice that may be appended to. -/
theorem Row.ownsM {w : World} {g base n cap s : Nat} {e : TypeId} {xs ys : List Value} (h : Row w g e (xs ++ ys)) (hb : base ≤ g) (hx : xs.length = n * s) (hy : ys.length = (cap - n) * s) (hn : n ≤ cap) (hcap : cap ≤ maxLen) : w.ownsRow base e s (.slice (some ⟨g, 0, none⟩) n cap) n xs :=
  ⟨hx, .inr ⟨g, cap, _, rfl, hb, h, hn, hcap, by simp [hx, hy, ← Nat.add_mul]; rw [show n + (cap - n) = cap from by omega], by simp [← hx]⟩⟩
/-- What a slice of one's own holds. -/
theorem own_formM {w : World} {base s : Nat} {v : Value} {n : Nat} {xs : List Value} {e : TypeId} (h : w.ownsRow base e s v n xs) :
    ∃ a cap, v = .slice a n cap ∧ Lies w w.heap.size a xs := by
  rcases h.2 with ⟨rfl, rfl⟩ | ⟨g, cap, cur, rfl, hb, hh, hr⟩
  · exact ⟨none, 0, rfl, fun h0 => by have := h.1; omega⟩
  · refine ⟨some ⟨g, 0, none⟩, cap, rfl, fun _ => ⟨g, 0, rfl, (Array.getElem?_eq_some_iff.1 hh).1, fun j u hu => ?_⟩⟩
    have := h.cells (g := g) rfl j u hu
    rwa [Addr.add_lit] at this
end Go.Proofs.YtnbjaijhdjneoaaGreat

namespace Go.Proofs.YtnbjaijhdjneoaaGreat
open Go.RowKit GeoMath
set_option linter.unusedVariables false
set_option maxRecDepth 100000

end Go.Proofs.YtnbjaijhdjneoaaGreat

namespace Go.Proofs.YtnbjaijhdjneoaaGreat
open Go.RowKit GeoMath
set_option linter.unusedVariables false
set_option maxRecDepth 100000

end Go.Proofs.YtnbjaijhdjneoaaGreat

namespace Go.Proofs.YtnbjaijhdjneoaaGreat.GeoMath
set_option linter.unusedVariables false

end Go.Proofs.YtnbjaijhdjneoaaGreat.GeoMath

namespace Go.Proofs.YtnbjaijhdjneoaaGreat
open Go.RowKit GeoMath
set_option linter.unusedVariables false
set_option maxRecDepth 100000

theorem georr_any (g : Gm) (w : World) :
    Calls Tryz.prog 14 #[geoV g] w fun e w' => e = .returned (.bool (right g)) ∧ Below w.heap.size w w' := by
  cases hr : right g with
  | true =>
    have hg := (right_iff g).1 hr
    obtain ⟨d, p, s⟩ := g
    have h1 : (1 : Int) ≤ d := hg.d1
    have h2 : d ≤ 8 := hg.d8
    have h3 : (2 : Int) ≤ p := hg.p2
    have h4 : p ≤ 6 := hg.p6
    have h5 : (1 : Int) ≤ s := hg.s1
    have h6 : s ≤ 8 := hg.s8
    clear hg hr
    dsimp only [geoV]
    go_enter Tryz.func14, Tryz.ntmps14
    go_wp2_with ((with_reducible refine wpBoxK [Value.int .i64 d, .int .i64 p, .int .i64 s] 45 ?_ ?_); rfl; intro w1 r1 b1 s1; have c0 := r1.cell 0; have c1 := r1.cell 1; have c2 := r1.cell 2; have B1 := Lib.hid b1; clear r1 b1 s1)
    go_ret
    exact ⟨rfl, B1.out⟩
  | false =>
    have hn : ¬ Rt g := fun h => by rw [(right_iff g).2 h] at hr; cases hr
    obtain ⟨d, p, s⟩ := g
    have hor : ¬ 1 ≤ d ∨ (1 ≤ d ∧ ¬ d ≤ 8) ∨ (1 ≤ d ∧ d ≤ 8 ∧ ¬ 2 ≤ p) ∨ (1 ≤ d ∧ d ≤ 8 ∧ 2 ≤ p ∧ ¬ p ≤ 6) ∨ (1 ≤ d ∧ d ≤ 8 ∧ 2 ≤ p ∧ p ≤ 6 ∧ ¬ 1 ≤ s) ∨ (1 ≤ d ∧ d ≤ 8 ∧ 2 ≤ p ∧ p ≤ 6 ∧ 1 ≤ s ∧ ¬ s ≤ 8) := by
      by_cases x1 : 1 ≤ d <;> by_cases x2 : d ≤ 8 <;> by_cases x3 : 2 ≤ p <;> by_cases x4 : p ≤ 6 <;> by_cases x5 : 1 ≤ s <;> by_cases x6 : s ≤ 8 <;> simp only [x1, x2, x3, x4, x5, x6] <;> simp
      exact hn ⟨x1, x2, x3, x4, x5, x6⟩
    clear hn hr
    dsimp only [geoV]
    rcases hor with h1 | ⟨h1, h2⟩ | ⟨h1, h2, h3⟩ | ⟨h1, h2, h3, h4⟩ | ⟨h1, h2, h3, h4, h5⟩ | ⟨h1, h2, h3, h4, h5, h6⟩
    all_goals
      go_enter Tryz.func14, Tryz.ntmps14
      go_wp2_with ((with_reducible refine wpBoxK [Value.int .i64 d, .int .i64 p, .int .i64 s] 45 ?_ ?_); rfl; intro w1 r1 b1 s1; have c0 := r1.cell 0; have c1 := r1.cell 1; have c2 := r1.cell 2; have B1 := Lib.hid b1; clear r1 b1 s1)
      go_ret
      exact ⟨rfl, B1.out⟩
end Go.Proofs.YtnbjaijhdjneoaaGreat

namespace Go.Proofs.YtnbjaijhdjneoaaGreat
open Go.RowKit
section
variable {P : Program}
end
end Go.Proofs.YtnbjaijhdjneoaaGreat

namespace Go.Proofs.YtnbjaijhdjneoaaGreat
open Go.RowKit

/-- An array of bytes that came in. -/
def toByte (v : Value) : UInt8 := match v with | .int _ z => UInt8.ofNat z.toNat | _ => 0
theorem reads_bytes {w : World} {n : Nat} {cs : List Value} {x : List Int} (h : Open.Reads w (.arr n (.int .u8)) cs x) : ∃ H : List UInt8, H.length = n ∧ cs = bytes H := by
  obtain ⟨h1, h2, h3⟩ := h
  have hl : cs.length = n := by simpa [Open.Ty.size] using h2
  refine ⟨cs.map toByte, by simpa using hl, ?_⟩
  apply List.ext_getElem?
  intro i
  rw [bytes, List.getElem?_map, List.getElem?_map]
  by_cases hi : i < cs.length
  · have hx : i < x.length := by omega
    have h4 := h3 i hx
    simp only [Open.Ty.size, Nat.mul_one] at h4
    obtain ⟨h5, h6⟩ := h4
    have h7 : cs[i]? = some (.int .u8 x[i]) := by
      have := congrArg (·[0]?) h5
      simpa [List.getElem?_take, List.getElem?_drop] using this
    have hb : 0 ≤ x[i] ∧ x[i] ≤ 255 := by
      simp [Lit.wf, IntKind.min, IntKind.max, IntKind.bits, IntKind.signed] at h6
      omega
    rw [h7, Option.map_some, Option.map_some, toByte, UInt8.toNat_ofNat']
    congr 2
    omega
  · rw [List.getElem?_eq_none (by omega)]
    rfl

end Go.Proofs.YtnbjaijhdjneoaaGreat

namespace Go.Proofs.YtnbjaijhdjneoaaGreat
open Go.RowKit CrcMath GfMath PolyMath RsMath SolMath
set_option linter.unusedVariables false

abbrev Fb := Nat → Nat → UInt8
/-- Block i. -/
def bkF (f : Fb) (i : Nat) : List UInt8 := (List.range 60).map (f i)
theorem bkF_length (f : Fb) (i : Nat) : (bkF f i).length = 60 := by simp [bkF]
theorem bkF_get (f : Fb) (i b : Nat) (h : b < 60) : (bkF f i)[b]? = some (f i b) := by simp [bkF, h]
theorem bkF_eq {f g : Fb} {i j : Nat} : bkF f i = bkF g j ↔ ∀ b, b < 60 → f i b = g j b := by
  constructor
  · intro h b hb
    have := congrArg (fun l => l[b]?) h
    simp only [bkF_get _ _ _ hb, Option.some.injEq] at this
    exact this
  · intro h
    exact List.map_congr_left fun b hb => h b (List.mem_range.1 hb)
/-- n blocks, one behind the other. -/
def grid (n : Nat) (f : Fb) : List UInt8 := (List.range (n * 60)).map fun k => f (k / 60) (k % 60)
theorem grid_length (n : Nat) (f : Fb) : (grid n f).length = n * 60 := by simp [grid]
theorem grid_get (n : Nat) (f : Fb) (k : Nat) (h : k < n * 60) : (grid n f)[k]? = some (f (k / 60) (k % 60)) := by simp [grid, h]
theorem grid_at (n : Nat) (f : Fb) (i b : Nat) (hi : i < n) (hb : b < 60) : (grid n f)[i * 60 + b]? = some (f i b) := by
  have h1 : i * 60 + b < n * 60 := by omega
  rw [grid_get n f _ h1, show (i * 60 + b) / 60 = i by omega, show (i * 60 + b) % 60 = b by omega]
theorem grid_congr {n : Nat} {f g : Fb} (h : ∀ i, i < n → ∀ b, b < 60 → f i b = g i b) : grid n f = grid n g :=
  List.map_congr_left fun k hk => h _ (by have := List.mem_range.1 hk; omega) _ (by omega)
theorem grid_add (n m : Nat) (f : Fb) : grid (n + m) f = grid n f ++ grid m (fun i => f (n + i)) := by
  refine List.ext_getElem? fun k => ?_
  by_cases h : k < n * 60
  · rw [List.getElem?_append_left (by rw [grid_length]; exact h), grid_get _ _ _ h, grid_get _ _ _ (by omega)]
  · by_cases h2 : k < (n + m) * 60
    · rw [List.getElem?_append_right (by rw [grid_length]; omega), grid_length, grid_get _ _ _ h2, grid_get _ _ _ (by omega)]
      have e1 : k / 60 = n + (k - n * 60) / 60 := by omega
      have e2 : k % 60 = (k - n * 60) % 60 := by omega
      rw [← e1, ← e2]
    · rw [List.getElem?_eq_none (by rw [grid_length]; omega), List.getElem?_eq_none (by rw [List.length_append, grid_length, grid_length]; omega)]
theorem grid_one (f : Fb) : grid 1 f = bkF f 0 := by
  refine List.ext_getElem? fun k => ?_
  by_cases h : k < 60
  · rw [grid_get _ _ _ (by omega), bkF_get _ _ _ h, show k / 60 = 0 by omega, show k % 60 = k by omega]
  · rw [List.getElem?_eq_none (by rw [grid_length]; omega), List.getElem?_eq_none (by rw [bkF_length]; omega)]
theorem grid_succ (n : Nat) (f : Fb) : grid (n + 1) f = grid n f ++ bkF f n := by
  rw [grid_add, grid_one]
  congr 1
theorem grid_split {n i : Nat} (f : Fb) (h : i < n) : grid n f = grid i f ++ bkF f i ++ grid (n - i - 1) (fun j => f (i + 1 + j)) := by
  rw [show n = (i + 1) + (n - i - 1) by omega, grid_add, grid_succ]
  congr 2
  omega
/-- Blocks that are given as lists. -/
def ofL (L : List (List UInt8)) : Fb := fun i b => (L.getD i []).getD b 0
theorem bkF_ofL (L : List (List UInt8)) (h : ∀ x ∈ L, x.length = 60) (i : Nat) (hi : i < L.length) : bkF (ofL L) i = L[i] := by
  have hl := h _ (List.getElem_mem hi)
  refine List.ext_getElem? fun b => ?_
  by_cases hb : b < 60
  · have e : L.getD i [] = L[i] := by simp [List.getD_eq_getElem?_getD, hi]
    rw [bkF_get _ _ _ hb, ofL, e, List.getD_eq_getElem?_getD, List.getElem?_eq_getElem (by omega), Option.getD_some]
  · rw [List.getElem?_eq_none (by rw [bkF_length]; omega), List.getElem?_eq_none (by omega)]
theorem grid_take (L : List (List UInt8)) (h : ∀ x ∈ L, x.length = 60) : ∀ n, n ≤ L.length → grid n (ofL L) = (L.take n).flatten
  | 0, _ => rfl
  | n + 1, hn => by rw [grid_succ, grid_take L h n (by omega), flat_take L n (by omega), bkF_ofL L h n (by omega)]
theorem grid_of (L : List (List UInt8)) (h : ∀ x ∈ L, x.length = 60) : L.flatten = grid L.length (ofL L) := by
  rw [grid_take L h _ (Nat.le_refl _), List.take_length]

/-- One byte is another. -/
def setF (f : Fb) (i b : Nat) (v : UInt8) : Fb := fun j c => if j = i ∧ c = b then v else f j c
theorem grid_set (n : Nat) (f : Fb) (i b : Nat) (v : UInt8) (hi : i < n) (hb : b < 60) : (grid n f).set (i * 60 + b) v = grid n (setF f i b v) := by
  refine List.ext_getElem? fun k => ?_
  rw [List.getElem?_set]
  by_cases h : k < n * 60
  · rw [grid_get _ _ _ h, grid_get _ _ _ h, setF]
    by_cases e : i * 60 + b = k
    · rw [if_pos e, if_pos (by rw [grid_length]; omega), if_pos (by constructor <;> omega)]
    · rw [if_neg e, if_neg (by intro hh; omega)]
  · rw [if_neg (by omega), List.getElem?_eq_none (by rw [grid_length]; omega), List.getElem?_eq_none (by rw [grid_length]; omega)]
/-- A word's first k bytes at place b of the blocks from o on. -/
def putF (f : Fb) (o b : Nat) (X : List Nat) (k : Nat) : Fb := fun j c => if c = b ∧ o ≤ j ∧ j < o + k then UInt8.ofNat (sq X (j - o)) else f j c
theorem putF_zero (f : Fb) (o b : Nat) (X : List Nat) : putF f o b X 0 = f := by
  funext j c
  rw [putF, if_neg (by omega)]
theorem putF_succ (f : Fb) (o b : Nat) (X : List Nat) (k : Nat) : setF (putF f o b X k) (o + k) b (UInt8.ofNat (sq X k)) = putF f o b X (k + 1) := by
  funext j c
  unfold setF putF
  by_cases e : j = o + k ∧ c = b
  · rw [if_pos e, if_pos (by omega)]
    rw [show j - o = k by omega]
  · rw [if_neg e]
    by_cases h : c = b ∧ o ≤ j ∧ j < o + k
    · rw [if_pos h, if_pos (by omega)]
    · rw [if_neg h, if_neg (by omega)]
/-- The blocks' bytes at a place. -/
def colF (f : Fb) (n b : Nat) : List Nat := tab n fun i => (f i b).toNat
theorem colF_length (f : Fb) (n b : Nat) : (colF f n b).length = n := tab_length _ _
theorem colF_by (f : Fb) (n b : Nat) : By (colF f n b) := tab_by _ fun i _ => (f i b).toNat_lt
theorem colF_sq (f : Fb) (n b i : Nat) (h : i < n) : sq (colF f n b) i = (f i b).toNat := by rw [colF, sq_tab, if_pos h]
theorem colF_congr {f g : Fb} {n b : Nat} (h : ∀ i, i < n → f i b = g i b) : colF f n b = colF g n b := tab_congr _ fun i hi => by rw [h i hi]
theorem ofNat_toNat {x : Nat} (h : x < 256) : (UInt8.ofNat x).toNat = x := by
  rw [UInt8.toNat_ofNat']; exact Nat.mod_eq_of_lt h
theorem toNat_ofNat' (x : UInt8) : UInt8.ofNat x.toNat = x := by simp

/-- All blocks of a stripe, its parity laid up to place t. -/
def wholeT (f : Fb) (k p t : Nat) : Fb := fun j b => if j < k then f j b else if b < t then UInt8.ofNat (sq (parity (colF f k b) p) (j - k)) else 0
def wholeF (f : Fb) (k p : Nat) : Fb := wholeT f k p 60
theorem wholeT_data (f : Fb) (k p t j b : Nat) (h : j < k) : wholeT f k p t j b = f j b := if_pos h
theorem wholeT_next (f : Fb) (k p t : Nat) (j b : Nat) (hj : j < k + p) : putF (wholeT f k p t) k t (parity (colF f k t) p) p j b = wholeT f k p (t + 1) j b := by
  unfold putF wholeT
  by_cases h1 : j < k
  · rw [if_neg (by omega), if_pos h1, if_pos h1]
  · rw [if_neg h1, if_neg h1]
    by_cases h2 : b = t
    · subst h2
      rw [if_pos (by omega), if_pos (by omega)]
    · rw [if_neg (by omega)]
      by_cases h3 : b < t
      · rw [if_pos h3, if_pos (by omega)]
      · rw [if_neg h3, if_neg (by omega)]
theorem grid_next (f : Fb) (k p t : Nat) : grid (k + p) (putF (wholeT f k p t) k t (parity (colF f k t) p) p) = grid (k + p) (wholeT f k p (t + 1)) :=
  grid_congr fun i hi b _ => wholeT_next f k p t i b hi
theorem grid_start (f : Fb) (k p : Nat) : grid k f ++ List.replicate (p * 60) 0 = grid (k + p) (wholeT f k p 0) := by
  rw [grid_add, grid_congr (g := wholeT f k p 0) (f := f) fun i hi b _ => (wholeT_data f k p 0 i b hi).symm]
  congr 1
  refine List.ext_getElem? fun q => ?_
  by_cases h : q < p * 60
  · rw [grid_get _ _ _ h, List.getElem?_replicate, if_pos h, wholeT, if_neg (by omega), if_neg (by omega)]
  · rw [List.getElem?_eq_none (by simp; omega), List.getElem?_eq_none (by rw [grid_length]; omega)]
theorem wholeF_par (f : Fb) (k p j b : Nat) (h : ¬ j < k) (hb : b < 60) : wholeF f k p j b = UInt8.ofNat (sq (parity (colF f k b) p) (j - k)) := by
  rw [wholeF, wholeT, if_neg h, if_pos hb]
theorem col_whole (f : Fb) (k p b : Nat) (hb : b < 60) : colF (wholeF f k p) (k + p) b = code (colF f k b) p := by
  have hX := colF_by f k b
  refine list_eq (by rw [colF_length, code_length _ hX, colF_length]) fun j hj => ?_
  rw [colF_length] at hj
  rw [colF_sq _ _ _ _ hj]
  by_cases h : j < k
  · rw [show wholeF f k p j b = f j b from wholeT_data f k p 60 j b h, code]
    unfold sq
    rw [List.getD_eq_getElem?_getD, List.getElem?_append_left (by rw [colF_length]; exact h), ← List.getD_eq_getElem?_getD]
    exact (colF_sq f k b j h).symm
  · rw [wholeF_par f k p j b h hb, ofNat_toNat ((parity_by _ hX p).sq _), code]
    unfold sq
    rw [List.getD_eq_getElem?_getD, List.getD_eq_getElem?_getD, List.getElem?_append_right (by rw [colF_length]; omega), colF_length]
theorem whole_right (f : Fb) (k p b : Nat) (hb : b < 60) : allz (vals (colF (wholeF f k p) (k + p) b) p) = true := by
  rw [col_whole f k p b hb]
  exact code_right (colF_by f k b) p

/-- The blocks, mended place by place, with these erased. -/
def mdF (n p : Nat) (f : Fb) (er : List Int) : Fb := fun i b => match mendF masseyF n p (colF f n b) er with | .ok m _ => UInt8.ofNat (sq m i) | _ => 0
def okAt (n p : Nat) (f : Fb) (er : List Int) (b : Nat) : Bool := match mendF masseyF n p (colF f n b) er with | .ok _ _ => true | _ => false
def okTo (n p : Nat) (f : Fb) (er : List Int) (t : Nat) : Bool := (List.range t).all (okAt n p f er)
theorem okTo_succ (n p : Nat) (f : Fb) (er : List Int) (t : Nat) : okTo n p f er (t + 1) = (okTo n p f er t && okAt n p f er t) := by
  rw [okTo, okTo, List.range_succ, List.all_append]; simp
theorem okTo_false {n p : Nat} {f : Fb} {er : List Int} {t : Nat} (ht : t < 60) (h : okAt n p f er t = false) : okTo n p f er 60 = false := by
  rw [okTo, List.all_eq_false]
  exact ⟨t, List.mem_range.2 ht, by rw [h]; simp⟩
/-- Mended up to place t. -/
def mdT (n p : Nat) (f : Fb) (er : List Int) (t : Nat) : Fb := fun i b => if b < t then mdF n p f er i b else 0
theorem mdT_next (n p : Nat) (f : Fb) (er : List Int) (t : Nat) (m : List Nat) (l : List Nat) (h : mendF masseyF n p (colF f n t) er = .ok m l) : grid n (putF (mdT n p f er t) 0 t m n) = grid n (mdT n p f er (t + 1)) := by
  refine grid_congr fun i hi b _ => ?_
  unfold putF mdT
  by_cases e : b = t
  · subst e
    rw [if_pos (by omega), if_pos (by omega), mdF, h, Nat.sub_zero]
  · rw [if_neg (by omega)]
    by_cases h3 : b < t
    · rw [if_pos h3, if_pos (by omega)]
    · rw [if_neg h3, if_neg (by omega)]
theorem mdT_full (n p : Nat) (f : Fb) (er : List Int) : grid n (mdT n p f er 60) = grid n (mdF n p f er) :=
  grid_congr fun i _ b hb => if_pos hb
theorem mdT_zero (n p : Nat) (f : Fb) (er : List Int) : grid n (mdT n p f er 0) = List.replicate (n * 60) 0 := by
  refine List.ext_getElem? fun q => ?_
  by_cases h : q < n * 60
  · rw [grid_get _ _ _ h, List.getElem?_replicate, if_pos h, mdT, if_neg (by omega)]
  · rw [List.getElem?_eq_none (by rw [grid_length]; omega), List.getElem?_eq_none (by simp; omega)]
/-- Where two lists have other blocks, and where they are called so. -/
def unlF (n : Nat) (f g : Fb) (so : List Nat) : List Nat := (List.range n).filter fun i => decide (bkF f i ≠ bkF g i) || decide (i ∈ so)
theorem unlF_succ (n : Nat) (f g : Fb) (so : List Nat) : unlF (n + 1) f g so = unlF n f g so ++ if (decide (bkF f n ≠ bkF g n) || decide (n ∈ so)) = true then [n] else [] := by
  rw [unlF, List.range_succ, List.filter_append, ← unlF, List.filter_cons, List.filter_nil]
theorem unlF_le (n : Nat) (f g : Fb) (so : List Nat) : (unlF n f g so).length ≤ n := by
  have := List.length_filter_le (fun i => decide (bkF f i ≠ bkF g i) || decide (i ∈ so)) (List.range n)
  rwa [List.length_range] at this
/-- The blocks that sectors hold; the sectors whose tag isn't right. -/
def seenF (S : List (List UInt8)) : Fb := fun i b => (blk (S.getD i [])).getD b 0
theorem bkF_seen (S : List (List UInt8)) (i : Nat) : bkF (seenF S) i = blk (S.getD i []) := by
  refine List.ext_getElem? fun b => ?_
  by_cases hb : b < 60
  · rw [bkF_get _ _ _ hb, seenF, List.getD_eq_getElem?_getD, List.getElem?_eq_getElem (by rw [blk_length]; exact hb), Option.getD_some]
  · rw [List.getElem?_eq_none (by rw [bkF_length]; omega), List.getElem?_eq_none (by rw [blk_length]; omega)]
def erasedF (S : List (List UInt8)) (n : Nat) : List Nat := (List.range n).filter fun i => !rightT (S.getD i [])
theorem erasedF_succ (S : List (List UInt8)) (n : Nat) : erasedF S (n + 1) = erasedF S n ++ if rightT (S.getD n []) = false then [n] else [] := by
  rw [erasedF, List.range_succ, List.filter_append, ← erasedF, List.filter_cons, List.filter_nil]
  cases rightT (S.getD n []) <;> rfl
theorem erasedF_lt (S : List (List UInt8)) (n : Nat) : ∀ x ∈ erasedF S n, x < n := fun x hx => by
  have := (List.mem_filter.1 hx).1
  simpa using this
theorem erasedF_le (S : List (List UInt8)) (n : Nat) : (erasedF S n).length ≤ n := by
  have := List.length_filter_le (fun i => !rightT (S.getD i [])) (List.range n)
  rwa [List.length_range] at this
end Go.Proofs.YtnbjaijhdjneoaaGreat

namespace Go.Proofs.YtnbjaijhdjneoaaGreat
open Go.RowKit CrcMath GfMath PolyMath RsMath SolMath
set_option linter.unusedVariables false
set_option maxRecDepth 100000

theorem str_info8 : (Tryz.prog.info? 5).map (fun i => (i.zero, i.size, i.bytes)) = some (some (.int .u8 0), 1, 8) ∨ (Tryz.prog.info? 5).map (fun i => (i.zero, i.size, i.bytes)) = some (some (.int .u8 0), 1, 1) := Or.inr info_byte
/-- The word while it is filled. -/
def colP (f : Fb) (n b k : Nat) : List Nat := tab n fun i => if i < k then (f i b).toNat else 0
theorem colP_zero (f : Fb) (n b : Nat) : colP f n b 0 = List.replicate n 0 := by rw [tab_zero]; exact tab_congr _ fun i _ => if_neg (by omega)
theorem colP_full (f : Fb) (n b : Nat) : colP f n b n = colF f n b := tab_congr _ fun i hi => if_pos hi
theorem colP_next (f : Fb) (n b k : Nat) : (colP f n b k).set k (f k b).toNat = colP f n b (k + 1) := by
  rw [colP, tab_set]
  refine tab_congr _ fun i _ => ?_
  by_cases e : i = k
  · rw [if_pos e, if_pos (by omega), e]
  · rw [if_neg e]
    by_cases h : i < k
    · rw [if_pos h, if_pos (by omega)]
    · rw [if_neg h, if_neg (by omega)]
/-- A block among those that lie somewhere. -/
theorem grid_range {w : World} {bl off n : Nat} {f : Fb} (hc : ∀ j u, (bytes (grid n f))[j]? = some u → w.cell? ⟨bl, off + j, none⟩ = some u) (k : Nat) (hk : k < n) : w.rangeAt bl (off + k * 60) (bytes (bkF f k)) :=
  Lies.range (w := w) (B := 0) hc (bytes (grid k f)) (bytes (bkF f k)) (bytes (grid (n - k - 1) (fun j => f (k + 1 + j)))) (by rw [grid_split f hk, bytes_append, bytes_append]) (k * 60) (by rw [bytes_length, grid_length])

set_option maxHeartbeats 1000000 in
theorem str_word_any (a : Option Addr) (cap n : Nat) (f : Fb) (b : Nat) (w : World) (hn : n ≤ 1000) (hb : b < 60) (hr : Lies w w.heap.size a (bytes (grid n f))) :
    Calls Tryz.prog 48 #[.slice a n cap, .int .i64 (b : Int)] w fun e w' => (∃ g, e = .returned (.slice (some ⟨g, 0, none⟩) n n) ∧ w.heap.size ≤ g ∧ Row w' g 5 (u8s (colF f n b))) ∧ Below w.heap.size w w' := by
  obtain ⟨O, hO⟩ : ∃ O : List UInt8, O = List.replicate 60 0 := ⟨_, rfl⟩
  have HZ0 : Hid (∀ u, (zeroValue 48).run Tryz.prog u = .ok (.agg (bytes O).toArray) u) := Lib.hid (by rw [hO]; exact tag_zero)
  have LO : Hid ((bytes O).length = 60) := Lib.hid (by rw [hO, bytes_length, List.length_replicate])
  have HR := Lib.hid hr
  have HI8 := Lib.hid str_info8
  have HZC : Hid ((Value.int .u8 0).cells = #[.int .u8 0]) := Lib.hid rfl
  have HNN : Hid (n ≤ n) := Lib.hid (Nat.le_refl _)
  have HNM : Hid (n ≤ 1099511627776) := Lib.hid (by omega)
  have HZR : Hid (List.replicate n (Value.int .u8 0) = u8s (colP f n b 0)) := Lib.hid (by rw [colP_zero, u8s_zero])
  have HB := Lib.hid hb
  have hb1 : (b : Int) < 60 := by omega
  have hn1 : (n : Int) ≤ 1000 := by omega
  clear hO hr hb hn
  go_enter Tryz.func48, Tryz.ntmps48
  go_wp2_with ((with_reducible refine wpMakeK 67 5 (.int .u8 0) n n Tryz.underlying67 HI8.out HZC.out HNN.out HNM.out ?_ ?_); rfl; intro u1 r1 b1 s1; rw [HZR.out] at r1; have R1 := Lib.hid r1; have B1 := Lib.hid b1; clear r1 b1 s1)
  go_loopw [13] (fun i wr => ∃ k : Nat, k ≤ n ∧ i = .int .i64 k ∧ Row wr w.heap.size 5 (u8s (colP f n b k)) ∧ Below w.heap.size w wr) (fun i _ => n - (intOf i).toNat)
  case atStart => exact ⟨0, by omega, rfl, R1.out, B1.out⟩
  case round =>
    clear R1 B1
    obtain ⟨k, hk, rfl, hrow, hbw⟩ := hrel
    by_cases hlt : k < n
    · have hki : (k : Int) < (n : Int) := by omega
      obtain ⟨bl, off, rfl, hbb, hc⟩ := HR.out (by rw [bytes_length, grid_length]; omega)
      have HRG : Hid (wr.rangeAt bl (off + k * 60) (bytes (bkF f k))) := Lib.hid (grid_range (fun j u hj => (hbw.cell (p := ⟨bl, off + j, none⟩) hbb).trans (hc j u hj)) k hlt)
      have LM : Hid ((bytes (bkF f k)).length = 60) := Lib.hid (by rw [bytes_length, bkF_length])
      have HM1 : Hid ((bytes (bkF f k)).all (·.oneCell') = true) := Lib.hid (bytes_oneC _)
      obtain ⟨x, hx⟩ : ∃ x, (f k b).toNat = x := ⟨_, rfl⟩
      have HMB : Hid ((bytes (bkF f k))[b]? = some (.int .u8 (x : Int))) := Lib.hid (by rw [← hx, bytes, List.getElem?_map, bkF_get _ _ _ HB.out]; rfl)
      have HNX : Hid ((u8s (colP f n b k)).set k (.int .u8 (x : Int)) = u8s (colP f n b (k + 1))) := Lib.hid (by rw [u8s_set, ← hx, colP_next])
      have HLN : Hid (k < (u8s (colP f n b k)).length) := Lib.hid (by rw [u8s_length, colP, tab_length]; exact hlt)
      have HROW := Lib.hid hrow
      have HBW := Lib.hid hbw
      generalize bytes (bkF f k) = M at HRG LM HM1 HMB
      generalize u8s (colP f n b k) = F at HROW HNX HLN
      clear hrow hbw hc hx hlt
      go_wp2_with (first
        | ((with_reducible refine wpLoadRK HRG.out 48 fits_block LM.out ?_ ?_); rfl)
        | ((with_reducible refine wpAllocK (w := wr) (bytes O) 48 HZ0.out ?_ ?_); rfl; intro u1 r1 b1 s1; have R1 := Lib.hid r1; have Q1 := Lib.hid (HROW.out.step b1); have B1 := Lib.hid (HBW.out.next b1); clear r1 b1 s1)
        | ((with_reducible refine R1.out.wpStoreK 48 M fits_block LO.out LM.out HM1.out ?_ ?_); rfl; intro u2 r2 o2 s2; have hcell : u2.cell? ⟨wr.heap.size, b, none⟩ = some (.int .u8 (x : Int)) := (by rw [r2.cell]; exact HMB.out); have Q2 := Lib.hid (Q1.out.only o2 (by have := HROW.out.lt; omega)); have B2 : Hid (Below w.heap.size w u2) := Lib.hid (B1.out.trans (o2.below HBW.out.size B1.out.size)); clear r2 o2 s2)
        | ((with_reducible refine Q2.out.wpStore1K k 5 (.int .u8 (x : Int)) tag_size_byte HLN.out ?_ ?_ ?_ ?_); rfl; rfl; rfl; intro u3 r3 o3 s3; rw [HNX.out] at r3; have R3 := Lib.hid r3; have B3 : Hid (Below w.heap.size w u3) := Lib.hid (B2.out.trans (o3.below (Nat.le_refl _) B2.out.size)); clear r3 o3 s3))
      go_roundw
      case rel => exact ⟨k + 1, by omega, by go_num, R3.out, B3.out⟩
      case measure => simp [intOf]; omega
    · obtain rfl : k = n := by omega
      rw [colP_full] at hrow
      have HROW := Lib.hid hrow
      have HBW := Lib.hid hbw
      clear hrow hbw
      go_wp2
      go_ret
      exact ⟨⟨_, rfl, Nat.le_refl _, HROW.out⟩, HBW.out⟩

theorem grid_set_ys (N : Nat) (f : Fb) (ys : List Value) (i b : Nat) (v : UInt8) (x : Nat) (hv : v.toNat = x) (hi : i < N) (hb : b < 60) : (bytes (grid N f) ++ ys).set (i * 60 + b) (.int .u8 (x : Int)) = bytes (grid N (setF f i b v)) ++ ys := by
  rw [List.set_append_left _ _ (by rw [bytes_length, grid_length]; omega), ← grid_set N f i b v hi hb, bytes, bytes, List.map_set, hv]
theorem grid_cell_ys (N : Nat) (f : Fb) (ys : List Value) (i b : Nat) (hi : i < N) (hb : b < 60) : (bytes (grid N f) ++ ys)[i * 60 + b]? = some (.int .u8 ((f i b).toNat : Int)) := by
  rw [List.getElem?_append_left (by rw [bytes_length, grid_length]; omega), bytes, List.getElem?_map, grid_at _ _ _ _ hi hb]
  rfl

set_option maxHeartbeats 1000000 in
theorem str_lay_any (g o n cap N : Nat) (T : TypeId) (f : Fb) (ys : List Value) (b g2 o2 cap2 : Nat) (X : List Nat) (w : World) (hn : n ≤ 1000) (hN : o + n ≤ N) (hb : b < 60) (hX : By X) (hXl : X.length = n) (hg : g2 ≠ g)
    (hr : Row w g T (bytes (grid N f) ++ ys)) (hx : Lies w w.heap.size (some ⟨g2, o2, none⟩) (u8s X)) :
    Calls Tryz.prog 49 #[.slice (some ⟨g, o * 60, none⟩) n cap, .int .i64 (b : Int), .slice (some ⟨g2, o2, none⟩) n cap2] w fun e w' => e = .returned (.tuple #[]) ∧ Row w' g T (bytes (grid N (putF f o b X n)) ++ ys) ∧ Only g w w' := by
  have HR : Hid (Row w g T (bytes (grid N (putF f o b X 0)) ++ ys)) := Lib.hid (by rw [putF_zero]; exact hr)
  have HX8 := Lib.hid hX
  have HXL := Lib.hid hXl
  have HXX := Lib.hid hx
  have HB := Lib.hid hb
  have HNN := Lib.hid hN
  have HG := Lib.hid hg
  have hb1 : (b : Int) < 60 := by omega
  have hn1 : (n : Int) ≤ 1000 := by omega
  clear hr hX hXl hx hb hN hn hg
  go_enter Tryz.func49, Tryz.ntmps49
  go_wp2
  go_loopw [9] (fun i wr => ∃ k : Nat, k ≤ n ∧ i = .int .i64 k ∧ Row wr g T (bytes (grid N (putF f o b X k)) ++ ys) ∧ Only g w wr) (fun i _ => n - (intOf i).toNat)
  case atStart => exact ⟨0, by omega, rfl, HR.out, Only.refl _ _⟩
  case round =>
    clear HR
    obtain ⟨k, hk, rfl, hrow, hbw⟩ := hrel
    by_cases hlt : k < n
    · have hki : (k : Int) < (n : Int) := by omega
      obtain ⟨b3, o3, e3, hbb, hc⟩ := HXX.out (by rw [u8s_length, HXL.out]; omega)
      cases e3
      have hx8 := HX8.out.sq k
      obtain ⟨x, hx⟩ : ∃ x, sq X k = x := ⟨_, rfl⟩
      have hcw : w.cell? ⟨g2, o2 + k, none⟩ = some (.int .u8 (x : Int)) := hc k _ (by rw [u8s_get _ _ (by rw [HXL.out]; exact hlt), ← hx, sq_get _ _ (by rw [HXL.out]; exact hlt)])
      have hcell : wr.cell? ⟨g2, o2 + k, none⟩ = some (.int .u8 (x : Int)) := by
        rw [← hcw]
        simp only [World.cell?]
        rw [hbw.2.2.2.2 g2 hbb HG.out]
      have hdst : wr.cell? ⟨g, o * 60 + k * 60 + b, none⟩ = some (.int .u8 ((putF f o b X k (o + k) b).toNat : Int)) := by
        have := grid_cell_ys N (putF f o b X k) ys (o + k) b (by have := HNN.out; omega) HB.out
        rw [hrow.cell, show o * 60 + k * 60 + b = (o + k) * 60 + b by omega]
        exact this
      have hfr : wr.frozen? ⟨g, o * 60 + k * 60 + b, none⟩ = false := hrow.frozen _
      have HNX : Hid ((bytes (grid N (putF f o b X k)) ++ ys).set (o * 60 + k * 60 + b) (.int .u8 (x : Int)) = bytes (grid N (putF f o b X (k + 1))) ++ ys) := Lib.hid (by
        rw [show o * 60 + k * 60 + b = (o + k) * 60 + b by omega, grid_set_ys N _ ys (o + k) b (UInt8.ofNat x) x (ofNat_toNat (by rw [← hx]; exact hx8)) (by have := HNN.out; omega) HB.out, ← hx, putF_succ])
      have HROW := Lib.hid hrow
      have HBW := Lib.hid hbw
      obtain ⟨y, hy⟩ : ∃ y, ((putF f o b X k (o + k) b).toNat : Int) = y := ⟨_, rfl⟩
      rw [hy] at hdst
      clear hrow hbw hc hx hlt hcw hy
      go_wp2
      go_region
      have R2 : Hid (Row ((wr.setCell ⟨g, o * 60 + k * 60 + b, none⟩ (.int .u8 (x : Int))).drew) g T (bytes (grid N (putF f o b X (k + 1))) ++ ys)) := Lib.hid (by
        have h := HROW.out.set (o * 60 + k * 60 + b) (.int .u8 (x : Int))
        rw [HNX.out] at h
        exact h.drew)
      have O2 : Hid (Only g w ((wr.setCell ⟨g, o * 60 + k * 60 + b, none⟩ (.int .u8 (x : Int))).drew)) := Lib.hid (HBW.out.setCell ⟨g, o * 60 + k * 60 + b, none⟩ _ (Or.inl rfl)).drew
      generalize (wr.setCell ⟨g, o * 60 + k * 60 + b, none⟩ (.int .u8 (x : Int))).drew = W2 at *
      clear hcell hdst hfr HROW HBW
      go_wp2
      go_roundw
      case rel => exact ⟨k + 1, by omega, by go_num, R2.out, O2.out⟩
      case measure => simp [intOf]; omega
    · obtain rfl : k = n := by omega
      have HROW := Lib.hid hrow
      have HBW := Lib.hid hbw
      clear hrow hbw
      go_wp2
      go_end0
      exact ⟨rfl, HROW.out, HBW.out⟩
end Go.Proofs.YtnbjaijhdjneoaaGreat

namespace Go.Proofs.YtnbjaijhdjneoaaGreat
open Go.RowKit
section
variable {P : Program}
theorem run_append_madeM (w : World) (t u ty e : TypeId) (i : TypeInfo) (z : Value) (s : Nat) (k : IntKind) (ht : P.underlying t = some (.slice e)) (hu : P.underlying u = some (.int k)) (hi : P.info? e = some i) (hz : i.zero = some z) (hs : i.size = s)
    (n : Nat) (h0 : 0 < n) (hs0 : 0 < s) (hn : n ≤ 1099511627776) (hb : i.bytes ≤ 64) :
    (Builtin.append_ #[t, u] ty #[.slice none 0 0, .int .i64 (n : Int)]).run P w =
      .ok (.slice (some ⟨w.heap.size, 0, none⟩) n (grownCap w n 0 e)) (w.drew.alloc (.cells (Builtin.zeroCells z.cells n ++ Builtin.zeroCells z.cells (grownCap w n 0 e - n)) e)) := by
  have hn0 : n ≠ 0 := by omega
  have hns : n * s ≠ 0 := Nat.mul_ne_zero hn0 (by omega)
  have hw : IntKind.i64.wrap (n : Int) = (n : Int) := by rw [IntKind.wrap_i64]; omega
  have hpos : ¬ (n : Int) < 0 := by omega
  have h63' : ¬ (9223372036854775807 < (n : Int)) := by omega
  have hb1 : n * i.bytes ≤ 1099511627776 * 64 := Nat.mul_le_mul hn hb
  have hb2 : ¬ (281474976710656 < (n : Int) * (i.bytes : Int)) := by
    have : ((n * i.bytes : Nat) : Int) ≤ 281474976710656 := by omega
    rw [Int.natCast_mul] at this
    omega
  have h48' : ¬ (281474976710656 < Builtin.nextslicecap n 0 * i.bytes) := by rw [nextslicecap_zero h0]; omega
  simp [Builtin.append_, run_underlying ht, run_underlying hu, asInt, asIntOf, sizeOf, typeInfo, zeroValue, hi, hz, hs, hw, hpos, hb2, Builtin.lenOf, hn0, hns, h63', h48', Question.forced, run_firstCells_none, newRow, grownCap]
theorem wpAppendMadeM {ops : Array Oper} {rest : List Oper} {o : Oper} {a : Act} {w : World} {Q : Exit → Act → World → Prop} {n s : Nat} {T U e : TypeId} (k : IntKind)
    (hT : P.underlying T = some (.slice e)) (hU : P.underlying U = some (.int k)) (he : Many P e s) (h0 : 0 < n) (hs0 : 0 < s) (hn : n ≤ 1099511627776)
    (ho : appendOf o a = some (T, U, .slice none 0 0, .int .i64 (n : Int)))
    (kk : ∀ c w', n ≤ c → w'.ownsRow w.heap.size e s (.slice (some ⟨w.heap.size, 0, none⟩) 0 c) 0 [] → Below w.heap.size w w' → wpList P ops Q rest (a.put o.dst (.slice (some ⟨w.heap.size, 0, none⟩) n c)) w') : wpList P ops Q (o :: rest) a w := by
  obtain ⟨hg, x, y, hop, hx, hy⟩ := appendOf_spec ho
  obtain ⟨i, z, hi, hz, h2, h3, h4⟩ := he.row
  refine wpList_plain hg fun K hK => ?_
  have hr := run_append_madeM (P := P) w T U o.type e i z s k hT hU hi hz h2 n h0 hs0 hn h4
  unfold Oper.wp execOp
  simp only [hop, resolve, invoke, builtin, Sem.run_bind, Sem.run_pure, Result.andThen_ok, List.map_toArray, List.map_cons, List.map_nil, hx, hy, hr]
  have hge := grownCap_ge w n 0 e
  have hm : n ≤ maxLen := by unfold maxLen; omega
  have hle := grownCap_le_maxLen w n 0 e hm
  refine hK _ _ (kk _ _ hge ⟨by simp, .inr ⟨w.heap.size, _, _, rfl, Nat.le_refl _, heap_alloc_new w.drew _, Nat.zero_le _, hle, ?_, by simp⟩⟩ (((Below.refl _ _).drew).alloc (Nat.le_refl _) _))
  rw [Array.size_append, size_zeroCells, size_zeroCells, h3, ← Nat.add_mul]
  congr 1
  omega
end
end Go.Proofs.YtnbjaijhdjneoaaGreat

namespace Go.Proofs.YtnbjaijhdjneoaaGreat
open Go.RowKit CrcMath GfMath PolyMath RsMath SolMath
set_option linter.unusedVariables false
set_option maxRecDepth 100000

theorem many_block : Many Tryz.prog 48 60 := Many.of (by kernel_rfl)
theorem str_grow_nil (n : Nat) (w : World) (h0 : 0 < n) (hn : n ≤ 1000000) :
    Calls Tryz.prog 70 #[.slice none 0 0, .int .i64 (n : Int)] w fun e w' => (∃ c, e = .returned (.slice (some ⟨w.heap.size, 0, none⟩) 0 c) ∧ w'.ownsRow w.heap.size 48 60 (.slice (some ⟨w.heap.size, 0, none⟩) 0 c) 0 []) ∧ Below w.heap.size w w' := by
  have h1 : ¬ (n : Int) < 0 := by omega
  have h2 : (n : Int) > 0 := by omega
  have h3 : (0 : Int) ≤ (n : Int) := by omega
  have hnb : (n : Int) ≤ 1000000 := by omega
  have H0 := Lib.hid h0
  have HS0 : Hid (0 < 60) := Lib.hid (by omega)
  have HN : Hid (n ≤ 1099511627776) := Lib.hid (by omega)
  go_enter Tryz.func70, Tryz.ntmps70
  go_wp2_with ((with_reducible refine wpAppendMadeM .i64 Tryz.underlying24 Tryz.underlying3 many_block H0.out HS0.out HN.out ?_ ?_); rfl; intro c w1 k1 k2 k3; have K1 : ((0 : Int) ≤ (c : Int)) := (by omega); have K2 := Lib.hid k2; have K3 := Lib.hid k3; clear k1 k2 k3)
  go_ret
  exact ⟨⟨_, rfl, K2.out⟩, K3.out⟩

theorem own_rowM {w : World} {base g n cap s : Nat} {e : TypeId} {xs : List Value} (h : w.ownsRow base e s (.slice (some ⟨g, 0, none⟩) n cap) n xs) : base ≤ g ∧ ∃ ys, Row w g e (xs ++ ys) := by
  rcases h.2 with ⟨h1, _⟩ | ⟨g', cap', cur, h1, h2, h3, h4, h5, h6, h7⟩
  · cases h1
  · cases h1
    refine ⟨h2, cur.toList.drop (n * s), ?_⟩
    rw [← h7, List.take_append_drop]
    exact h3

def cumF (k p j : Nat) : Nat := if j = 0 then 0 else if j = 1 then k else k + p
def catF (f : Fb) (k p j : Nat) : List UInt8 := grid (cumF k p j) (wholeT f k p 0)
set_option maxHeartbeats 1000000 in
theorem str_concat (gl gz : Nat) (a : Option Addr) (capa capz k p : Nat) (f : Fb) (w : World) (hk : 0 < k) (hk2 : k ≤ 1000) (hp : 0 < p) (hp2 : p ≤ 1000)
    (c0 : w.cell? ⟨gl, 0, none⟩ = some (.slice a k capa)) (c1 : w.cell? ⟨gl, 1, none⟩ = some (.slice (some ⟨gz, 0, none⟩) p capz)) (hra : Lies w w.heap.size a (bytes (grid k f))) (hrz : Row w gz 48 (List.replicate (p * 60) (.int .u8 0))) :
    Calls Tryz.prog 46 #[.slice (some ⟨gl, 0, none⟩) 2 2] w fun e w' =>
      (∃ g c ys, e = .returned (.slice (some ⟨g, 0, none⟩) (k + p) c) ∧ k + p ≤ c ∧ w.heap.size ≤ g ∧ Row w' g 48 (bytes (grid (k + p) (wholeT f k p 0)) ++ ys)) ∧ Below w.heap.size w w' := by
  have hgl : gl < w.heap.size := by
    simp only [World.cell?] at c0
    by_cases h : gl < w.heap.size
    · exact h
    · rw [Array.getElem?_eq_none (by omega)] at c0
      cases c0
  have HGL := Lib.hid hgl
  have HGET : Hid (∀ j, j < 2 → ∃ q y c news, w.cell? ⟨gl, j, none⟩ = some (.slice q y c) ∧ Lies w w.heap.size q (bytes news) ∧ news.length = y * 60 ∧ 0 < y ∧ y ≤ 1000 ∧ cumF k p (j + 1) = cumF k p j + y ∧ catF f k p (j + 1) = catF f k p j ++ news) := Lib.hid fun j hj => by
    match j, hj with
    | 0, _ =>
      refine ⟨a, k, capa, grid k f, c0, hra, grid_length _ _, hk, hk2, by simp [cumF], ?_⟩
      show grid k (wholeT f k p 0) = [] ++ grid k f
      rw [List.nil_append]
      exact grid_congr fun i hi b _ => wholeT_data f k p 0 i b hi
    | 1, _ =>
      refine ⟨_, p, capz, List.replicate (p * 60) 0, c1, ?_, List.length_replicate, hp, hp2, by simp [cumF], ?_⟩
      · intro _
        refine ⟨gz, 0, rfl, hrz.lt, fun j u hu => ?_⟩
        rw [Nat.zero_add, hrz.cell]
        rw [bytes_rep] at hu
        exact hu
      · show grid (k + p) (wholeT f k p 0) = grid k (wholeT f k p 0) ++ _
        rw [← grid_start, grid_congr (g := f) (f := wholeT f k p 0) fun i hi b _ => wholeT_data f k p 0 i b hi]
  have HG := Lib.hid (str_grow_nil (k + p) w (by omega) (by omega))
  have H0 : Hid (cumF k p 0 = 0) := Lib.hid rfl
  have HC0 : Hid (catF f k p 0 = []) := Lib.hid rfl
  have H2 : Hid (cumF k p 2 = k + p) := Lib.hid rfl
  have HC2 : Hid (catF f k p 2 = grid (k + p) (wholeT f k p 0)) := Lib.hid rfl
  have HLE : Hid (∀ j, cumF k p j ≤ 2000) := Lib.hid fun j => by unfold cumF; split; omega; split <;> omega
  have HFL : Hid (0 < k + p) := Lib.hid (by omega)
  rw [← HC2.out]
  obtain ⟨M, hM⟩ : ∃ M, k + p = M := ⟨_, rfl⟩
  rw [hM] at HG H2 HFL ⊢
  generalize cumF k p = cum at *
  generalize catF f k p = catl at *
  clear hM c0 c1 hra hrz hk hk2 hp hp2 HC2 hgl
  go_enter Tryz.func46, Tryz.ntmps46
  go_wp2
  go_loop [3, 11] (fun s i => ∃ j : Nat, j ≤ 2 ∧ i = .int .i64 j ∧ s = .int .i64 ((cum j : Nat) : Int)) (fun _ i => 2 - (intOf i).toNat)
  case atStart => exact ⟨0, Nat.zero_le _, rfl, by rw [H0.out]; rfl⟩
  case round =>
    obtain ⟨j, hj, rfl, rfl⟩ := hrel
    by_cases hlt : j < 2
    · have hk1 : (j : Int) < 2 := by omega
      obtain ⟨q, y, c, news, hcell, _, _, hy0, hy1, hcum, _⟩ := HGET.out j hlt
      have hb1 := HLE.out (j + 1)
      obtain ⟨x, hx⟩ : ∃ x, cum j = x := ⟨_, rfl⟩
      rw [hx] at hcum ⊢
      obtain ⟨t, ht2⟩ : ∃ t, x + y = t := ⟨_, rfl⟩
      rw [ht2] at hcum
      have hxy : ((x : Int) + (y : Int)) = (t : Int) := by omega
      have hxy0 : ¬ (t : Int) < 0 := by omega
      have hxyw : IntKind.i64.wrap (t : Int) = (t : Int) := by rw [IntKind.wrap_i64]; omega
      have HS2 := Lib.hid hcum
      clear hcum hb1 hx ht2 hy0 hy1
      go_wp2
      go_round
      case rel => exact ⟨j + 1, by omega, by go_num, by rw [HS2.out]⟩
      case measure => simp [intOf]; omega
    · have HJ : Hid (cum j = M) := Lib.hid (by rw [show j = 2 by omega, H2.out])
      have hj2 : ¬ (j : Int) < 2 := by omega
      rw [HJ.out]
      go_wp2_with (go_at_call 70; (with_reducible refine HG.out.mono ?_); rintro e w1 ⟨⟨c1, rfl, o1⟩, b1⟩; have O1 := Lib.hid o1; have B1 := Lib.hid b1; clear o1 b1)
      go_loopw [6, 27] (fun v i wr => ∃ q : Nat, q ≤ 2 ∧ i = .int .i64 q ∧ wr.ownsRow w.heap.size 48 60 v (cum q) (bytes (catl q)) ∧ Below w.heap.size w wr) (fun _ i _ => 2 - (intOf i).toNat)
      case atStart => exact ⟨0, Nat.zero_le _, rfl, by rw [H0.out, HC0.out]; exact O1.out, B1.out⟩
      case round =>
        clear O1 B1
        obtain ⟨z, hz, rfl, hown, hbw⟩ := hrel
        obtain ⟨av, cv, rfl, hlv⟩ := own_formM hown
        clear hlv
        by_cases hlt : z < 2
        · have hk1 : (z : Int) < 2 := by omega
          obtain ⟨q, y, c, news, hc1, hql, hnl, hy0, hy1, hcum, hcat⟩ := HGET.out z hlt
          have hcell : wr.cell? ⟨gl, z, none⟩ = some (.slice q y c) := (hbw.cell (p := ⟨gl, z, none⟩) HGL.out).trans hc1
          have hb1 := HLE.out z
          have HQL := Lib.hid ((hql.below hbw).mono hbw.size)
          have HNL : Hid ((bytes news).length = y * 60) := Lib.hid (by rw [bytes_length, hnl])
          have HU1 : Hid ((bytes news).all (·.oneCell') = true) := Lib.hid (bytes_oneC news)
          have HCAT : Hid (bytes (catl (z + 1)) = bytes (catl z) ++ bytes news) := Lib.hid (by rw [hcat, bytes_append])
          obtain ⟨x, hx⟩ : ∃ x, cum z = x := ⟨_, rfl⟩
          rw [hx] at hown hb1 hcum ⊢
          have HBG : Big (x + y ≤ 1099511627776) := ⟨by omega⟩
          have HCUM := Lib.hid hcum
          have HSZ : Hid (w.heap.size ≤ wr.heap.size) := Lib.hid hbw.size
          have HOWN := Lib.hid hown
          have HBW := Lib.hid hbw
          have HPO : Hid (0 < y) := Lib.hid hy0
          have HP60 : Hid (0 < 60) := Lib.hid (by omega)
          have HOL : Hid (∀ j, (Value.slice av x cv).ownBlock = some j → w.heap.size ≤ j) := Lib.hid fun j hj => by
            rcases HOWN.out.2 with ⟨h1, _⟩ | ⟨g', cap', cur, h1, h2, _⟩
            · rw [h1] at hj; cases hj
            · rw [h1] at hj; cases hj; exact h2
          generalize bytes news = NW at HQL HNL HU1 HCAT
          clear hcum hcat hown hbw hql hnl hy0 hy1 hb1 hx hc1
          go_wp2_with ((with_reducible refine wpAppendM c HOWN.out Tryz.underlying24 many_block HQL.out HNL.out HPO.out HP60.out HU1.out HBG HSZ.out ?_ ?_); rfl; intro v1 w2 g1 g2 g3; have G1 := Lib.hid g1; have G2 := Lib.hid g2; clear g1 g2 g3)
          go_roundw
          case rel => exact ⟨z + 1, by omega, by go_num, by rw [HCUM.out, HCAT.out]; exact G1.out, HBW.out.grown G2.out HBW.out.size HOL.out⟩
          case measure => simp [intOf]; omega
        · have HZ : Hid (z = 2) := Lib.hid (by omega)
          rw [show z = 2 by omega, H2.out] at hown
          rw [show z = 2 by omega, H2.out]
          have hform : ∃ g c2, Value.slice av M cv = .slice (some ⟨g, 0, none⟩) M c2 ∧ M ≤ c2 := by
            rcases hown.2 with ⟨_, h2⟩ | ⟨g', cap', cur, h2, h3, _, h5, _⟩
            · have := HFL.out; omega
            · exact ⟨g', cap', h2, h5⟩
          obtain ⟨g, c2, hv, hg⟩ := hform
          rw [hv] at hown ⊢
          have HOWN := Lib.hid (own_rowM hown)
          have HBW := Lib.hid hbw
          have HGC := Lib.hid hg
          clear hown hbw hv hg hz hlt
          go_wp2
          go_ret
          obtain ⟨h1, ys, h2⟩ := HOWN.out
          exact ⟨⟨g, c2, ys, rfl, HGC.out, h1, h2⟩, HBW.out⟩
end Go.Proofs.YtnbjaijhdjneoaaGreat

namespace Go.Proofs.YtnbjaijhdjneoaaGreat
open Go.RowKit CrcMath GfMath PolyMath RsMath SolMath GeoMath
set_option linter.unusedVariables false
set_option maxRecDepth 100000

def cdrL (cc k p s sb : Nat) : List Value := [.pointer (some ⟨cc, 0, none⟩), .int .i64 (k : Int), .int .i64 (p : Int), .int .i64 (s : Int), .pointer (some ⟨sb, 0, none⟩)]
/-- A coder that New made: k data blocks, p parity ones, s stripes. -/
structure Cdr (w : World) (c cc b sb k p s : Nat) : Prop where
  k1 : 1 ≤ k
  k8 : k ≤ 8
  p2 : 2 ≤ p
  p6 : p ≤ 6
  row : Row w c 62 (cdrL cc k p s sb)
  cod : Cod w cc b k p
  smr : Smr (.pointer (some ⟨sb, 0, none⟩)) w
theorem Cdr.step {w w' : World} {c cc b sb k p s : Nat} (h : Cdr w c cc b sb k p s) (hb : Below w.heap.size w w') : Cdr w' c cc b sb k p s :=
  ⟨h.k1, h.k8, h.p2, h.p6, h.row.step hb, h.cod.step hb, Smr.monot _ _ _ h.smr hb⟩
theorem Cdr.c0 {w : World} {c cc b sb k p s : Nat} (h : Cdr w c cc b sb k p s) : w.cell? ⟨c, 0, none⟩ = some (.pointer (some ⟨cc, 0, none⟩)) := by rw [h.row.cell]; rfl
theorem Cdr.c4 {w : World} {c cc b sb k p s : Nat} (h : Cdr w c cc b sb k p s) : w.cell? ⟨c, 4, none⟩ = some (.pointer (some ⟨sb, 0, none⟩)) := by rw [h.row.cell]; rfl
theorem Cdr.lt {w : World} {c cc b sb k p s : Nat} (h : Cdr w c cc b sb k p s) : c < w.heap.size := h.row.lt
theorem Cdr.over {w : World} {c cc b sb k p s : Nat} (h : Cdr w c cc b sb k p s) : Calls Tryz.prog 44 #[.pointer (some ⟨cc, 0, none⟩)] w fun e w' => e = .returned (.pointer (some ⟨b, 0, none⟩)) ∧ Below w.heap.size w w' := by
  obtain ⟨a, cap, h1, _⟩ := h.cod.cor
  exact (rs_over_any cc b k p _ w h1).mono fun e w' ⟨h1, h2⟩ => ⟨h1, h2 ▸ Below.refl _ _⟩
theorem Cdr.size {w : World} {c cc b sb k p s : Nat} (h : Cdr w c cc b sb k p s) : Calls Tryz.prog 45 #[.pointer (some ⟨cc, 0, none⟩)] w fun e w' => e = .returned (.tuple #[.int .i64 ((k + p : Nat) : Int), .int .i64 (k : Int)]) ∧ Below w.heap.size w w' := by
  obtain ⟨a, cap, h1, _⟩ := h.cod.cor
  exact rs_size_any cc b k p _ w h1

theorem str_none_any (c cc b sb k p s : Nat) (w : World) (h : Cdr w c cc b sb k p s) : Calls Tryz.prog 20 #[.pointer (some ⟨c, 0, none⟩)] w fun e w' => e = .returned (.bool false) ∧ Below w.heap.size w w' := by
  have HO := Lib.hid h.over
  have c0 := h.c0
  clear h
  go_enter Tryz.func20, Tryz.ntmps20
  go_wp2_with (go_at_call 44; (with_reducible refine HO.out.mono ?_); rintro e w1 ⟨rfl, b1⟩; have B1 := Lib.hid b1; clear b1)
  go_ret
  exact ⟨rfl, B1.out⟩
theorem str_wide_any (c cc b sb k p s : Nat) (w : World) (h : Cdr w c cc b sb k p s) : Calls Tryz.prog 22 #[.pointer (some ⟨c, 0, none⟩)] w fun e w' => e = .returned (.int .i64 ((k + p : Nat) : Int)) ∧ Below w.heap.size w w' := by
  have HO := Lib.hid h.size
  have c0 := h.c0
  obtain ⟨n, hn⟩ : ∃ n, k + p = n := ⟨_, rfl⟩
  rw [hn] at HO ⊢
  clear h hn
  go_enter Tryz.func22, Tryz.ntmps22
  go_wp2_with (go_at_call 45; (with_reducible refine HO.out.mono ?_); rintro e w1 ⟨rfl, b1⟩; have B1 := Lib.hid b1; clear b1)
  go_ret
  exact ⟨rfl, B1.out⟩
theorem str_data_any (c cc b sb k p s : Nat) (w : World) (h : Cdr w c cc b sb k p s) : Calls Tryz.prog 21 #[.pointer (some ⟨c, 0, none⟩)] w fun e w' => e = .returned (.int .i64 (k : Int)) ∧ Below w.heap.size w w' := by
  have HO := Lib.hid h.size
  have c0 := h.c0
  obtain ⟨n, hn⟩ : ∃ n, k + p = n := ⟨_, rfl⟩
  rw [hn] at HO
  clear h hn
  go_enter Tryz.func21, Tryz.ntmps21
  go_wp2_with (go_at_call 45; (with_reducible refine HO.out.mono ?_); rintro e w1 ⟨rfl, b1⟩; have B1 := Lib.hid b1; clear b1)
  go_ret
  exact ⟨rfl, B1.out⟩

/-- A geometry of these sizes. -/
def gmN (k p s : Nat) : Gm := ⟨k, p, s⟩
end Go.Proofs.YtnbjaijhdjneoaaGreat

namespace Go.Proofs.YtnbjaijhdjneoaaGreat
open Go.RowKit CrcMath GfMath PolyMath RsMath SolMath GeoMath
set_option linter.unusedVariables false
set_option maxRecDepth 100000

/-- A new list of n bytes. -/
def Nbs (B n : Nat) (l : List Nat) : Value → World → Prop := fun v w => ∃ g, v = .slice (some ⟨g, 0, none⟩) n n ∧ B ≤ g ∧ Row w g 5 (u8s l)
theorem Nbs.monot (B n : Nat) (l : List Nat) : Monot (Nbs B n l) := fun _ _ _ ⟨g, h1, h2, h3⟩ hb => ⟨g, h1, h2, h3.step hb⟩
/-- The same, and no error. -/
def Ptp (B n : Nat) (l : List Nat) : Value → World → Prop := fun v w => ∃ g, v = .tuple #[.slice (some ⟨g, 0, none⟩) n n, .int .i64 0] ∧ B ≤ g ∧ Row w g 5 (u8s l)
theorem Ptp.monot (B n : Nat) (l : List Nat) : Monot (Ptp B n l) := fun _ _ _ ⟨g, h1, h2, h3⟩ hb => ⟨g, h1, h2, h3.step hb⟩
theorem laid_pair (u : World) (x y : Value) (T : TypeId) : (u.alloc (.cells #[x, y] T)).cell? ⟨u.heap.size, 0, none⟩ = some x ∧ (u.alloc (.cells #[x, y] T)).cell? ⟨u.heap.size, 1, none⟩ = some y := by
  have h := Row.new u T [x, y]
  exact ⟨h.cell 0, h.cell 1⟩

set_option maxHeartbeats 1000000 in
theorem str_whole_any (c cc b sb k p s : Nat) (a : Option Addr) (cap : Nat) (f : Fb) (w : World) (h : Cdr w c cc b sb k p s) (hr : Lies w w.heap.size a (bytes (grid k f))) :
    Calls Tryz.prog 23 #[.pointer (some ⟨c, 0, none⟩), .slice a k cap] w fun e w' =>
      (∃ g c2 ys, e = .returned (.slice (some ⟨g, 0, none⟩) (k + p) c2) ∧ k + p ≤ c2 ∧ w.heap.size ≤ g ∧ Row w' g 48 (bytes (grid (k + p) (wholeF f k p)) ++ ys)) ∧ Below w.heap.size w w' := by
  have HWI : Hid (∀ u, Below w.heap.size w u → Calls Tryz.prog 22 #[.pointer (some ⟨c, 0, none⟩)] u fun e w' => e = .returned (.int .i64 ((k + p : Nat) : Int)) ∧ Below u.heap.size u w') := Lib.hid fun u hu => str_wide_any c cc b sb k p s u (h.step hu)
  have HDA : Hid (∀ u, Below w.heap.size w u → Calls Tryz.prog 21 #[.pointer (some ⟨c, 0, none⟩)] u fun e w' => e = .returned (.int .i64 (k : Int)) ∧ Below u.heap.size u w') := Lib.hid fun u hu => str_data_any c cc b sb k p s u (h.step hu)
  have HCC : Hid (∀ u gz, Below w.heap.size w u → Row u gz 48 (List.replicate (p * 60) (.int .u8 0)) → Calls Tryz.prog 46 #[.slice (some ⟨u.heap.size, 0, none⟩) 2 2] (u.alloc (.cells #[.slice a k cap, .slice (some ⟨gz, 0, none⟩) p p] 24)) fun e w' =>
      (∃ g c ys, e = .returned (.slice (some ⟨g, 0, none⟩) (k + p) c) ∧ k + p ≤ c ∧ w.heap.size ≤ g ∧ Row w' g 48 (bytes (grid (k + p) (wholeT f k p 0)) ++ ys)) ∧ Below w.heap.size w w') := Lib.hid fun u gz hu hz => by
    have hb1 := alloc_below u (.cells #[.slice a k cap, .slice (some ⟨gz, 0, none⟩) p p] 24)
    obtain ⟨q0, q1⟩ := laid_pair u (.slice a k cap) (.slice (some ⟨gz, 0, none⟩) p p) 24
    have h2 := hu.next hb1
    refine (str_concat u.heap.size gz a cap p k p f _ (by have := h.k1; omega) (by have := h.k8; omega) (by have := h.p2; omega) (by have := h.p6; omega) q0 q1 ((hr.below h2).mono h2.size) (hz.step hb1)).mono ?_
    rintro e w' ⟨⟨g, c2, ys, e1, e2, e3, e4⟩, e5⟩
    exact ⟨⟨g, c2, ys, e1, e2, Nat.le_trans h2.size e3, e4⟩, h2.next e5⟩
  have HWO0 : Hid (∀ (t : Nat) wx, t < 60 → Below w.heap.size w wx → Calls Tryz.prog 48 #[.slice a k cap, .int .i64 (t : Int)] wx fun e w' => (∃ g, e = .returned (.slice (some ⟨g, 0, none⟩) k k) ∧ wx.heap.size ≤ g ∧ Row w' g 5 (u8s (colF f k t))) ∧ Below wx.heap.size wx w') := Lib.hid fun t wx ht hb => str_word_any a cap k f t wx (by have := h.k8; omega) ht ((hr.below hb).mono hb.size)
  have HPA0 : Hid (∀ wx, Below w.heap.size w wx → ∀ g X, X.length = k → By X → Row wx g 5 (u8s X) → Calls Tryz.prog 47 #[.pointer (some ⟨cc, 0, none⟩), .slice (some ⟨g, 0, none⟩) k k] wx fun e w' =>
      (∃ g, e = .returned (.tuple #[.slice (some ⟨g, 0, none⟩) p p, .int .i64 0]) ∧ wx.heap.size ≤ g ∧ Row w' g 5 (u8s (parity X p))) ∧ Below wx.heap.size wx w') := Lib.hid fun wx hb g X h1 h2 h3 => par_any cc b k p (some ⟨g, 0, none⟩) k X wx (h.step hb).cod h1 h2 (by omega) (row_lies h3)
  have HC := Lib.hid h
  have HI := Lib.hid info_block
  have HI2 := Lib.hid info_block2
  have HP0 : Hid (0 < 60) := Lib.hid (by omega)
  have HPM : Hid (p ≤ 1000000) := Lib.hid (by have := h.p6; omega)
  have hk1 := h.k1
  have hk8 := h.k8
  have hp2 := h.p2
  have hp6 := h.p6
  obtain ⟨n, hn⟩ : ∃ n, k + p = n := ⟨_, rfl⟩
  have HNN := Lib.hid hn
  rw [hn] at HWI HCC ⊢
  have hkp : (n : Int) - (k : Int) = (p : Int) := by omega
  have hpw : IntKind.i64.wrap (p : Int) = (p : Int) := by rw [IntKind.wrap_i64]; omega
  have hki : (k : Int) ≤ 8 := by omega
  have hni : (n : Int) ≤ 14 := by omega
  have hkn : (k : Int) < (n : Int) := by omega
  clear h hr hn hk1 hk8 hp2 hp6
  go_enter Tryz.func23, Tryz.ntmps23
  go_wp2_with (first
    | (go_at_call 22; (with_reducible refine (HWI.out w (Below.refl _ _)).mono ?_); rintro e u1 ⟨rfl, b1⟩; have B1 := Lib.hid b1; clear b1)
    | (go_at_call 21; (with_reducible refine (HDA.out u1 B1.out).mono ?_); rintro e u2 ⟨rfl, b2⟩; have B2 := Lib.hid (B1.out.next b2); clear b2)
    | ((with_reducible refine wpMakeS 24 48 (.int .u8 0) 60 p Tryz.underlying24 HI.out HI2.out HP0.out HPM.out ?_ ?_); rfl; intro u3 r3 b3 s3; have R3 := Lib.hid r3; have B3 := Lib.hid (B2.out.next b3); clear r3 b3 s3)
    | (go_at_call 46; (with_reducible refine (HCC.out u3 _ B3.out R3.out).mono ?_); rintro e u4 ⟨⟨g, c2, ys, rfl, q4, g4, r4⟩, b4⟩; have HC2 := Lib.hid q4; have HGW := Lib.hid g4; have R4 := Lib.hid r4; have B4 := Lib.hid b4; clear q4 g4 r4 b4))
  clear HCC HWI HDA B1 B2 R3 B3
  have hcap : (n : Int) ≤ (c2 : Int) := by have := HC2.out; omega
  go_loopw [18] (fun i wr => ∃ t : Nat, t ≤ 60 ∧ i = .int .i64 t ∧ Row wr g 48 (bytes (grid n (wholeT f k p t)) ++ ys) ∧ Below w.heap.size w wr) (fun i _ => 60 - (intOf i).toNat)
  case atStart => exact ⟨0, by omega, rfl, R4.out, B4.out⟩
  case round =>
  clear R4 B4
  obtain ⟨t, ht, rfl, hrow, hbw⟩ := hrel
  by_cases hlt : t < 60
  · have hti : (t : Int) < 60 := by omega
    have C0 := Lib.hid ((HC.out.step hbw).c0)
    have HLT := Lib.hid ((HC.out.step hbw).lt)
    have hX8 := colF_by f k t
    have hXl := colF_length f k t
    have hnx := grid_next f k p t
    rw [HNN.out] at hnx
    have HYL := Lib.hid (parity_length _ hX8 p)
    have HY8 := Lib.hid (parity_by _ hX8 p)
    have HWO1 := Lib.hid (HWO0.out t)
    obtain ⟨X, hX⟩ : ∃ X, colF f k t = X := ⟨_, rfl⟩
    rw [hX] at hnx hX8 hXl HYL HY8 HWO1
    have HPA1 : Hid (∀ wx, Below w.heap.size w wx → ∀ g, Row wx g 5 (u8s X) → Calls Tryz.prog 47 #[.pointer (some ⟨cc, 0, none⟩), .slice (some ⟨g, 0, none⟩) k k] wx fun e w' =>
      (∃ g, e = .returned (.tuple #[.slice (some ⟨g, 0, none⟩) p p, .int .i64 0]) ∧ wx.heap.size ≤ g ∧ Row w' g 5 (u8s (parity X p))) ∧ Below wx.heap.size wx w') := Lib.hid fun wx h1 g h2 => HPA0.out wx h1 g X hXl hX8 h2
    obtain ⟨Y, hY⟩ : ∃ Y, parity X p = Y := ⟨_, rfl⟩
    rw [hY] at hnx HYL HY8 HPA1
    have HWO : Hid (∀ wx, Below wr.heap.size wr wx → Calls Tryz.prog 48 #[.slice a k cap, .int .i64 (t : Int)] wx fun e w' => (∃ v, e = .returned v ∧ Nbs wr.heap.size k X v w') ∧ Below wx.heap.size wx w') := Lib.hid fun wx hb => (HWO1.out wx hlt (hbw.next hb)).mono fun e w' ⟨⟨g, h1, h2, h3⟩, h4⟩ => ⟨⟨_, h1, g, rfl, Nat.le_trans hb.size h2, h3⟩, h4⟩
    have HPA : Hid (∀ wx, Below wr.heap.size wr wx → ∀ v, Nbs wr.heap.size k X v wx → Calls Tryz.prog 47 #[.pointer (some ⟨cc, 0, none⟩), v] wx fun e w' => (∃ v, e = .returned v ∧ Ptp wr.heap.size p Y v w') ∧ Below wx.heap.size wx w') := Lib.hid fun wx hb v ⟨g, e1, e2, e3⟩ => by
      subst e1
      exact (HPA1.out wx (hbw.next hb) g e3).mono fun e w' ⟨⟨g, h1, h2, h3⟩, h4⟩ => ⟨⟨_, h1, g, rfl, Nat.le_trans hb.size h2, h3⟩, h4⟩
    have HLA : Hid (∀ u g5, g5 ≠ g → Row u g 48 (bytes (grid n (wholeT f k p t)) ++ ys) → Lies u u.heap.size (some ⟨g5, 0, none⟩) (u8s Y) → Calls Tryz.prog 49 #[.slice (some ⟨g, k * 60, none⟩) (n - k) (c2 - k), .int .i64 (t : Int), .slice (some ⟨g5, 0, none⟩) p p] u fun e w' => e = .returned (.tuple #[]) ∧ Row w' g 48 (bytes (grid n (wholeT f k p (t + 1))) ++ ys) ∧ Only g u w') := Lib.hid fun u g5 h1 h2 h3 => by
      have := str_lay_any g k p (c2 - k) n _ (wholeT f k p t) ys t g5 0 p Y u (by have := HPM.out; omega) (by have := HNN.out; omega) hlt HY8.out HYL.out h1 h2 h3
      rw [hnx] at this
      rw [show n - k = p by have := HNN.out; omega]
      exact this
    have HROW := Lib.hid hrow
    have HBW := Lib.hid hbw
    clear hrow hbw hlt hX8 hXl hnx hX hY HWO1 HPA1
    go_wp2
    refine region_invX [(0, 22), (1, 23), (2, 24), (3, 25), (4, 26), (5, 27), (6, 28), (7, 29), (8, 21), (9, 30), (10, 31), (11, 7), (12, 8)]
      (fun ii => [Is (.pointer (some ⟨c, 0, none⟩)), Is (.pointer (some ⟨c, 0, none⟩)), Is (.pointer (some ⟨c, 0, none⟩)), Is (.pointer (some ⟨cc, 0, none⟩)), Is (.slice a k cap), Is (.int .i64 (t : Int)), Nbs wr.heap.size k X, Ptp wr.heap.size p Y, Ptp wr.heap.size p Y, Nbs wr.heap.size p Y, Is (.int .i64 0), Nbs wr.heap.size p Y, Is (.int .i64 0)].getD ii (Is undef))
      (fun w' => Below wr.heap.size wr w') (by kernel_rfl) (by kernel_rfl) (by decide) (by decide) (by kernel_rfl) rfl ?monoa ((Below.refl _ _).drew) ?stepa ?fina
    case monoa =>
      intro i
      match i with
      | 0 | 1 | 2 | 3 | 4 | 5 | 10 | 12 => exact Is.monot _
      | 6 | 9 | 11 => exact Nbs.monot _ _ _
      | 7 | 8 => exact Ptp.monot _ _ _
      | _ + 13 => exact Is.monot _
    case stepa =>
      refine List.forall_mem_cons.2 ⟨?as0, List.forall_mem_cons.2 ⟨?as1, List.forall_mem_cons.2 ⟨?as2, List.forall_mem_cons.2 ⟨?as3, List.forall_mem_cons.2 ⟨?as4, List.forall_mem_cons.2 ⟨?as5, List.forall_mem_cons.2 ⟨?as6, List.forall_mem_cons.2 ⟨?as7, List.forall_mem_cons.2 ⟨?as8, List.forall_mem_cons.2 ⟨?as9, List.forall_mem_cons.2 ⟨?as10, List.forall_mem_cons.2 ⟨?as11, List.forall_mem_cons.2 ⟨?as12, List.forall_mem_nil _⟩⟩⟩⟩⟩⟩⟩⟩⟩⟩⟩⟩⟩
      case as0 =>
        intro u wx hg hC
        clear hC
        refine wpOp_step rfl (fun K hK => ?_)
        simp only [puts, List.foldl]
        go_simp
        exact hK _ _ ⟨rfl, rfl, hg, Below.refl _ _⟩
      case as1 =>
        intro u wx hg hC
        have hJ0 : u 0 = (.pointer (some ⟨c, 0, none⟩)) := hC.at 0 (by kernel_rfl)
        clear hC
        refine wpOp_step rfl (fun K hK => ?_)
        simp only [puts, List.foldl]
        go_simp
        exact hK _ _ ⟨rfl, rfl, hg, Below.refl _ _⟩
      case as2 =>
        intro u wx hg hC
        have hJ1 : u 1 = (.pointer (some ⟨c, 0, none⟩)) := hC.at 1 (by kernel_rfl)
        clear hC
        refine wpOp_step rfl (fun K hK => ?_)
        simp only [puts, List.foldl]
        go_simp
        exact hK _ _ ⟨rfl, rfl, hg, Below.refl _ _⟩
      case as3 =>
        intro u wx hg hC
        have hJ2 : u 2 = (.pointer (some ⟨c, 0, none⟩)) := hC.at 2 (by kernel_rfl)
        clear hC
        have hcl : wx.cell? ⟨c, 0, none⟩ = some (.pointer (some ⟨cc, 0, none⟩)) := (hg.cell (p := ⟨c, 0, none⟩) HLT.out).trans C0.out
        refine wpOp_step rfl (fun K hK => ?_)
        simp only [puts, List.foldl]
        go_simp
        exact hK _ _ ⟨rfl, rfl, hg, Below.refl _ _⟩
      case as4 =>
        intro u wx hg hC
        clear hC
        refine wpOp_step rfl (fun K hK => ?_)
        simp only [puts, List.foldl]
        go_simp
        exact hK _ _ ⟨rfl, rfl, hg, Below.refl _ _⟩
      case as5 =>
        intro u wx hg hC
        clear hC
        refine wpOp_step rfl (fun K hK => ?_)
        simp only [puts, List.foldl]
        go_simp
        exact hK _ _ ⟨rfl, rfl, hg, Below.refl _ _⟩
      case as6 =>
        intro u wx hg hC
        have hJ4 : u 4 = (.slice a k cap) := hC.at 4 (by kernel_rfl)
        have hJ5 : u 5 = (.int .i64 (t : Int)) := hC.at 5 (by kernel_rfl)
        clear hC
        refine wpOp_step rfl (fun K hK => ?_)
        simp only [puts, List.foldl]
        go_simp
        refine (HWO.out wx hg).mono ?_
        rintro e w' ⟨⟨v, rfl, hv⟩, hb'⟩
        exact hK _ _ ⟨rfl, hv, hg.next hb', hb'⟩
      case as7 =>
        intro u wx hg hC
        have hJ3 : u 3 = (.pointer (some ⟨cc, 0, none⟩)) := hC.at 3 (by kernel_rfl)
        have hJ6 : (Nbs wr.heap.size k X) (u 6) wx := hC.at 6 (by kernel_rfl)
        clear hC
        refine wpOp_step rfl (fun K hK => ?_)
        simp only [puts, List.foldl]
        go_simp
        refine (HPA.out wx hg _ hJ6).mono ?_
        rintro e w' ⟨⟨v, rfl, hv⟩, hb'⟩
        exact hK _ _ ⟨rfl, hv, hg.next hb', hb'⟩
      case as8 =>
        intro u wx hg hC
        have hJ7 : (Ptp wr.heap.size p Y) (u 7) wx := hC.at 7 (by kernel_rfl)
        clear hC
        refine wpOp_step rfl (fun K hK => ?_)
        simp only [puts, List.foldl]
        go_simp
        exact hK _ _ ⟨rfl, hJ7, hg, Below.refl _ _⟩
      case as9 =>
        intro u wx hg hC
        have hJ8 : (Ptp wr.heap.size p Y) (u 8) wx := hC.at 8 (by kernel_rfl)
        clear hC
        obtain ⟨g9, e9, q9, r9⟩ := hJ8
        refine wpOp_step rfl (fun K hK => ?_)
        simp only [puts, List.foldl]
        go_simp
        exact hK _ _ ⟨rfl, ⟨g9, rfl, q9, r9⟩, hg, Below.refl _ _⟩
      case as10 =>
        intro u wx hg hC
        have hJ8 : (Ptp wr.heap.size p Y) (u 8) wx := hC.at 8 (by kernel_rfl)
        clear hC
        obtain ⟨g9, e9, q9, r9⟩ := hJ8
        refine wpOp_step rfl (fun K hK => ?_)
        simp only [puts, List.foldl]
        go_simp
        exact hK _ _ ⟨rfl, rfl, hg, Below.refl _ _⟩
      case as11 =>
        intro u wx hg hC
        have hJ9 : (Nbs wr.heap.size p Y) (u 9) wx := hC.at 9 (by kernel_rfl)
        clear hC
        refine wpOp_step rfl (fun K hK => ?_)
        simp only [puts, List.foldl]
        go_simp
        exact hK _ _ ⟨rfl, hJ9, hg, Below.refl _ _⟩
      case as12 =>
        intro u wx hg hC
        have hJ10 : u 10 = (.int .i64 0) := hC.at 10 (by kernel_rfl)
        clear hC
        refine wpOp_step rfl (fun K hK => ?_)
        simp only [puts, List.foldl]
        go_simp
        exact hK _ _ ⟨rfl, rfl, hg, Below.refl _ _⟩
    case fina =>
      intro u w4 hb4 hφ
      obtain ⟨g5, e5, q5, r5⟩ : Nbs wr.heap.size p Y (u 11) w4 := hφ (11, 7) (by decide)
      clear hφ
      simp only [puts, List.foldl]
      rw [e5]
      go_simp
      have R5 := Lib.hid r5
      have Q5 := Lib.hid q5
      have HB4 := Lib.hid (HBW.out.next hb4)
      have RW4 := Lib.hid (HROW.out.step hb4)
      have NE5 : Hid (g5 ≠ g) := Lib.hid (by have := HROW.out.lt; have := Q5.out; omega)
      clear r5 q5 hb4 e5
      go_wp2_with (go_at_call 49; (with_reducible refine (HLA.out w4 g5 NE5.out RW4.out (row_lies R5.out)).mono ?_); rintro e w5 ⟨rfl, r6, o6⟩; have R6 := Lib.hid r6; have B6 : Hid (Below w.heap.size w w5) := Lib.hid (HB4.out.trans (o6.below HGW.out HB4.out.size)); clear r6 o6)
      go_roundw
      case rel => exact ⟨t + 1, by omega, by go_num, R6.out, B6.out⟩
      case measure => simp [intOf]; omega
  · obtain rfl : t = 60 := by omega
    have HROW := Lib.hid hrow
    have HBW := Lib.hid hbw
    clear hrow hbw
    go_wp2
    go_ret
    exact ⟨⟨g, c2, ys, rfl, HC2.out, HGW.out, HROW.out⟩, HBW.out⟩
end Go.Proofs.YtnbjaijhdjneoaaGreat

namespace Go.Proofs.YtnbjaijhdjneoaaGreat
open Go.RowKit CrcMath GfMath PolyMath RsMath SolMath GeoMath
set_option linter.unusedVariables false
set_option maxRecDepth 100000

def idxF (l : List Nat) (i : Nat) : Int := if i ∈ l then ((l.findIdx fun x => decide (x = i) : Nat) : Int) else -1
theorem idxF_at {l : List Nat} {i k : Nat} (hk : k < l.length) (h : ∀ j, j < k → sq l j ≠ i) (e : sq l k = i) : idxF l i = (k : Int) := by
  have hm : i ∈ l := by rw [← e, sq_get l k hk]; exact List.getElem_mem hk
  have : l.findIdx (fun x => decide (x = i)) = k := by
    rw [List.findIdx_eq hk]
    refine ⟨by rw [← sq_get l k hk, e]; simp, fun j hj => ?_⟩
    have := h j hj
    rw [sq_get l j (by omega)] at this
    simpa using this
  rw [idxF, if_pos hm, this]
theorem idxF_no {l : List Nat} {i : Nat} (h : ∀ j, j < l.length → sq l j ≠ i) : idxF l i = -1 := by
  refine if_neg fun hm => ?_
  obtain ⟨j, hj, e⟩ := List.getElem_of_mem hm
  exact h j hj (by rw [sq_get l j hj, e])
theorem str_index_any (a : Option Addr) (cap : Nat) (l : List Nat) (i : Nat) (w : World) (hl : l.length ≤ 140737488355328) (hr : Lies w w.heap.size a (nats l)) :
    Calls Tryz.prog 80 #[.slice a l.length cap, .int .i64 (i : Int)] w fun e w' => e = .returned (.int .i64 (idxF l i)) ∧ w = w' := by
  go_enter Tryz.func80, Tryz.ntmps80
  go_wp2
  go_loop [8] (fun x => ∃ k : Nat, k ≤ l.length ∧ x = .int .i64 k ∧ ∀ j, j < k → sq l j ≠ i) (fun x => l.length - (intOf x).toNat)
  case atStart => exact ⟨0, Nat.zero_le _, rfl, fun j hj => absurd hj (by omega)⟩
  case round =>
    obtain ⟨k, hk, rfl, hz⟩ := hrel
    have HZ := Lib.hid hz
    clear hz
    by_cases hlt : k < l.length
    · obtain ⟨b2, off, rfl, hbb, hc⟩ := hr (by rw [nats_length]; omega)
      have hcell : w.cell? ⟨b2, off + k, none⟩ = some (.int .i64 (sq l k : Int)) := by rw [sq_get l k hlt]; exact hc k _ (nats_get l k hlt)
      obtain ⟨x, hx⟩ : ∃ x, sq l k = x := ⟨_, rfl⟩
      rw [hx] at hcell
      have hk1 : (k : Int) < l.length := by omega
      by_cases h0 : (i : Int) = (x : Int)
      · have HX : Hid (idxF l i = (k : Int)) := Lib.hid (idxF_at hlt HZ.out (by rw [hx]; omega))
        have h0b : ((i : Int) == (x : Int)) = true := by simpa using h0
        clear hr hc hx h0
        go_wp2
        go_ret
        exact ⟨ret_int HX.out.symm, rfl⟩
      · have HX : Hid (sq l k ≠ i) := Lib.hid (by rw [hx]; omega)
        have h0b : ((i : Int) == (x : Int)) = false := by simpa using h0
        clear hr hc hx h0
        go_wp2
        go_round
        case rel => exact ⟨k + 1, by omega, by go_num, fun j hj => by
          by_cases e : j = k
          · rw [e]; exact HX.out
          · exact HZ.out j (by omega)⟩
        case measure => simp [intOf]; omega
    · have HX : Hid (idxF l i = -1) := Lib.hid (idxF_no fun j hj => HZ.out j (by omega))
      clear hr
      go_wp2
      go_ret
      exact ⟨ret_int HX.out.symm, rfl⟩
theorem str_contains_any (a : Option Addr) (cap : Nat) (l : List Nat) (i : Nat) (w : World) (hl : l.length ≤ 140737488355328) (hr : Lies w w.heap.size a (nats l)) :
    Calls Tryz.prog 53 #[.slice a l.length cap, .int .i64 (i : Int)] w fun e w' => e = .returned (.bool (decide (i ∈ l))) ∧ Below w.heap.size w w' := by
  have HI := Lib.hid (str_index_any a cap l i w hl hr)
  have HD : Hid (decide (i ∈ l) = decide (0 ≤ idxF l i)) := Lib.hid (by
    unfold idxF
    by_cases h : i ∈ l
    · rw [if_pos h, decide_eq_true h, decide_eq_true (by omega)]
    · rw [if_neg h, decide_eq_false h, decide_eq_false (by omega)])
  rw [HD.out]
  obtain ⟨m, hm⟩ : ∃ m, idxF l i = m := ⟨_, rfl⟩
  rw [hm] at HI ⊢
  clear hm HD hr
  by_cases h : 0 ≤ m
  · have h2 : decide (0 ≤ m) = true := decide_eq_true h
    rw [h2]
    go_enter Tryz.func53, Tryz.ntmps53
    go_wp2_with (go_at_call 80; (with_reducible refine HI.out.mono ?_); rintro e w1 ⟨rfl, rfl⟩)
    go_ret
    exact ⟨rfl, Below.refl _ _⟩
  · have h2 : decide (0 ≤ m) = false := decide_eq_false h
    rw [h2]
    go_enter Tryz.func53, Tryz.ntmps53
    go_wp2_with (go_at_call 80; (with_reducible refine HI.out.mono ?_); rintro e w1 ⟨rfl, rfl⟩)
    go_ret
    exact ⟨rfl, Below.refl _ _⟩

set_option maxHeartbeats 1000000 in
theorem str_unlike_new (a1 a2 : Option Addr) (cap1 cap2 n : Nat) (f g : Fb) (so : Option Addr) (cs : Nat) (S : List Nat) (w : World) (hn : n ≤ 1000) (h1 : Lies w w.heap.size a1 (bytes (grid n f))) (h2 : Lies w w.heap.size a2 (bytes (grid n g))) (hs : Lies w w.heap.size so (nats S)) (hsl : S.length ≤ 1000) :
    Calls Tryz.prog 27 #[.slice a1 n cap1, .slice a2 n cap2, .slice so S.length cs] w fun e w' => (∃ v, e = .returned v ∧ IReads w' v (unlF n f g S) ∧ (∀ q, v.ownBlock = some q → w.heap.size ≤ q)) ∧ Below w.heap.size w w' := by
  have H1 := Lib.hid h1
  have H2 := Lib.hid h2
  have HCT : Hid (∀ wx, Below w.heap.size w wx → ∀ i, Calls Tryz.prog 53 #[.slice so S.length cs, .int .i64 ((i : Nat) : Int)] wx fun e w' => e = .returned (.bool (decide (i ∈ S))) ∧ Below wx.heap.size wx w') := Lib.hid fun wx hb i => str_contains_any so cs S i wx (by omega) ((hs.below hb).mono hb.size)
  have hn1 : (n : Int) ≤ 1000 := by omega
  have HN := Lib.hid hn
  obtain ⟨ns, hns⟩ : ∃ ns, S.length = ns := ⟨_, rfl⟩
  rw [hns] at HCT ⊢
  have hnil : w.ownsRow w.heap.size 3 1 (.slice none 0 0) (unlF 0 f g S).length (nats (unlF 0 f g S)) := ⟨rfl, .inl ⟨rfl, rfl⟩⟩
  have HNIL := Lib.hid hnil
  clear h1 h2 hs hsl hn hns hnil
  go_enter Tryz.func27, Tryz.ntmps27
  go_wp2
  go_loopw [7, 11] (fun v x wr => ∃ i : Nat, i ≤ n ∧ x = .int .i64 i ∧ wr.ownsRow w.heap.size 3 1 v (unlF i f g S).length (nats (unlF i f g S)) ∧ Below w.heap.size w wr) (fun _ x _ => n - (intOf x).toNat)
  case atStart => exact ⟨0, Nat.zero_le _, rfl, HNIL.out, Below.refl _ _⟩
  case round =>
  clear HNIL
  obtain ⟨i, hi, rfl, hown, hbw⟩ := hrel
  obtain ⟨av, cv, rfl, hcv, hlv⟩ := own_form2 hown
  by_cases hlt : i < n
  · have hii : (i : Int) < (n : Int) := by omega
    obtain ⟨x1, z1, rfl, hb1, hc1⟩ := H1.out (by rw [bytes_length, grid_length]; omega)
    obtain ⟨x2, z2, rfl, hb2, hc2⟩ := H2.out (by rw [bytes_length, grid_length]; omega)
    obtain ⟨y1, hy1⟩ : ∃ y, z1 + i * 60 = y := ⟨_, rfl⟩
    obtain ⟨y2, hy2⟩ : ∃ y, z2 + i * 60 = y := ⟨_, rfl⟩
    have hr1 : ∀ wx, Below wr.heap.size wr wx → wx.rangeAt x1 y1 (bytes (bkF f i)) := fun wx hb => by
      rw [← hy1]
      exact grid_range (fun j u hj => ((hbw.next hb).cell (p := ⟨x1, z1 + j, none⟩) hb1).trans (hc1 j u hj)) i hlt
    have hr2 : ∀ wx, Below wr.heap.size wr wx → wx.rangeAt x2 y2 (bytes (bkF g i)) := fun wx hb => by
      rw [← hy2]
      exact grid_range (fun j u hj => ((hbw.next hb).cell (p := ⟨x2, z2 + j, none⟩) hb2).trans (hc2 j u hj)) i hlt
    have LB1 : Hid ((bytes (bkF f i)).length = 60) := Lib.hid (by rw [bytes_length, bkF_length])
    have LB2 : Hid ((bytes (bkF g i)).length = 60) := Lib.hid (by rw [bytes_length, bkF_length])
    have heq : ∀ u : World, (Op.equalIn 10000 48 (.agg (bytes (bkF f i)).toArray) (.agg (bytes (bkF g i)).toArray)).run Tryz.prog u = .ok (decide (bkF f i = bkF g i)) u := eq_block _ _ (bkF_length _ _) (bkF_length _ _)
    have hlen := unlF_le i f g S
    have hnx := unlF_succ i f g S
    have HCO0 := Lib.hid (fun wx (hb : Below wr.heap.size wr wx) => HCT.out wx (hbw.next hb) i)
    have HR1 := Lib.hid hr1
    have HR2 := Lib.hid hr2
    have HY1 := Lib.hid hy1
    have HY2 := Lib.hid hy2
    have HO1 : Hid ((Value.int .i64 (i : Int)).oneCell' = true) := Lib.hid rfl
    have HOL : Hid (∀ s, (Value.slice av (unlF i f g S).length cv).ownBlock = some s → w.heap.size ≤ s) := Lib.hid fun s hs => (hown.lt s hs).1
    have HPK : Big ((unlF i f g S).length + 1 ≤ 1099511627776) := ⟨by omega⟩
    have HOWN := Lib.hid hown
    have HBW := Lib.hid hbw
    have HD : Hid (decide (bkF f i ≠ bkF g i) = !decide (bkF f i = bkF g i)) := Lib.hid (by simp)
    rw [HD.out] at hnx
    obtain ⟨d, hd⟩ : ∃ d, decide (bkF f i = bkF g i) = d := ⟨_, rfl⟩
    obtain ⟨q, hq⟩ : ∃ q, decide (i ∈ S) = q := ⟨_, rfl⟩
    rw [hd] at heq hnx
    rw [hq] at HCO0 hnx
    have HEQ := Lib.hid heq
    have HU := Lib.hid hnx
    obtain ⟨B1, hB1⟩ : ∃ B, bytes (bkF f i) = B := ⟨_, rfl⟩
    obtain ⟨B2, hB2⟩ : ∃ B, bytes (bkF g i) = B := ⟨_, rfl⟩
    rw [hB1] at HR1 LB1 HEQ
    rw [hB2] at HR2 LB2 HEQ
    obtain ⟨U, hU⟩ : ∃ U, unlF i f g S = U := ⟨_, rfl⟩
    rw [hU] at HU HOL HPK HOWN ⊢
    clear hown hbw hcv hlv hc1 hc2 hy1 hy2 hr1 hr2 heq hlen hnx hd hq hB1 hB2 hU HD hlt HCT H1 H2 hb1 hb2
    have HCO : Hid (∀ wx, Below wr.heap.size wr wx → Calls Tryz.prog 53 #[.slice so ns cs, .int .i64 (i : Int)] wx fun e w' => e = .returned (.bool q) ∧ Below wx.heap.size wx w') := HCO0
    clear HCO0
    cases d
    · have HLL : Hid ((unlF (i + 1) f g S).length = U.length + 1) := Lib.hid (by rw [HU.out]; simp)
      have HNX : Hid (nats U ++ [.int .i64 (i : Int)] = nats (unlF (i + 1) f g S)) := Lib.hid (by rw [HU.out, ← nats_snoc]; simp)
      clear HU HCO
      go_wp2
      refine region_invX [(0, 14), (1, 15), (2, 16), (3, 17), (4, 18), (5, 19), (6, 20), (7, 21), (8, 22), (9, 23), (10, 24), (11, 25), (12, 26), (13, 27)]
        (fun ii => [Is (.slice (some ⟨x1, z1, none⟩) n cap1), Is (.int .i64 (i : Int)), Is (.pointer (some ⟨x1, y1, none⟩)), Is (.agg (B1).toArray), Is (.slice (some ⟨x2, z2, none⟩) n cap2), Is (.int .i64 (i : Int)), Is (.pointer (some ⟨x2, y2, none⟩)), Is (.agg (B2).toArray), Is (.bool true), Is (.bool true), Is undef, Is undef, Is undef, Is (.bool true)].getD ii (Is undef))
        (fun w' => Below wr.heap.size wr w') (by kernel_rfl) (by kernel_rfl) (by decide) (by decide) (by kernel_rfl) rfl ?monoa ((Below.refl _ _).drew) ?stepa ?fina
      case monoa =>
        intro i
        match i with
        | 0 | 1 | 2 | 3 | 4 | 5 | 6 | 7 | 8 | 9 | 10 | 11 | 12 | 13 => exact Is.monot _
        | _ + 14 => exact Is.monot _
      case stepa =>
        refine List.forall_mem_cons.2 ⟨?as0, List.forall_mem_cons.2 ⟨?as1, List.forall_mem_cons.2 ⟨?as2, List.forall_mem_cons.2 ⟨?as3, List.forall_mem_cons.2 ⟨?as4, List.forall_mem_cons.2 ⟨?as5, List.forall_mem_cons.2 ⟨?as6, List.forall_mem_cons.2 ⟨?as7, List.forall_mem_cons.2 ⟨?as8, List.forall_mem_cons.2 ⟨?as9, List.forall_mem_cons.2 ⟨?as10, List.forall_mem_cons.2 ⟨?as11, List.forall_mem_cons.2 ⟨?as12, List.forall_mem_cons.2 ⟨?as13, List.forall_mem_nil _⟩⟩⟩⟩⟩⟩⟩⟩⟩⟩⟩⟩⟩⟩
        case as0 =>
          intro u wx hg hC
          clear hC
          refine wpOp_step rfl (fun K hK => ?_)
          simp only [puts, List.foldl]
          go_simp
          exact hK _ _ ⟨rfl, rfl, hg, Below.refl _ _⟩
        case as1 =>
          intro u wx hg hC
          clear hC
          refine wpOp_step rfl (fun K hK => ?_)
          simp only [puts, List.foldl]
          go_simp
          exact hK _ _ ⟨rfl, rfl, hg, Below.refl _ _⟩
        case as2 =>
          intro u wx hg hC
          have hJ0 : u 0 = (.slice (some ⟨x1, z1, none⟩) n cap1) := hC.at 0 (by kernel_rfl)
          have hJ1 : u 1 = (.int .i64 (i : Int)) := hC.at 1 (by kernel_rfl)
          clear hC
          have hy1 := HY1.out
          refine wpOp_step rfl (fun K hK => ?_)
          simp only [puts, List.foldl]
          go_simp
          exact hK _ _ ⟨rfl, rfl, hg, Below.refl _ _⟩
        case as3 =>
          intro u wx hg hC
          have hJ2 : u 2 = (.pointer (some ⟨x1, y1, none⟩)) := hC.at 2 (by kernel_rfl)
          clear hC
          generalize hA : puts [(0, 14), (1, 15), (2, 16), (3, 17), (4, 18), (5, 19), (6, 20), (7, 21), (8, 22), (9, 23), (10, 24), (11, 25), (12, 26), (13, 27)] _ u = A
          have hp : A.tmps.getD 16 undef = .pointer (some ⟨x1, y1, none⟩) := by rw [← hA]; exact (puts_get u 2 16 _ _ (by decide) (by decide) (by kernel_rfl)).trans hJ2
          have hsz : 17 < A.tmps.size := by rw [← hA]; exact puts_room u (by kernel_rfl)
          refine wpOp_step rfl (fun K hK => ?_)
          clear hA
          exact opLoadRK (φ := Is (.agg (B1).toArray)) (HR1.out wx hg) _ fits_block LB1.out 17 rfl hsz hK (.tmp 16) rfl hp rfl hg
        case as4 =>
          intro u wx hg hC
          clear hC
          refine wpOp_step rfl (fun K hK => ?_)
          simp only [puts, List.foldl]
          go_simp
          exact hK _ _ ⟨rfl, rfl, hg, Below.refl _ _⟩
        case as5 =>
          intro u wx hg hC
          clear hC
          refine wpOp_step rfl (fun K hK => ?_)
          simp only [puts, List.foldl]
          go_simp
          exact hK _ _ ⟨rfl, rfl, hg, Below.refl _ _⟩
        case as6 =>
          intro u wx hg hC
          have hJ4 : u 4 = (.slice (some ⟨x2, z2, none⟩) n cap2) := hC.at 4 (by kernel_rfl)
          have hJ5 : u 5 = (.int .i64 (i : Int)) := hC.at 5 (by kernel_rfl)
          clear hC
          have hy2 := HY2.out
          refine wpOp_step rfl (fun K hK => ?_)
          simp only [puts, List.foldl]
          go_simp
          exact hK _ _ ⟨rfl, rfl, hg, Below.refl _ _⟩
        case as7 =>
          intro u wx hg hC
          have hJ6 : u 6 = (.pointer (some ⟨x2, y2, none⟩)) := hC.at 6 (by kernel_rfl)
          clear hC
          generalize hA : puts [(0, 14), (1, 15), (2, 16), (3, 17), (4, 18), (5, 19), (6, 20), (7, 21), (8, 22), (9, 23), (10, 24), (11, 25), (12, 26), (13, 27)] _ u = A
          have hp : A.tmps.getD 20 undef = .pointer (some ⟨x2, y2, none⟩) := by rw [← hA]; exact (puts_get u 6 20 _ _ (by decide) (by decide) (by kernel_rfl)).trans hJ6
          have hsz : 21 < A.tmps.size := by rw [← hA]; exact puts_room u (by kernel_rfl)
          refine wpOp_step rfl (fun K hK => ?_)
          clear hA
          exact opLoadRK (φ := Is (.agg (B2).toArray)) (HR2.out wx hg) _ fits_block LB2.out 21 rfl hsz hK (.tmp 20) rfl hp rfl hg
        case as8 =>
          intro u wx hg hC
          have hJ3 : u 3 = (.agg (B1).toArray) := hC.at 3 (by kernel_rfl)
          have hJ7 : u 7 = (.agg (B2).toArray) := hC.at 7 (by kernel_rfl)
          clear hC
          have heq := HEQ.out
          refine wpOp_step rfl (fun K hK => ?_)
          simp only [puts, List.foldl]
          go_simp
          exact hK _ _ ⟨rfl, rfl, hg, Below.refl _ _⟩
        case as9 =>
          intro u wx hg hC
          have hJ8 : u 8 = (.bool true) := hC.at 8 (by kernel_rfl)
          clear hC
          refine wpOp_step rfl (fun K hK => ?_)
          simp only [puts, List.foldl]
          go_simp
          exact hK _ _ ⟨rfl, rfl, hg, Below.refl _ _⟩
        case as10 =>
          intro u wx hg hC
          have hJ9 : u 9 = .bool true := hC.at 9 (by kernel_rfl)
          clear hC
          generalize hA : puts [(0, 14), (1, 15), (2, 16), (3, 17), (4, 18), (5, 19), (6, 20), (7, 21), (8, 22), (9, 23), (10, 24), (11, 25), (12, 26), (13, 27)] _ u = A
          have hgv : A.tmps.getD 23 undef = .bool true := by rw [← hA]; exact (puts_get u 9 23 _ _ (by decide) (by decide) (by kernel_rfl)).trans hJ9
          have hgs : 23 < A.tmps.size := by rw [← hA]; exact puts_room u (by kernel_rfl)
          refine wpOp_skip rfl 9 23 false rfl rfl hgs hgv ?_
          subst hA
          simp only [puts, List.foldl]
          go_simp
          first | exact ⟨rfl, hg, Below.refl _ _⟩ | exact ⟨rfl, hg⟩ | exact ⟨rfl, Below.refl _ _⟩ | exact ⟨rfl, rfl, hg, Below.refl _ _⟩ | exact ⟨hg, Below.refl _ _⟩
        case as11 =>
          intro u wx hg hC
          have hJ9 : u 9 = .bool true := hC.at 9 (by kernel_rfl)
          clear hC
          generalize hA : puts [(0, 14), (1, 15), (2, 16), (3, 17), (4, 18), (5, 19), (6, 20), (7, 21), (8, 22), (9, 23), (10, 24), (11, 25), (12, 26), (13, 27)] _ u = A
          have hgv : A.tmps.getD 23 undef = .bool true := by rw [← hA]; exact (puts_get u 9 23 _ _ (by decide) (by decide) (by kernel_rfl)).trans hJ9
          have hgs : 23 < A.tmps.size := by rw [← hA]; exact puts_room u (by kernel_rfl)
          refine wpOp_skip rfl 9 23 false rfl rfl hgs hgv ?_
          subst hA
          simp only [puts, List.foldl]
          go_simp
          first | exact ⟨rfl, hg, Below.refl _ _⟩ | exact ⟨rfl, hg⟩ | exact ⟨rfl, Below.refl _ _⟩ | exact ⟨rfl, rfl, hg, Below.refl _ _⟩ | exact ⟨hg, Below.refl _ _⟩
        case as12 =>
          intro u wx hg hC
          have hJ9 : u 9 = .bool true := hC.at 9 (by kernel_rfl)
          clear hC
          generalize hA : puts [(0, 14), (1, 15), (2, 16), (3, 17), (4, 18), (5, 19), (6, 20), (7, 21), (8, 22), (9, 23), (10, 24), (11, 25), (12, 26), (13, 27)] _ u = A
          have hgv : A.tmps.getD 23 undef = .bool true := by rw [← hA]; exact (puts_get u 9 23 _ _ (by decide) (by decide) (by kernel_rfl)).trans hJ9
          have hgs : 23 < A.tmps.size := by rw [← hA]; exact puts_room u (by kernel_rfl)
          refine wpOp_skip rfl 9 23 false rfl rfl hgs hgv ?_
          subst hA
          simp only [puts, List.foldl]
          go_simp
          first | exact ⟨rfl, hg, Below.refl _ _⟩ | exact ⟨rfl, hg⟩ | exact ⟨rfl, Below.refl _ _⟩ | exact ⟨rfl, rfl, hg, Below.refl _ _⟩ | exact ⟨hg, Below.refl _ _⟩
        case as13 =>
          intro u wx hg hC
          have hJ9 : u 9 = (.bool true) := hC.at 9 (by kernel_rfl)
          have hJ12 : u 12 = undef := hC.at 12 (by kernel_rfl)
          clear hC
          refine wpOp_step rfl (fun K hK => ?_)
          simp only [puts, List.foldl]
          go_simp
          exact hK _ _ ⟨rfl, rfl, hg, Below.refl _ _⟩
      case fina =>
        intro u w4 hb4 hφ
        have e13 : u 13 = .bool true := hφ (13, 27) (by decide)
        clear hφ
        simp only [puts, List.foldl]
        rw [e13]
        go_simp
        have HB4 := Lib.hid hb4
        have HOW4 := Lib.hid (own_below HOWN.out hb4)
        have HOWA := Lib.hid (HOW4.out.alloc (.cells #[.int .i64 (i : Int)] 3))
        have HLA := Lib.hid (Lies.new [Value.int .i64 (i : Int)] w4 3)
        have HBA := Lib.hid ((HBW.out.next HB4.out).alloc (HBW.out.next HB4.out).size (.cells #[.int .i64 (i : Int)] 3))
        have HSA := Lib.hid HBA.out.size
        clear hb4 e13
        go_wp2_with ((with_reducible refine wpAppend1K HOWA.out Tryz.underlying38 one_int HLA.out HO1.out HPK HSA.out ?_ ?_); rfl; intro v3 w3 g3 q3 k3; rw [HNX.out] at g3; have O3 := Lib.hid g3; have B3 : Hid (Below w.heap.size w w3) := Lib.hid (HBA.out.grown q3 HBA.out.size HOL.out); clear g3 q3 k3)
        go_roundw
        case rel => exact ⟨i + 1, by omega, by go_num, by rw [HLL.out]; exact O3.out, B3.out⟩
        case measure => simp [intOf]; omega
    · cases q
      · have HNX : Hid (unlF (i + 1) f g S = U) := Lib.hid (by rw [HU.out]; simp)
        clear HU HPK HOL HO1
        go_wp2
        refine region_invX [(0, 14), (1, 15), (2, 16), (3, 17), (4, 18), (5, 19), (6, 20), (7, 21), (8, 22), (9, 23), (10, 24), (11, 25), (12, 26), (13, 27)]
          (fun ii => [Is (.slice (some ⟨x1, z1, none⟩) n cap1), Is (.int .i64 (i : Int)), Is (.pointer (some ⟨x1, y1, none⟩)), Is (.agg (B1).toArray), Is (.slice (some ⟨x2, z2, none⟩) n cap2), Is (.int .i64 (i : Int)), Is (.pointer (some ⟨x2, y2, none⟩)), Is (.agg (B2).toArray), Is (.bool false), Is (.bool false), Is (.slice so ns cs), Is (.int .i64 (i : Int)), Is (.bool false), Is (.bool false)].getD ii (Is undef))
          (fun w' => Below wr.heap.size wr w') (by kernel_rfl) (by kernel_rfl) (by decide) (by decide) (by kernel_rfl) rfl ?monob ((Below.refl _ _).drew) ?stepb ?finb
        case monob =>
          intro i
          match i with
          | 0 | 1 | 2 | 3 | 4 | 5 | 6 | 7 | 8 | 9 | 10 | 11 | 12 | 13 => exact Is.monot _
          | _ + 14 => exact Is.monot _
        case stepb =>
          refine List.forall_mem_cons.2 ⟨?bs0, List.forall_mem_cons.2 ⟨?bs1, List.forall_mem_cons.2 ⟨?bs2, List.forall_mem_cons.2 ⟨?bs3, List.forall_mem_cons.2 ⟨?bs4, List.forall_mem_cons.2 ⟨?bs5, List.forall_mem_cons.2 ⟨?bs6, List.forall_mem_cons.2 ⟨?bs7, List.forall_mem_cons.2 ⟨?bs8, List.forall_mem_cons.2 ⟨?bs9, List.forall_mem_cons.2 ⟨?bs10, List.forall_mem_cons.2 ⟨?bs11, List.forall_mem_cons.2 ⟨?bs12, List.forall_mem_cons.2 ⟨?bs13, List.forall_mem_nil _⟩⟩⟩⟩⟩⟩⟩⟩⟩⟩⟩⟩⟩⟩
          case bs0 =>
            intro u wx hg hC
            clear hC
            refine wpOp_step rfl (fun K hK => ?_)
            simp only [puts, List.foldl]
            go_simp
            exact hK _ _ ⟨rfl, rfl, hg, Below.refl _ _⟩
          case bs1 =>
            intro u wx hg hC
            clear hC
            refine wpOp_step rfl (fun K hK => ?_)
            simp only [puts, List.foldl]
            go_simp
            exact hK _ _ ⟨rfl, rfl, hg, Below.refl _ _⟩
          case bs2 =>
            intro u wx hg hC
            have hJ0 : u 0 = (.slice (some ⟨x1, z1, none⟩) n cap1) := hC.at 0 (by kernel_rfl)
            have hJ1 : u 1 = (.int .i64 (i : Int)) := hC.at 1 (by kernel_rfl)
            clear hC
            have hy1 := HY1.out
            refine wpOp_step rfl (fun K hK => ?_)
            simp only [puts, List.foldl]
            go_simp
            exact hK _ _ ⟨rfl, rfl, hg, Below.refl _ _⟩
          case bs3 =>
            intro u wx hg hC
            have hJ2 : u 2 = (.pointer (some ⟨x1, y1, none⟩)) := hC.at 2 (by kernel_rfl)
            clear hC
            generalize hA : puts [(0, 14), (1, 15), (2, 16), (3, 17), (4, 18), (5, 19), (6, 20), (7, 21), (8, 22), (9, 23), (10, 24), (11, 25), (12, 26), (13, 27)] _ u = A
            have hp : A.tmps.getD 16 undef = .pointer (some ⟨x1, y1, none⟩) := by rw [← hA]; exact (puts_get u 2 16 _ _ (by decide) (by decide) (by kernel_rfl)).trans hJ2
            have hsz : 17 < A.tmps.size := by rw [← hA]; exact puts_room u (by kernel_rfl)
            refine wpOp_step rfl (fun K hK => ?_)
            clear hA
            exact opLoadRK (φ := Is (.agg (B1).toArray)) (HR1.out wx hg) _ fits_block LB1.out 17 rfl hsz hK (.tmp 16) rfl hp rfl hg
          case bs4 =>
            intro u wx hg hC
            clear hC
            refine wpOp_step rfl (fun K hK => ?_)
            simp only [puts, List.foldl]
            go_simp
            exact hK _ _ ⟨rfl, rfl, hg, Below.refl _ _⟩
          case bs5 =>
            intro u wx hg hC
            clear hC
            refine wpOp_step rfl (fun K hK => ?_)
            simp only [puts, List.foldl]
            go_simp
            exact hK _ _ ⟨rfl, rfl, hg, Below.refl _ _⟩
          case bs6 =>
            intro u wx hg hC
            have hJ4 : u 4 = (.slice (some ⟨x2, z2, none⟩) n cap2) := hC.at 4 (by kernel_rfl)
            have hJ5 : u 5 = (.int .i64 (i : Int)) := hC.at 5 (by kernel_rfl)
            clear hC
            have hy2 := HY2.out
            refine wpOp_step rfl (fun K hK => ?_)
            simp only [puts, List.foldl]
            go_simp
            exact hK _ _ ⟨rfl, rfl, hg, Below.refl _ _⟩
          case bs7 =>
            intro u wx hg hC
            have hJ6 : u 6 = (.pointer (some ⟨x2, y2, none⟩)) := hC.at 6 (by kernel_rfl)
            clear hC
            generalize hA : puts [(0, 14), (1, 15), (2, 16), (3, 17), (4, 18), (5, 19), (6, 20), (7, 21), (8, 22), (9, 23), (10, 24), (11, 25), (12, 26), (13, 27)] _ u = A
            have hp : A.tmps.getD 20 undef = .pointer (some ⟨x2, y2, none⟩) := by rw [← hA]; exact (puts_get u 6 20 _ _ (by decide) (by decide) (by kernel_rfl)).trans hJ6
            have hsz : 21 < A.tmps.size := by rw [← hA]; exact puts_room u (by kernel_rfl)
            refine wpOp_step rfl (fun K hK => ?_)
            clear hA
            exact opLoadRK (φ := Is (.agg (B2).toArray)) (HR2.out wx hg) _ fits_block LB2.out 21 rfl hsz hK (.tmp 20) rfl hp rfl hg
          case bs8 =>
            intro u wx hg hC
            have hJ3 : u 3 = (.agg (B1).toArray) := hC.at 3 (by kernel_rfl)
            have hJ7 : u 7 = (.agg (B2).toArray) := hC.at 7 (by kernel_rfl)
            clear hC
            have heq := HEQ.out
            refine wpOp_step rfl (fun K hK => ?_)
            simp only [puts, List.foldl]
            go_simp
            exact hK _ _ ⟨rfl, rfl, hg, Below.refl _ _⟩
          case bs9 =>
            intro u wx hg hC
            have hJ8 : u 8 = (.bool false) := hC.at 8 (by kernel_rfl)
            clear hC
            refine wpOp_step rfl (fun K hK => ?_)
            simp only [puts, List.foldl]
            go_simp
            exact hK _ _ ⟨rfl, rfl, hg, Below.refl _ _⟩
          case bs10 =>
            intro u wx hg hC
            have hJ9 : u 9 = (.bool false) := hC.at 9 (by kernel_rfl)
            clear hC
            generalize hA : puts [(0, 14), (1, 15), (2, 16), (3, 17), (4, 18), (5, 19), (6, 20), (7, 21), (8, 22), (9, 23), (10, 24), (11, 25), (12, 26), (13, 27)] _ u = A
            have hgv : A.tmps.getD 23 undef = .bool false := by rw [← hA]; exact (puts_get u 9 23 _ _ (by decide) (by decide) (by kernel_rfl)).trans hJ9
            have hgs : 23 < A.tmps.size := by rw [← hA]; exact puts_room u (by kernel_rfl)
            refine wpOp_guard rfl 9 23 false rfl rfl hgs hgv (fun K hK => ?_)
            subst hA
            simp only [puts, List.foldl]
            go_simp
            exact hK _ _ ⟨rfl, rfl, hg, Below.refl _ _⟩
          case bs11 =>
            intro u wx hg hC
            have hJ9 : u 9 = (.bool false) := hC.at 9 (by kernel_rfl)
            clear hC
            generalize hA : puts [(0, 14), (1, 15), (2, 16), (3, 17), (4, 18), (5, 19), (6, 20), (7, 21), (8, 22), (9, 23), (10, 24), (11, 25), (12, 26), (13, 27)] _ u = A
            have hgv : A.tmps.getD 23 undef = .bool false := by rw [← hA]; exact (puts_get u 9 23 _ _ (by decide) (by decide) (by kernel_rfl)).trans hJ9
            have hgs : 23 < A.tmps.size := by rw [← hA]; exact puts_room u (by kernel_rfl)
            refine wpOp_guard rfl 9 23 false rfl rfl hgs hgv (fun K hK => ?_)
            subst hA
            simp only [puts, List.foldl]
            go_simp
            exact hK _ _ ⟨rfl, rfl, hg, Below.refl _ _⟩
          case bs12 =>
            intro u wx hg hC
            have hJ9 : u 9 = (.bool false) := hC.at 9 (by kernel_rfl)
            have hJ10 : u 10 = (.slice so ns cs) := hC.at 10 (by kernel_rfl)
            have hJ11 : u 11 = (.int .i64 (i : Int)) := hC.at 11 (by kernel_rfl)
            clear hC
            generalize hA : puts [(0, 14), (1, 15), (2, 16), (3, 17), (4, 18), (5, 19), (6, 20), (7, 21), (8, 22), (9, 23), (10, 24), (11, 25), (12, 26), (13, 27)] _ u = A
            have hgv : A.tmps.getD 23 undef = .bool false := by rw [← hA]; exact (puts_get u 9 23 _ _ (by decide) (by decide) (by kernel_rfl)).trans hJ9
            have hgs : 23 < A.tmps.size := by rw [← hA]; exact puts_room u (by kernel_rfl)
            refine wpOp_guard rfl 9 23 false rfl rfl hgs hgv (fun K hK => ?_)
            subst hA
            simp only [puts, List.foldl]
            go_simp
            refine (HCO.out wx hg).mono ?_
            rintro e w' ⟨rfl, hb'⟩
            exact hK _ _ ⟨rfl, rfl, hg.next hb', hb'⟩
          case bs13 =>
            intro u wx hg hC
            have hJ9 : u 9 = (.bool false) := hC.at 9 (by kernel_rfl)
            have hJ12 : u 12 = (.bool false) := hC.at 12 (by kernel_rfl)
            clear hC
            refine wpOp_step rfl (fun K hK => ?_)
            simp only [puts, List.foldl]
            go_simp
            exact hK _ _ ⟨rfl, rfl, hg, Below.refl _ _⟩
        case finb =>
          intro u w4 hb4 hφ
          have e13 : u 13 = .bool false := hφ (13, 27) (by decide)
          clear hφ
          simp only [puts, List.foldl]
          rw [e13]
          go_simp
          have HB4 := Lib.hid hb4
          have HOW4 := Lib.hid (own_below HOWN.out hb4)
          clear hb4 e13
          go_wp2
          go_roundw
          case rel => exact ⟨i + 1, by omega, by go_num, by rw [HNX.out]; exact HOW4.out, HBW.out.next HB4.out⟩
          case measure => simp [intOf]; omega
      · have HLL : Hid ((unlF (i + 1) f g S).length = U.length + 1) := Lib.hid (by rw [HU.out]; simp)
        have HNX : Hid (nats U ++ [.int .i64 (i : Int)] = nats (unlF (i + 1) f g S)) := Lib.hid (by rw [HU.out, ← nats_snoc]; simp)
        clear HU
        go_wp2
        refine region_invX [(0, 14), (1, 15), (2, 16), (3, 17), (4, 18), (5, 19), (6, 20), (7, 21), (8, 22), (9, 23), (10, 24), (11, 25), (12, 26), (13, 27)]
          (fun ii => [Is (.slice (some ⟨x1, z1, none⟩) n cap1), Is (.int .i64 (i : Int)), Is (.pointer (some ⟨x1, y1, none⟩)), Is (.agg (B1).toArray), Is (.slice (some ⟨x2, z2, none⟩) n cap2), Is (.int .i64 (i : Int)), Is (.pointer (some ⟨x2, y2, none⟩)), Is (.agg (B2).toArray), Is (.bool false), Is (.bool false), Is (.slice so ns cs), Is (.int .i64 (i : Int)), Is (.bool true), Is (.bool true)].getD ii (Is undef))
          (fun w' => Below wr.heap.size wr w') (by kernel_rfl) (by kernel_rfl) (by decide) (by decide) (by kernel_rfl) rfl ?monoc ((Below.refl _ _).drew) ?stepc ?finc
        case monoc =>
          intro i
          match i with
          | 0 | 1 | 2 | 3 | 4 | 5 | 6 | 7 | 8 | 9 | 10 | 11 | 12 | 13 => exact Is.monot _
          | _ + 14 => exact Is.monot _
        case stepc =>
          refine List.forall_mem_cons.2 ⟨?cs0, List.forall_mem_cons.2 ⟨?cs1, List.forall_mem_cons.2 ⟨?cs2, List.forall_mem_cons.2 ⟨?cs3, List.forall_mem_cons.2 ⟨?cs4, List.forall_mem_cons.2 ⟨?cs5, List.forall_mem_cons.2 ⟨?cs6, List.forall_mem_cons.2 ⟨?cs7, List.forall_mem_cons.2 ⟨?cs8, List.forall_mem_cons.2 ⟨?cs9, List.forall_mem_cons.2 ⟨?cs10, List.forall_mem_cons.2 ⟨?cs11, List.forall_mem_cons.2 ⟨?cs12, List.forall_mem_cons.2 ⟨?cs13, List.forall_mem_nil _⟩⟩⟩⟩⟩⟩⟩⟩⟩⟩⟩⟩⟩⟩
          case cs0 =>
            intro u wx hg hC
            clear hC
            refine wpOp_step rfl (fun K hK => ?_)
            simp only [puts, List.foldl]
            go_simp
            exact hK _ _ ⟨rfl, rfl, hg, Below.refl _ _⟩
          case cs1 =>
            intro u wx hg hC
            clear hC
            refine wpOp_step rfl (fun K hK => ?_)
            simp only [puts, List.foldl]
            go_simp
            exact hK _ _ ⟨rfl, rfl, hg, Below.refl _ _⟩
          case cs2 =>
            intro u wx hg hC
            have hJ0 : u 0 = (.slice (some ⟨x1, z1, none⟩) n cap1) := hC.at 0 (by kernel_rfl)
            have hJ1 : u 1 = (.int .i64 (i : Int)) := hC.at 1 (by kernel_rfl)
            clear hC
            have hy1 := HY1.out
            refine wpOp_step rfl (fun K hK => ?_)
            simp only [puts, List.foldl]
            go_simp
            exact hK _ _ ⟨rfl, rfl, hg, Below.refl _ _⟩
          case cs3 =>
            intro u wx hg hC
            have hJ2 : u 2 = (.pointer (some ⟨x1, y1, none⟩)) := hC.at 2 (by kernel_rfl)
            clear hC
            generalize hA : puts [(0, 14), (1, 15), (2, 16), (3, 17), (4, 18), (5, 19), (6, 20), (7, 21), (8, 22), (9, 23), (10, 24), (11, 25), (12, 26), (13, 27)] _ u = A
            have hp : A.tmps.getD 16 undef = .pointer (some ⟨x1, y1, none⟩) := by rw [← hA]; exact (puts_get u 2 16 _ _ (by decide) (by decide) (by kernel_rfl)).trans hJ2
            have hsz : 17 < A.tmps.size := by rw [← hA]; exact puts_room u (by kernel_rfl)
            refine wpOp_step rfl (fun K hK => ?_)
            clear hA
            exact opLoadRK (φ := Is (.agg (B1).toArray)) (HR1.out wx hg) _ fits_block LB1.out 17 rfl hsz hK (.tmp 16) rfl hp rfl hg
          case cs4 =>
            intro u wx hg hC
            clear hC
            refine wpOp_step rfl (fun K hK => ?_)
            simp only [puts, List.foldl]
            go_simp
            exact hK _ _ ⟨rfl, rfl, hg, Below.refl _ _⟩
          case cs5 =>
            intro u wx hg hC
            clear hC
            refine wpOp_step rfl (fun K hK => ?_)
            simp only [puts, List.foldl]
            go_simp
            exact hK _ _ ⟨rfl, rfl, hg, Below.refl _ _⟩
          case cs6 =>
            intro u wx hg hC
            have hJ4 : u 4 = (.slice (some ⟨x2, z2, none⟩) n cap2) := hC.at 4 (by kernel_rfl)
            have hJ5 : u 5 = (.int .i64 (i : Int)) := hC.at 5 (by kernel_rfl)
            clear hC
            have hy2 := HY2.out
            refine wpOp_step rfl (fun K hK => ?_)
            simp only [puts, List.foldl]
            go_simp
            exact hK _ _ ⟨rfl, rfl, hg, Below.refl _ _⟩
          case cs7 =>
            intro u wx hg hC
            have hJ6 : u 6 = (.pointer (some ⟨x2, y2, none⟩)) := hC.at 6 (by kernel_rfl)
            clear hC
            generalize hA : puts [(0, 14), (1, 15), (2, 16), (3, 17), (4, 18), (5, 19), (6, 20), (7, 21), (8, 22), (9, 23), (10, 24), (11, 25), (12, 26), (13, 27)] _ u = A
            have hp : A.tmps.getD 20 undef = .pointer (some ⟨x2, y2, none⟩) := by rw [← hA]; exact (puts_get u 6 20 _ _ (by decide) (by decide) (by kernel_rfl)).trans hJ6
            have hsz : 21 < A.tmps.size := by rw [← hA]; exact puts_room u (by kernel_rfl)
            refine wpOp_step rfl (fun K hK => ?_)
            clear hA
            exact opLoadRK (φ := Is (.agg (B2).toArray)) (HR2.out wx hg) _ fits_block LB2.out 21 rfl hsz hK (.tmp 20) rfl hp rfl hg
          case cs8 =>
            intro u wx hg hC
            have hJ3 : u 3 = (.agg (B1).toArray) := hC.at 3 (by kernel_rfl)
            have hJ7 : u 7 = (.agg (B2).toArray) := hC.at 7 (by kernel_rfl)
            clear hC
            have heq := HEQ.out
            refine wpOp_step rfl (fun K hK => ?_)
            simp only [puts, List.foldl]
            go_simp
            exact hK _ _ ⟨rfl, rfl, hg, Below.refl _ _⟩
          case cs9 =>
            intro u wx hg hC
            have hJ8 : u 8 = (.bool false) := hC.at 8 (by kernel_rfl)
            clear hC
            refine wpOp_step rfl (fun K hK => ?_)
            simp only [puts, List.foldl]
            go_simp
            exact hK _ _ ⟨rfl, rfl, hg, Below.refl _ _⟩
          case cs10 =>
            intro u wx hg hC
            have hJ9 : u 9 = (.bool false) := hC.at 9 (by kernel_rfl)
            clear hC
            generalize hA : puts [(0, 14), (1, 15), (2, 16), (3, 17), (4, 18), (5, 19), (6, 20), (7, 21), (8, 22), (9, 23), (10, 24), (11, 25), (12, 26), (13, 27)] _ u = A
            have hgv : A.tmps.getD 23 undef = .bool false := by rw [← hA]; exact (puts_get u 9 23 _ _ (by decide) (by decide) (by kernel_rfl)).trans hJ9
            have hgs : 23 < A.tmps.size := by rw [← hA]; exact puts_room u (by kernel_rfl)
            refine wpOp_guard rfl 9 23 false rfl rfl hgs hgv (fun K hK => ?_)
            subst hA
            simp only [puts, List.foldl]
            go_simp
            exact hK _ _ ⟨rfl, rfl, hg, Below.refl _ _⟩
          case cs11 =>
            intro u wx hg hC
            have hJ9 : u 9 = (.bool false) := hC.at 9 (by kernel_rfl)
            clear hC
            generalize hA : puts [(0, 14), (1, 15), (2, 16), (3, 17), (4, 18), (5, 19), (6, 20), (7, 21), (8, 22), (9, 23), (10, 24), (11, 25), (12, 26), (13, 27)] _ u = A
            have hgv : A.tmps.getD 23 undef = .bool false := by rw [← hA]; exact (puts_get u 9 23 _ _ (by decide) (by decide) (by kernel_rfl)).trans hJ9
            have hgs : 23 < A.tmps.size := by rw [← hA]; exact puts_room u (by kernel_rfl)
            refine wpOp_guard rfl 9 23 false rfl rfl hgs hgv (fun K hK => ?_)
            subst hA
            simp only [puts, List.foldl]
            go_simp
            exact hK _ _ ⟨rfl, rfl, hg, Below.refl _ _⟩
          case cs12 =>
            intro u wx hg hC
            have hJ9 : u 9 = (.bool false) := hC.at 9 (by kernel_rfl)
            have hJ10 : u 10 = (.slice so ns cs) := hC.at 10 (by kernel_rfl)
            have hJ11 : u 11 = (.int .i64 (i : Int)) := hC.at 11 (by kernel_rfl)
            clear hC
            generalize hA : puts [(0, 14), (1, 15), (2, 16), (3, 17), (4, 18), (5, 19), (6, 20), (7, 21), (8, 22), (9, 23), (10, 24), (11, 25), (12, 26), (13, 27)] _ u = A
            have hgv : A.tmps.getD 23 undef = .bool false := by rw [← hA]; exact (puts_get u 9 23 _ _ (by decide) (by decide) (by kernel_rfl)).trans hJ9
            have hgs : 23 < A.tmps.size := by rw [← hA]; exact puts_room u (by kernel_rfl)
            refine wpOp_guard rfl 9 23 false rfl rfl hgs hgv (fun K hK => ?_)
            subst hA
            simp only [puts, List.foldl]
            go_simp
            refine (HCO.out wx hg).mono ?_
            rintro e w' ⟨rfl, hb'⟩
            exact hK _ _ ⟨rfl, rfl, hg.next hb', hb'⟩
          case cs13 =>
            intro u wx hg hC
            have hJ9 : u 9 = (.bool false) := hC.at 9 (by kernel_rfl)
            have hJ12 : u 12 = (.bool true) := hC.at 12 (by kernel_rfl)
            clear hC
            refine wpOp_step rfl (fun K hK => ?_)
            simp only [puts, List.foldl]
            go_simp
            exact hK _ _ ⟨rfl, rfl, hg, Below.refl _ _⟩
        case finc =>
          intro u w4 hb4 hφ
          have e13 : u 13 = .bool true := hφ (13, 27) (by decide)
          clear hφ
          simp only [puts, List.foldl]
          rw [e13]
          go_simp
          have HB4 := Lib.hid hb4
          have HOW4 := Lib.hid (own_below HOWN.out hb4)
          have HOWA := Lib.hid (HOW4.out.alloc (.cells #[.int .i64 (i : Int)] 3))
          have HLA := Lib.hid (Lies.new [Value.int .i64 (i : Int)] w4 3)
          have HBA := Lib.hid ((HBW.out.next HB4.out).alloc (HBW.out.next HB4.out).size (.cells #[.int .i64 (i : Int)] 3))
          have HSA := Lib.hid HBA.out.size
          clear hb4 e13
          go_wp2_with ((with_reducible refine wpAppend1K HOWA.out Tryz.underlying38 one_int HLA.out HO1.out HPK HSA.out ?_ ?_); rfl; intro v3 w3 g3 q3 k3; rw [HNX.out] at g3; have O3 := Lib.hid g3; have B3 : Hid (Below w.heap.size w w3) := Lib.hid (HBA.out.grown q3 HBA.out.size HOL.out); clear g3 q3 k3)
          go_roundw
          case rel => exact ⟨i + 1, by omega, by go_num, by rw [HLL.out]; exact O3.out, B3.out⟩
          case measure => simp [intOf]; omega
  · obtain rfl : i = n := by omega
    have HV : Hid (IReads wr (.slice av (unlF i f g S).length cv) (unlF i f g S)) := Lib.hid ⟨av, cv, rfl, hcv, hlv⟩
    have HOL : Hid (∀ s, (Value.slice av (unlF i f g S).length cv).ownBlock = some s → w.heap.size ≤ s) := Lib.hid fun s hs => (hown.lt s hs).1
    have HBW := Lib.hid hbw
    clear hown hbw hcv hlv
    go_wp2
    go_ret
    exact ⟨⟨_, rfl, HV.out, HOL.out⟩, HBW.out⟩
end Go.Proofs.YtnbjaijhdjneoaaGreat

