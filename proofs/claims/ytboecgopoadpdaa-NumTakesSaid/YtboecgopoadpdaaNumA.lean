/- Contracts of num's small functions: right, fits. -/
import Derived.Test.YtboecgopoadpdaaNumMath
import Derived.Test.YtboecgopoadpdaaProg
import Derived.WalkKit
import Derived.Lib.Hide
import Derived.BigQuiet
import Derived.Outline
namespace Go.Proofs.Ytboecgopoadpdaa
open Go.RowKit NumMath

theorem ret_bool {a b : Bool} (h : a = b) : Ending.returned (.bool a) = .returned (.bool b) := by rw [h]
theorem ret_int {k : IntKind} {a b : Int} (h : a = b) : Ending.returned (.int k a) = .returned (.int k b) := by rw [h]

/-- May a number have that many bytes? -/
def okB (s : Int) : Bool := decide (1 ≤ s ∧ s ≤ 7)

theorem okB_yes {s : Int} (h1 : 1 ≤ s) (h2 : s ≤ 7) : okB s = true := by unfold okB; simp; omega
theorem okB_no {s : Int} (h : ¬ (1 ≤ s ∧ s ≤ 7)) : okB s = false := by unfold okB; simpa using h

theorem right_any (s : Int) (w : World) :
    Calls Try.prog 13 #[.int .i64 s] w fun e w' => e = .returned (.bool (okB s)) ∧ w = w' := by
  by_cases h1 : 1 ≤ s
  · by_cases h2 : s ≤ 7
    · go_enter Try.func13, Try.ntmps13
      go_wp2
      go_ret
      exact ⟨ret_bool (okB_yes h1 h2).symm, rfl⟩
    · go_enter Try.func13, Try.ntmps13
      go_wp2
      go_ret
      exact ⟨ret_bool (okB_no (by omega)).symm, rfl⟩
  · go_enter Try.func13, Try.ntmps13
    go_wp2
    go_ret
    exact ⟨ret_bool (okB_no (by omega)).symm, rfl⟩

/-- Can n stand in s bytes? -/
def fitB (s n : Int) : Bool := decide (0 ≤ n ∧ n < 256 ^ s.toNat)

theorem pow_two (s : Int) (h : 0 ≤ s) : (2 : Int) ^ (8 * s).toNat = 256 ^ s.toNat := by
  obtain ⟨k, rfl⟩ := Int.eq_ofNat_of_zero_le h
  have e1 : (8 * (k : Int)).toNat = 8 * k := by omega
  rw [e1, Int.toNat_natCast, Int.pow_mul]
  rfl

theorem fit_shr (s n : Int) (h : 0 ≤ s) : (n / 2 ^ (8 * s).toNat == 0) = fitB s n := by
  rw [pow_two s h]
  have hp : (0 : Int) < 256 ^ s.toNat := Int.pow_pos (by omega)
  unfold fitB
  rw [Bool.eq_iff_iff]
  simp only [beq_iff_eq, decide_eq_true_eq]
  constructor
  · intro e
    have h1 := Int.emod_nonneg n (Int.ne_of_gt hp)
    have h2 := Int.emod_lt_of_pos n hp
    have h3 := Int.mul_ediv_add_emod n (256 ^ s.toNat)
    rw [e] at h3
    omega
  · rintro ⟨h1, h2⟩
    exact Int.ediv_eq_zero_of_lt h1 h2

theorem fits_any (s n : Int) (w : World) (h1 : 1 ≤ s) (h7 : s ≤ 7) :
    Calls Try.prog 14 #[.int .i64 s, .int .i64 n] w fun e w' => e = .returned (.bool (fitB s n)) ∧ w = w' := by
  go_enter Try.func14, Try.ntmps14
  go_wp2
  go_ret
  exact ⟨ret_bool (fit_shr s n (by omega)), rfl⟩

/-- The slice of length n reads as the values xs: where there are any, they lie side by side below block number B. -/
def Lies (w : World) (B : Nat) (a : Option Addr) (xs : List Value) : Prop :=
  0 < xs.length → ∃ b off, a = some ⟨b, off, none⟩ ∧ b < B ∧ ∀ j u, xs[j]? = some u → w.cell? ⟨b, off + j, none⟩ = some u

theorem Lies.below {w w' : World} {B : Nat} {a : Option Addr} {xs : List Value} (h : Lies w B a xs) (hb : Below B w w') : Lies w' B a xs := by
  intro hx
  obtain ⟨b, off, e, hlt, hc⟩ := h hx
  exact ⟨b, off, e, hlt, fun j u hu => (hb.cell (p := ⟨b, off + j, none⟩) hlt).trans (hc j u hu)⟩

theorem Lies.mono {w : World} {B B' : Nat} {a : Option Addr} {xs : List Value} (h : Lies w B a xs) (hB : B ≤ B') : Lies w B' a xs := by
  intro hx
  obtain ⟨b, off, e, hlt, hc⟩ := h hx
  exact ⟨b, off, e, by omega, hc⟩

/-- Numbers as values. -/
def ints (l : List Int) : List Value := l.map (Value.int .i64)
theorem ints_length (l : List Int) : (ints l).length = l.length := by simp [ints]
theorem ints_get (l : List Int) (j : Nat) (h : j < l.length) : (ints l)[j]? = some (.int .i64 l[j]) := by simp [ints, h]
theorem ints_append (l m : List Int) : ints (l ++ m) = ints l ++ ints m := by simp [ints]

/-- The bytes as values. -/
def bytes (l : List UInt8) : List Value := l.map fun b => .int .u8 (b.toNat : Int)
theorem bytes_length (l : List UInt8) : (bytes l).length = l.length := by simp [bytes]
theorem bytes_append (l m : List UInt8) : bytes (l ++ m) = bytes l ++ bytes m := by simp [bytes]

/-- How many bytes the sizes are in all; 0 where one may not be. -/
def sum (l : List Int) : Int := l.foldl (· + ·) 0
def allOk (l : List Int) : Bool := l.all okB
theorem sum_snoc (l : List Int) (s : Int) : sum (l ++ [s]) = sum l + s := by simp [sum]
theorem sum_bd (l : List Int) (h : allOk l = true) : 0 ≤ sum l ∧ sum l ≤ 7 * l.length := by
  induction l using snoc_ind with
  | h0 => simp [sum]
  | h1 l s ih =>
    simp only [allOk, List.all_append, List.all_cons, List.all_nil, Bool.and_true, Bool.and_eq_true] at h
    have := ih h.1
    have h2 : 1 ≤ s ∧ s ≤ 7 := by simpa [okB] using h.2
    rw [sum_snoc, List.length_append, List.length_singleton]
    omega

theorem allOk_snoc (l : List Int) (s : Int) : allOk (l ++ [s]) = (allOk l && okB s) := by simp [allOk]
theorem take_snoc {α : Type} (l : List α) (k : Nat) (h : k < l.length) : l.take (k + 1) = l.take k ++ [l[k]] := by
  rw [List.take_succ_eq_append_getElem h]
theorem allOk_take {l : List Int} (k : Nat) (h : allOk l = true) : allOk (l.take k) = true := by
  unfold allOk at *
  rw [List.all_eq_true] at *
  intro x hx
  exact h x (List.mem_of_mem_take hx)
def tot (l : List Int) : Int := if allOk l then sum l else 0
theorem tot_yes {l : List Int} (h : allOk l = true) : tot l = sum l := by simp [tot, h]
theorem tot_no {l : List Int} (h : allOk l = false) : tot l = 0 := by simp [tot, h]

theorem ret_total {l : List Int} {a : Int} {b : Bool} (h1 : a = tot l) (h2 : b = allOk l) : Ending.returned (.tuple #[.int .i64 a, .bool b]) = .returned (.tuple #[.int .i64 (tot l), .bool (allOk l)]) := by rw [h1, h2]

theorem total_any (a : Option Addr) (cap : Nat) (l : List Int) (w : World) (hl : l.length ≤ 1152921504606846976) (hr : Lies w w.heap.size a (ints l)) :
    Calls Try.prog 16 #[.slice a l.length cap] w fun e w' =>
      e = .returned (.tuple #[.int .i64 (tot l), .bool (allOk l)]) ∧ w = w' := by
  go_enter Try.func16, Try.ntmps16
  go_wp2
  go_loop [4, 9] (fun t i => ∃ k : Nat, k ≤ l.length ∧ i = .int .i64 k ∧ allOk (l.take k) = true ∧ t = .int .i64 (sum (l.take k))) (fun _ i => l.length - (intOf i).toNat)
  case atStart => exact ⟨0, Nat.zero_le _, rfl, rfl, rfl⟩
  case round =>
    obtain ⟨k, hk, rfl, hall, rfl⟩ := hrel
    have hbd := sum_bd (l.take k) hall
    have hlen : (l.take k).length ≤ k := List.length_take_le _ _
    by_cases hlt : k < l.length
    · obtain ⟨b, off, rfl, hbb, hc⟩ := hr (by rw [ints_length]; omega)
      have hcell : w.cell? ⟨b, off + k, none⟩ = some (.int .i64 l[k]) := hc k _ (ints_get l k hlt)
      clear hc hr
      have HA := Lib.hid hall
      clear hall
      have HT := Lib.hid (take_snoc l k hlt)
      have HN : Hid (okB l[k] = false → allOk l = false) := Lib.hid fun hn => by
        cases hh : allOk l with
        | false => rfl
        | true =>
          have := allOk_take (k + 1) hh
          rw [HT.out, allOk_snoc, hn, Bool.and_false] at this
          cases this
      by_cases hok : okB l[k] = true
      · have hb2 : 1 ≤ l[k] ∧ l[k] ≤ 7 := by simpa [okB] using hok
        go_wp2_with (go_at_call 13; refine (right_any _ _).mono ?_; rintro e w' ⟨rfl, rfl⟩)
        go_round
        case rel => exact ⟨k + 1, by omega, by go_num, by rw [HT.out, allOk_snoc, HA.out, hok]; rfl, by rw [HT.out, sum_snoc]⟩
        case measure => simp [intOf]; omega
      · have hno : okB l[k] = false := by simpa using hok
        clear hok
        go_wp2_with (go_at_call 13; refine (right_any _ _).mono ?_; rintro e w' ⟨rfl, rfl⟩)
        go_ret2
        have h2 := HN.out hno
        exact ⟨ret_total (tot_no h2).symm h2.symm, rfl⟩
    · have HE : Hid (l.take k = l) := Lib.hid (List.take_of_length_le (by omega))
      have HA := Lib.hid hall
      clear hall
      go_wp2
      go_ret2
      have h1 := HA.out
      rw [HE.out] at h1
      exact ⟨ret_total (by rw [HE.out, tot_yes h1]) h1.symm, rfl⟩

theorem nat_i64 (a : Nat) (h : a < 9223372036854775808) : (BitVec.ofInt 64 (a : Int)).toNat = a := by
  rw [BitVec.ofInt_natCast, BitVec.toNat_ofNat]
  exact Nat.mod_eq_of_lt (by omega)
theorem or_i64 (a b : Nat) (ha : a < 9223372036854775808) (hb : b < 9223372036854775808) : bits .or .i64 (a : Int) (b : Int) = ((a ||| b : Nat) : Int) := by
  have hx : a ||| b < 2 ^ 63 := Nat.or_lt_two_pow (by omega) (by omega)
  show IntKind.i64.wrap ((BitVec.ofInt 64 (a : Int) ||| BitVec.ofInt 64 (b : Int)).toNat : Int) = _
  rw [BitVec.toNat_or, nat_i64 a ha, nat_i64 b hb, IntKind.wrap_i64]
  omega

theorem val_step (l : List UInt8) (b : UInt8) (h : l.length ≤ 6) :
    bits .or .i64 (wrap64 ((val l : Int) * 256)) (wrap64 (b.toNat : Int)) = (val (l ++ [b]) : Int) := by
  have hv := val_lt l
  have hb : b.toNat < 256 := b.toNat_lt
  have hp : 256 ^ l.length ≤ 256 ^ 6 := Nat.pow_le_pow_right (by omega) h
  have hn : (256 : Nat) ^ 6 = 281474976710656 := rfl
  rw [IntWalk.wrap64_in _ ⟨by omega, by omega⟩, IntWalk.wrap64_in _ ⟨by omega, by omega⟩]
  have e : (val l : Int) * 256 = ((2 ^ 8 * val l : Nat) : Int) := by omega
  rw [e, or_i64 _ _ (by omega) (by omega), ← Nat.two_pow_add_eq_or_of_lt (by omega), val_snoc]

theorem bytes_take (s : ByteArray) (k : Nat) (h : k < s.size) : s.data.toList.take (k + 1) = s.data.toList.take k ++ [s[k]] := by
  rw [List.take_succ_eq_append_getElem (by simpa using h)]; rfl

theorem number_any (s : ByteArray) (w : World) (hs : s.size ≤ 7) :
    Calls Try.prog 17 #[.string s] w fun e w' => e = .returned (.int .i64 (val s.data.toList)) ∧ w = w' := by
  go_enter Try.func17, Try.ntmps17
  go_wp2
  go_loop [3, 7] (fun t i => ∃ k : Nat, k ≤ s.size ∧ i = .int .i64 k ∧ t = .int .i64 (val (s.data.toList.take k))) (fun _ i => s.size - (intOf i).toNat)
  case atStart => exact ⟨0, Nat.zero_le _, rfl, rfl⟩
  case round =>
    obtain ⟨k, hk, rfl, rfl⟩ := hrel
    by_cases hlt : k < s.size
    · have HS : Hid (_ = _) := Lib.hid (val_step (s.data.toList.take k) s[k] (by rw [List.length_take]; omega))
      have HT := Lib.hid (bytes_take s k hlt)
      go_wp2
      go_round
      case rel => exact ⟨k + 1, by omega, by go_num, by rw [HS.out, HT.out]⟩
      case measure => simp [intOf]; omega
    · have HE : Hid (s.data.toList.take k = s.data.toList) := Lib.hid (List.take_of_length_le (by simp; omega))
      go_wp2
      go_ret
      exact ⟨ret_int (by rw [HE.out]), rfl⟩

/-- What num.add lays behind: the bytes of n, of which the s - k highest are laid. -/
theorem be_step (s k n : Nat) (hk : k < s) : (be s n).take (k + 1) = (be s n).take k ++ [UInt8.ofNat (n / 256 ^ (s - 1 - k) % 256)] := by
  induction s generalizing n k with
  | zero => omega
  | succ s ih =>
    rw [be_cons]
    cases k with
    | zero => simp
    | succ k =>
      rw [List.take_succ_cons, List.take_succ_cons, ih k n (by omega), List.cons_append]
      have e : s + 1 - 1 - (k + 1) = s - 1 - k := by omega
      rw [e]

theorem info_byte : (Try.prog.info? 5).map (fun i => (i.zero, i.size, i.bytes)) = some (some (.int .u8 0), 1, 1) := by kernel_rfl
theorem info_int : (Try.prog.info? 3).map (fun i => (i.zero, i.size, i.bytes)) = some (some (.int .i64 0), 1, 8) := by kernel_rfl

theorem add_any (v : Value) (m : Nat) (xs : List Value) (s n base : Nat) (w : World) (hs1 : 1 ≤ s) (hs : s ≤ 7) (hn : n < 256 ^ s) (hm : m ≤ 1000000) (hown : w.ownsRow base 5 1 v m xs) (hb : base ≤ w.heap.size) :
    Calls Try.prog 15 #[v, .int .i64 s, .int .i64 n] w fun e w' =>
      ∃ v', e = .returned v' ∧ w'.ownsRow base 5 1 v' (m + s) (xs ++ bytes (be s n)) ∧ Below base w w' := by
  obtain ⟨i0, hi, hz0, hz1, hz2⟩ := info_parts info_byte
  go_enter Try.func15, Try.ntmps15
  go_wp2
  go_loopw [0, 7] (fun v i wr => ∃ k : Nat, k ≤ s ∧ i = .int .i64 ((s : Int) - 1 - k) ∧ wr.ownsRow base 5 1 v (m + k) (xs ++ bytes ((be s n).take k)) ∧ Below base w wr)
    (fun _ i _ => (intOf i + 1).toNat)
  case atStart => exact ⟨0, Nat.zero_le _, by simp, by simpa [bytes] using hown, Below.refl _ _⟩
  case round =>
    obtain ⟨k, hk, rfl, hownr, hbw⟩ := hrel
    by_cases hlt : k < s
    · go_wp2_with (at_builtin; refine wpList_append_own _ rfl (.tmp 14) (.tmp 20) 39 rfl base 5 i0 (.int .u8 0) 1 1 Try.underlying39 hi hz0 hz1 hz2 rfl (by decide) _ _ _ rfl (hownr.alloc _) ⟨wr.heap.size, 0, none⟩ 1 1 [.int .u8 ((UInt8.ofNat (n / 256 ^ (s - 1 - k) % 256)).toNat : Int)] rfl rfl ?c1 ?c2 ?c3 ?c4 ?c5 ?_)
      case c1 =>
        intro j u hj
        match j, hj with
        | 0, hj =>
          simp at hj
          subst hj
          simp [Addr.add]
          rw [Int.pow_mul]
          rfl
      case c2 => intro u hu; simp at hu; subst hu; rfl
      case c3 => unfold maxLen; omega
      case c4 => omega
      case c5 => have := hbw.size; simp; omega
      intro v' w1 hown1 hg1 _
      have hb1 : Below base w w1 := (hbw.alloc (by have := hbw.size; omega) _).grown hg1 (by have := hbw.size; simp; omega) (fun j hj => (hownr.lt j hj).1)
      have ho2 : w1.ownsRow base 5 1 v' (m + (k + 1)) (xs ++ bytes ((be s n).take (k + 1))) := by
        have e : (((UInt8.ofNat (n / 256 ^ (s - 1 - k) % 256)).toNat : Nat) : Int) = (n : Int) / 256 ^ (s - 1 - k) % 256 := by rw [toNat_mod]; simp
        rw [be_step s k n hlt, bytes_append, ← Nat.add_assoc]
        simp only [bytes, List.map_cons, List.map_nil, e]
        exact hown1
      clear hown1 hg1 hownr hbw hown
      go_wp2
      go_roundw
      case rel => exact ⟨k + 1, by omega, by go_num, ho2, hb1⟩
      case measure => simp [intOf]; omega
    · go_wp2
      go_ret
      have e : k = s := by omega
      subst e
      rw [List.take_of_length_le (by rw [be_length]; omega)] at hownr
      exact ⟨_, rfl, hownr, hbw⟩

end Go.Proofs.Ytboecgopoadpdaa
