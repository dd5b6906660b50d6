/- The contract of num.Put. -/
import Derived.Test.YtpeofjlecgenbaaKit
import Derived.Test.YtpeofjlecgenbaaNumMath
namespace Go.Proofs.Ytpeofjlecgenbaa
open Go.RowKit NumMath
set_option maxRecDepth 100000

/-- May a number have that many bytes? -/
def okB (s : Int) : Bool := decide (1 ≤ s ∧ s ≤ 7)

theorem okB_yes {s : Int} (h1 : 1 ≤ s) (h2 : s ≤ 7) : okB s = true := by unfold okB; simp; omega
theorem okB_no {s : Int} (h : ¬ (1 ≤ s ∧ s ≤ 7)) : okB s = false := by unfold okB; simpa using h

theorem num_right_any (s : Int) (w : World) :
    Calls Try.prog 60 #[.int .i64 s] w fun e w' => e = .returned (.bool (okB s)) ∧ w = w' := by
  by_cases h1 : 1 ≤ s
  · by_cases h2 : s ≤ 7
    · go_enter Try.func60, Try.ntmps60
      go_wp2
      go_ret
      exact ⟨ret_bool (okB_yes h1 h2).symm, rfl⟩
    · go_enter Try.func60, Try.ntmps60
      go_wp2
      go_ret
      exact ⟨ret_bool (okB_no (by omega)).symm, rfl⟩
  · go_enter Try.func60, Try.ntmps60
    go_wp2
    go_ret
    exact ⟨ret_bool (okB_no (by omega)).symm, rfl⟩

/-- Can n stand in s bytes? -/
def fitB (s n : Int) : Bool := decide (0 ≤ n ∧ n < 256 ^ s.toNat)

theorem pow_two (s : Int) (h : 0 ≤ s) : (2 : Int) ^ (8 * s).toNat = 256 ^ s.toNat := by
  obtain ⟨k, rfl⟩ := Int.eq_ofNat_of_zero_le h
  have e1 : (8 * (k : Int)).toNat = 8 * k := by omega
  rw [e1, Int.toNat_natCast, Int.pow_mul]
  rfl

theorem fit_shr (s n : Int) (h : 0 ≤ s) : (n / 2 ^ (8 * s).toNat == 0) = fitB s n := by
  rw [pow_two s h]
  have hp : (0 : Int) < 256 ^ s.toNat := Int.pow_pos (by omega)
  unfold fitB
  rw [Bool.eq_iff_iff]
  simp only [beq_iff_eq, decide_eq_true_eq]
  constructor
  · intro e
    have h1 := Int.emod_nonneg n (Int.ne_of_gt hp)
    have h2 := Int.emod_lt_of_pos n hp
    have h3 := Int.mul_ediv_add_emod n (256 ^ s.toNat)
    rw [e] at h3
    omega
  · rintro ⟨h1, h2⟩
    exact Int.ediv_eq_zero_of_lt h1 h2

theorem num_fits_any (s n : Int) (w : World) (h1 : 1 ≤ s) (h7 : s ≤ 7) :
    Calls Try.prog 61 #[.int .i64 s, .int .i64 n] w fun e w' => e = .returned (.bool (fitB s n)) ∧ w = w' := by
  go_enter Try.func61, Try.ntmps61
  go_wp2
  go_ret
  exact ⟨ret_bool (fit_shr s n (by omega)), rfl⟩

/-- What num.add lays behind: the bytes of n, of which the s - k highest are laid. -/
theorem be_step (s k n : Nat) (hk : k < s) : (be s n).take (k + 1) = (be s n).take k ++ [UInt8.ofNat (n / 256 ^ (s - 1 - k) % 256)] := by
  induction s generalizing n k with
  | zero => omega
  | succ s ih =>
    rw [be_cons]
    cases k with
    | zero => simp
    | succ k =>
      rw [List.take_succ_cons, List.take_succ_cons, ih k n (by omega), List.cons_append]
      have e : s + 1 - 1 - (k + 1) = s - 1 - k := by omega
      rw [e]

theorem num_add_any (v : Value) (m : Nat) (xs : List Value) (s n base : Nat) (w : World) (hs1 : 1 ≤ s) (hs : s ≤ 7) (hn : n < 256 ^ s) (hm : m ≤ 1000000) (hown : w.ownsRow base 5 1 v m xs) (hb : base ≤ w.heap.size) :
    Calls Try.prog 62 #[v, .int .i64 s, .int .i64 n] w fun e w' =>
      ∃ v', e = .returned v' ∧ w'.ownsRow base 5 1 v' (m + s) (xs ++ bytes (be s n)) ∧ Below base w w' := by
  obtain ⟨i0, hi, hz0, hz1, hz2⟩ := info_parts info_byte
  go_enter Try.func62, Try.ntmps62
  go_wp2
  go_loopw [0, 7] (fun v i wr => ∃ k : Nat, k ≤ s ∧ i = .int .i64 ((s : Int) - 1 - k) ∧ wr.ownsRow base 5 1 v (m + k) (xs ++ bytes ((be s n).take k)) ∧ Below base w wr)
    (fun _ i _ => (intOf i + 1).toNat)
  case atStart => exact ⟨0, Nat.zero_le _, by simp, by simpa [bytes] using hown, Below.refl _ _⟩
  case round =>
    obtain ⟨k, hk, rfl, hownr, hbw⟩ := hrel
    by_cases hlt : k < s
    · go_wp2_with (at_builtin; refine wpList_append_own _ rfl (.tmp 14) (.tmp 20) 58 rfl base 5 i0 (.int .u8 0) 1 1 Try.underlying58 hi hz0 hz1 hz2 rfl (by decide) _ _ _ rfl (hownr.alloc _) ⟨wr.heap.size, 0, none⟩ 1 1 [.int .u8 ((UInt8.ofNat (n / 256 ^ (s - 1 - k) % 256)).toNat : Int)] rfl rfl ?c1 ?c2 ?c3 ?c4 ?c5 ?_)
      case c1 =>
        intro j u hj
        match j, hj with
        | 0, hj =>
          simp at hj
          subst hj
          simp [Addr.add]
          rw [Int.pow_mul]
          rfl
      case c2 => intro u hu; simp at hu; subst hu; rfl
      case c3 => unfold maxLen; omega
      case c4 => omega
      case c5 => have := hbw.size; simp; omega
      intro v' w1 hown1 hg1 _
      have hb1 : Below base w w1 := (hbw.alloc (by have := hbw.size; omega) _).grown hg1 (by have := hbw.size; simp; omega) (fun j hj => (hownr.lt j hj).1)
      have ho2 : w1.ownsRow base 5 1 v' (m + (k + 1)) (xs ++ bytes ((be s n).take (k + 1))) := by
        have e : (((UInt8.ofNat (n / 256 ^ (s - 1 - k) % 256)).toNat : Nat) : Int) = (n : Int) / 256 ^ (s - 1 - k) % 256 := by rw [toNat_mod]; simp
        rw [be_step s k n hlt, bytes_append, ← Nat.add_assoc]
        simp only [bytes, List.map_cons, List.map_nil, e]
        exact hown1
      clear hown1 hg1 hownr hbw hown
      go_wp2
      go_roundw
      case rel => exact ⟨k + 1, by omega, by go_num, ho2, hb1⟩
      case measure => simp [intOf]; omega
    · go_wp2
      go_ret
      have e : k = s := by omega
      subst e
      rw [List.take_of_length_le (by rw [be_length]; omega)] at hownr
      exact ⟨_, rfl, hownr, hbw⟩

/-- The bytes of all numbers. -/
def putBytes (s : Int) (l : List Int) : List UInt8 := l.flatMap fun n => be s.toNat n.toNat
def fitAll (s : Int) (l : List Int) : Bool := l.all (fitB s)
theorem putBytes_snoc (s : Int) (l : List Int) (n : Int) : putBytes s (l ++ [n]) = putBytes s l ++ be s.toNat n.toNat := by simp [putBytes]
theorem fitAll_snoc (s : Int) (l : List Int) (n : Int) : fitAll s (l ++ [n]) = (fitAll s l && fitB s n) := by simp [fitAll]
theorem putBytes_length (s : Int) (l : List Int) : (putBytes s l).length = l.length * s.toNat := by
  induction l with
  | nil => simp [putBytes]
  | cons n l ih =>
    have : putBytes s (n :: l) = be s.toNat n.toNat ++ putBytes s l := by simp [putBytes]
    rw [this, List.length_append, ih, be_length, List.length_cons, Nat.add_mul, Nat.one_mul, Nat.add_comm]
theorem fitAll_take {s : Int} {l : List Int} (k : Nat) (h : fitAll s l = true) : fitAll s (l.take k) = true := by
  unfold fitAll at *
  rw [List.all_eq_true] at *
  intro x hx
  exact h x (List.mem_of_mem_take hx)

/-- num.Put's answer: the bytes, and the error's number. -/
def putR (s : Int) (l : List Int) : List UInt8 × Int :=
  if okB s then if fitAll s l then (putBytes s l, 0) else ([], 2) else ([], 1)
theorem putR_arg {s : Int} {l : List Int} (h : okB s = false) : putR s l = ([], 1) := by simp [putR, h]
theorem putR_range {s : Int} {l : List Int} (h : okB s = true) (h2 : fitAll s l = false) : putR s l = ([], 2) := by simp [putR, h, h2]
theorem putR_ok {s : Int} {l : List Int} (h : okB s = true) (h2 : fitAll s l = true) : putR s l = (putBytes s l, 0) := by simp [putR, h, h2]

def Answers (s : Int) (l : List Int) (w : World) (e : Ending) (w' : World) : Prop :=
  e = .returned (.tuple #[.string (str (putR s l).1), .int .i64 (putR s l).2]) ∧ Below w.heap.size w w'

theorem add_int (v : Value) (m : Nat) (xs : List Value) (s : Nat) (x : Int) (base : Nat) (w : World) (hs1 : 1 ≤ s) (hs : s ≤ 7) (h0 : 0 ≤ x) (hx : x < 256 ^ s) (hm : m ≤ 1000000) (hown : w.ownsRow base 5 1 v m xs) (hb : base ≤ w.heap.size) :
    Calls Try.prog 62 #[v, .int .i64 s, .int .i64 x] w fun e w' =>
      ∃ v', e = .returned v' ∧ w'.ownsRow base 5 1 v' (m + s) (xs ++ bytes (be s x.toNat)) ∧ Below base w w' := by
  obtain ⟨n, rfl⟩ := Int.eq_ofNat_of_zero_le h0
  have hn : n < 256 ^ s := by
    have e : ((256 ^ s : Nat) : Int) = 256 ^ s := by simp
    omega
  exact num_add_any v m xs s n base w hs1 hs hn hm hown hb

theorem put_any (s : Int) (a : Option Addr) (cap : Nat) (l : List Int) (w : World) (hl : l.length ≤ 100000) (hr : Lies w w.heap.size a (ints l)) :
    Calls Try.prog 45 #[.int .i64 s, .slice a l.length cap] w (Answers s l w) := by
  by_cases hok : okB s = true
  · have hb2 : 1 ≤ s ∧ s ≤ 7 := by simpa [okB] using hok
    obtain ⟨n, rfl⟩ := Int.eq_ofNat_of_zero_le (show 0 ≤ s by omega)
    have hn1 : 1 ≤ n := by omega
    have hn7 : n ≤ 7 := by omega
    have hmul : n * l.length ≤ 7 * l.length := Nat.mul_le_mul_right _ hn7
    obtain ⟨p, hp⟩ : ∃ p, p = n * l.length := ⟨_, rfl⟩
    have hwr : wrap64 ((n : Int) * (l.length : Int)) = (p : Int) := by
      have e : (n : Int) * (l.length : Int) = (p : Int) := by rw [hp]; simp
      rw [e]
      exact IntWalk.wrap64_in _ ⟨by omega, by omega⟩
    have hpb : p ≤ 700000 := by omega
    have HP := Lib.hid hp
    clear hp hmul
    obtain ⟨i0, hi, hz0, hz1, hz2⟩ := info_parts info_byte
    go_enter Try.func45, Try.ntmps45
    go_wp2_with (first | (go_at_call 60; refine (num_right_any _ _).mono ?_; rintro e w' ⟨rfl, rfl⟩) | (at_make; refine wpList_make_own _ rfl (.const (.int .i64 0)) (.tmp 15) 58 rfl w.heap.size 5 i0 (.int .u8 0) 1 Try.underlying58 hi hz0 hz1 _ _ _ p rfl rfl hwr ?b2 ?b3 (Nat.le_refl _) ?_))
    case b2 => rw [hz2]; omega
    case b3 => unfold maxLen; omega
    intro w0 hown0 hg0
    go_wp2
    have hb0 : Below w.heap.size w w0 := (Below.refl _ _).grown hg0 (Nat.le_refl _) (fun k h => by cases h)
    go_loopw [6, 19] (fun v i wr => ∃ k : Nat, k ≤ l.length ∧ i = .int .i64 k ∧ fitAll n (l.take k) = true ∧ wr.ownsRow w.heap.size 5 1 v (k * n) (bytes (putBytes n (l.take k))) ∧ Below w.heap.size w wr)
      (fun _ i _ => l.length - (intOf i).toNat)
    case atStart => exact ⟨0, Nat.zero_le _, rfl, rfl, by simpa [bytes, putBytes, Value.slice] using hown0, hb0⟩
    case round =>
      obtain ⟨k, hk, rfl, hall, hownr, hbw⟩ := hrel
      by_cases hlt : k < l.length
      · obtain ⟨b, off, rfl, hbb, hc⟩ := hr (by rw [ints_length]; omega)
        have hcell : wr.cell? ⟨b, off + k, none⟩ = some (.int .i64 l[k]) := (hbw.cell (p := ⟨b, off + k, none⟩) hbb).trans (hc k _ (ints_get l k hlt))
        clear hc hr hown0 hg0 hb0
        have HA := Lib.hid hall
        clear hall
        have HT := Lib.hid (take_snoc l k hlt)
        by_cases hfit : fitB n l[k] = true
        · have hf2 : 0 ≤ l[k] ∧ l[k] < 256 ^ n := by simpa [fitB] using hfit
          have hkn : k * n ≤ 1000000 := by have := Nat.mul_le_mul (show k ≤ 100000 by omega) hn7; omega
          go_wp2_with (first | (go_at_call 61; refine (num_fits_any _ _ _ (by omega) (by omega)).mono ?_; rintro e w' ⟨rfl, rfl⟩) | (go_at_call 62; refine (add_int _ _ _ _ _ _ _ hn1 hn7 hf2.1 hf2.2 hkn hownr hbw.size).mono ?_; rintro e w1 ⟨v', rfl, hown1, hb1⟩))
          go_roundw
          case rel => exact ⟨k + 1, by omega, by go_num, by rw [HT.out, fitAll_snoc, HA.out, hfit]; rfl, by rw [HT.out, putBytes_snoc, bytes_append, Nat.succ_mul]; simpa using hown1, hbw.trans hb1⟩
          case measure => simp [intOf]; omega
        · have hno : fitB n l[k] = false := by simpa using hfit
          clear hfit
          go_wp2_with (go_at_call 61; refine (num_fits_any _ _ _ (by omega) (by omega)).mono ?_; rintro e w' ⟨rfl, rfl⟩)
          go_ret2
          have hnot : fitAll n l = false := by
            cases hh : fitAll n l with
            | false => rfl
            | true =>
              have := fitAll_take (k + 1) hh
              rw [HT.out, fitAll_snoc, hno, Bool.and_false] at this
              cases this
          exact ⟨by rw [putR_range hok hnot]; rfl, hbw⟩
      · have HE : Hid (l.take k = l) := Lib.hid (List.take_of_length_le (by omega))
        have hconv := own_string hownr
        have HA := Lib.hid hall
        clear hall
        go_wp2
        go_ret2
        have h1 := HA.out
        rw [HE.out] at h1
        exact ⟨by rw [putR_ok hok h1, HE.out]; rfl, hbw⟩
  · have hno : okB s = false := by simpa using hok
    clear hok
    go_enter Try.func45, Try.ntmps45
    go_wp2_with (go_at_call 60; refine (num_right_any _ _).mono ?_; rintro e w' ⟨rfl, rfl⟩)
    go_ret2
    exact ⟨by rw [putR_arg hno]; rfl, Below.refl _ _⟩

/-- The contract where the length stands by another name, and the answer is known. -/
theorem put_at (s : Int) (a : Option Addr) (n cap : Nat) (l : List Int) (L : List UInt8) (c : Int) (w : World) (hn : l.length = n) (hR : putR s l = (L, c)) (hl : n ≤ 100000) (hr : Lies w w.heap.size a (ints l)) :
    Calls Try.prog 45 #[.int .i64 s, .slice a n cap] w fun e w' => e = .returned (.tuple #[.string (str L), .int .i64 c]) ∧ Below w.heap.size w w' := by
  subst hn
  refine (put_any s a cap l w hl hr).mono fun e w' h => ?_
  unfold Answers at h
  rw [hR] at h
  exact h

end Go.Proofs.Ytpeofjlecgenbaa
