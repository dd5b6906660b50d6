/- Contracts of num's functions: Put, Size, Take. -/
import Derived.Test.YtboecgopoadpdaaNumA
import Derived.Laws.IdiomStrings
import Derived.Laws.BytesArg
namespace Go.Proofs.Ytboecgopoadpdaa
open Go.RowKit NumMath

/-- A string of these bytes. -/
def str (l : List UInt8) : ByteArray := ⟨l.toArray⟩
theorem str_size (l : List UInt8) : (str l).size = l.length := by simp [str, ByteArray.size]
theorem str_list (l : List UInt8) : (str l).data.toList = l := by simp [str]
theorem str_of (s : ByteArray) : str s.data.toList = s := by simp [str]

/-- What a row of the call's own holds, as a string. -/
theorem own_string {base : Nat} {v : Value} {n : Nat} {l : List UInt8} {w : World} (h : w.ownsRow base 5 1 v n (bytes l)) :
    (convert 39 9 v).run Try.prog w = .ok (.string (str l)) w := by
  have hn : l.length = n := by have := h.1; rw [bytes_length] at this; omega
  rcases h.2 with ⟨rfl, rfl⟩ | ⟨g, cap, cur, rfl, _⟩
  · have : l = [] := List.eq_nil_of_length_eq_zero hn
    subst this
    exact run_convert_bytes_nil w _ _ Try.underlying39 Try.underlying5 _ _ _ Try.underlying9
  · subst hn
    refine run_convert_bytes_back w _ _ _ _ _ l Try.underlying39 Try.underlying5 Try.underlying9 fun j hj => ?_
    exact h.cells (g := g) rfl j _ (by simp [bytes, hj])

/-- The bytes of all numbers. -/
def putBytes (s : Int) (l : List Int) : List UInt8 := l.flatMap fun n => be s.toNat n.toNat
def fitAll (s : Int) (l : List Int) : Bool := l.all (fitB s)
theorem putBytes_snoc (s : Int) (l : List Int) (n : Int) : putBytes s (l ++ [n]) = putBytes s l ++ be s.toNat n.toNat := by simp [putBytes]
theorem fitAll_snoc (s : Int) (l : List Int) (n : Int) : fitAll s (l ++ [n]) = (fitAll s l && fitB s n) := by simp [fitAll]
theorem putBytes_length (s : Int) (l : List Int) : (putBytes s l).length = l.length * s.toNat := by
  induction l with
  | nil => simp [putBytes]
  | cons n l ih =>
    have : putBytes s (n :: l) = be s.toNat n.toNat ++ putBytes s l := by simp [putBytes]
    rw [this, List.length_append, ih, be_length, List.length_cons, Nat.add_mul, Nat.one_mul, Nat.add_comm]
theorem fitAll_take {s : Int} {l : List Int} (k : Nat) (h : fitAll s l = true) : fitAll s (l.take k) = true := by
  unfold fitAll at *
  rw [List.all_eq_true] at *
  intro x hx
  exact h x (List.mem_of_mem_take hx)

/-- num.Put's answer: the bytes, and the error's number. -/
def putR (s : Int) (l : List Int) : List UInt8 × Int :=
  if okB s then if fitAll s l then (putBytes s l, 0) else ([], 2) else ([], 1)
theorem putR_arg {s : Int} {l : List Int} (h : okB s = false) : putR s l = ([], 1) := by simp [putR, h]
theorem putR_range {s : Int} {l : List Int} (h : okB s = true) (h2 : fitAll s l = false) : putR s l = ([], 2) := by simp [putR, h, h2]
theorem putR_ok {s : Int} {l : List Int} (h : okB s = true) (h2 : fitAll s l = true) : putR s l = (putBytes s l, 0) := by simp [putR, h, h2]

def Answers (s : Int) (l : List Int) (w : World) (e : Ending) (w' : World) : Prop :=
  e = .returned (.tuple #[.string (str (putR s l).1), .int .i64 (putR s l).2]) ∧ Below w.heap.size w w'

theorem add_int (v : Value) (m : Nat) (xs : List Value) (s : Nat) (x : Int) (base : Nat) (w : World) (hs1 : 1 ≤ s) (hs : s ≤ 7) (h0 : 0 ≤ x) (hx : x < 256 ^ s) (hm : m ≤ 1000000) (hown : w.ownsRow base 5 1 v m xs) (hb : base ≤ w.heap.size) :
    Calls Try.prog 15 #[v, .int .i64 s, .int .i64 x] w fun e w' =>
      ∃ v', e = .returned v' ∧ w'.ownsRow base 5 1 v' (m + s) (xs ++ bytes (be s x.toNat)) ∧ Below base w w' := by
  obtain ⟨n, rfl⟩ := Int.eq_ofNat_of_zero_le h0
  have hn : n < 256 ^ s := by
    have e : ((256 ^ s : Nat) : Int) = 256 ^ s := by simp
    omega
  exact add_any v m xs s n base w hs1 hs hn hm hown hb

theorem put_any (s : Int) (a : Option Addr) (cap : Nat) (l : List Int) (w : World) (hl : l.length ≤ 100000) (hr : Lies w w.heap.size a (ints l)) :
    Calls Try.prog 7 #[.int .i64 s, .slice a l.length cap] w (Answers s l w) := by
  by_cases hok : okB s = true
  · have hb2 : 1 ≤ s ∧ s ≤ 7 := by simpa [okB] using hok
    obtain ⟨n, rfl⟩ := Int.eq_ofNat_of_zero_le (show 0 ≤ s by omega)
    have hn1 : 1 ≤ n := by omega
    have hn7 : n ≤ 7 := by omega
    have hmul : n * l.length ≤ 7 * l.length := Nat.mul_le_mul_right _ hn7
    obtain ⟨p, hp⟩ : ∃ p, p = n * l.length := ⟨_, rfl⟩
    have hwr : wrap64 ((n : Int) * (l.length : Int)) = (p : Int) := by
      have e : (n : Int) * (l.length : Int) = (p : Int) := by rw [hp]; simp
      rw [e]
      exact IntWalk.wrap64_in _ ⟨by omega, by omega⟩
    have hpb : p ≤ 700000 := by omega
    have HP := Lib.hid hp
    clear hp hmul
    obtain ⟨i0, hi, hz0, hz1, hz2⟩ := info_parts info_byte
    go_enter Try.func7, Try.ntmps7
    go_wp2_with (first | (go_at_call 13; refine (right_any _ _).mono ?_; rintro e w' ⟨rfl, rfl⟩) | (at_make; refine wpList_make_own _ rfl (.const (.int .i64 0)) (.tmp 15) 39 rfl w.heap.size 5 i0 (.int .u8 0) 1 Try.underlying39 hi hz0 hz1 _ _ _ p rfl rfl hwr ?b2 ?b3 (Nat.le_refl _) ?_))
    case b2 => rw [hz2]; omega
    case b3 => unfold maxLen; omega
    intro w0 hown0 hg0
    go_wp2
    have hb0 : Below w.heap.size w w0 := (Below.refl _ _).grown hg0 (Nat.le_refl _) (fun k h => by cases h)
    go_loopw [6, 19] (fun v i wr => ∃ k : Nat, k ≤ l.length ∧ i = .int .i64 k ∧ fitAll n (l.take k) = true ∧ wr.ownsRow w.heap.size 5 1 v (k * n) (bytes (putBytes n (l.take k))) ∧ Below w.heap.size w wr)
      (fun _ i _ => l.length - (intOf i).toNat)
    case atStart => exact ⟨0, Nat.zero_le _, rfl, rfl, by simpa [bytes, putBytes, Value.slice] using hown0, hb0⟩
    case round =>
      obtain ⟨k, hk, rfl, hall, hownr, hbw⟩ := hrel
      by_cases hlt : k < l.length
      · obtain ⟨b, off, rfl, hbb, hc⟩ := hr (by rw [ints_length]; omega)
        have hcell : wr.cell? ⟨b, off + k, none⟩ = some (.int .i64 l[k]) := (hbw.cell (p := ⟨b, off + k, none⟩) hbb).trans (hc k _ (ints_get l k hlt))
        clear hc hr hown0 hg0 hb0
        have HA := Lib.hid hall
        clear hall
        have HT := Lib.hid (take_snoc l k hlt)
        by_cases hfit : fitB n l[k] = true
        · have hf2 : 0 ≤ l[k] ∧ l[k] < 256 ^ n := by simpa [fitB] using hfit
          have hkn : k * n ≤ 1000000 := by have := Nat.mul_le_mul (show k ≤ 100000 by omega) hn7; omega
          go_wp2_with (first | (go_at_call 14; refine (fits_any _ _ _ (by omega) (by omega)).mono ?_; rintro e w' ⟨rfl, rfl⟩) | (go_at_call 15; refine (add_int _ _ _ _ _ _ _ hn1 hn7 hf2.1 hf2.2 hkn hownr hbw.size).mono ?_; rintro e w1 ⟨v', rfl, hown1, hb1⟩))
          go_roundw
          case rel => exact ⟨k + 1, by omega, by go_num, by rw [HT.out, fitAll_snoc, HA.out, hfit]; rfl, by rw [HT.out, putBytes_snoc, bytes_append, Nat.succ_mul]; simpa using hown1, hbw.trans hb1⟩
          case measure => simp [intOf]; omega
        · have hno : fitB n l[k] = false := by simpa using hfit
          clear hfit
          go_wp2_with (go_at_call 14; refine (fits_any _ _ _ (by omega) (by omega)).mono ?_; rintro e w' ⟨rfl, rfl⟩)
          go_ret2
          have hnot : fitAll n l = false := by
            cases hh : fitAll n l with
            | false => rfl
            | true =>
              have := fitAll_take (k + 1) hh
              rw [HT.out, fitAll_snoc, hno, Bool.and_false] at this
              cases this
          exact ⟨by rw [putR_range hok hnot]; rfl, hbw⟩
      · have HE : Hid (l.take k = l) := Lib.hid (List.take_of_length_le (by omega))
        have hconv := own_string hownr
        have HA := Lib.hid hall
        clear hall
        go_wp2
        go_ret2
        have h1 := HA.out
        rw [HE.out] at h1
        exact ⟨by rw [putR_ok hok h1, HE.out]; rfl, hbw⟩
  · have hno : okB s = false := by simpa using hok
    clear hok
    go_enter Try.func7, Try.ntmps7
    go_wp2_with (go_at_call 13; refine (right_any _ _).mono ?_; rintro e w' ⟨rfl, rfl⟩)
    go_ret2
    exact ⟨by rw [putR_arg hno]; rfl, Below.refl _ _⟩

end Go.Proofs.Ytboecgopoadpdaa
