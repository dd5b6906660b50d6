/- Contracts of num's functions: Size, Take. -/
import Derived.Test.YtboecgopoadpdaaNumB
import Derived.Lib.Strings
import Derived.WalkSpells
namespace Go.Proofs.Ytboecgopoadpdaa
open Go.RowKit NumMath

theorem size_any (a : Option Addr) (cap : Nat) (l : List Int) (w : World) (hl : l.length ≤ 1152921504606846976) (hr : Lies w w.heap.size a (ints l)) :
    Calls Try.prog 11 #[.slice a l.length cap] w fun e w' => e = .returned (.int .i64 (tot l)) ∧ w = w' := by
  go_enter Try.func11, Try.ntmps11
  go_wp2_with (go_at_call 16; refine (total_any _ _ _ _ hl hr).mono ?_; rintro e w' ⟨rfl, rfl⟩)
  go_ret
  exact ⟨rfl, rfl⟩

/-- The numbers of these sizes that stand there. -/
def nums : List UInt8 → List Int → List Int
  | _, [] => []
  | L, s :: r => (val (L.take s.toNat) : Int) :: nums (L.drop s.toNat) r
theorem nums_length (L : List UInt8) (l : List Int) : (nums L l).length = l.length := by
  induction l generalizing L with
  | nil => rfl
  | cons s r ih => simp [nums, ih]
/-- How many bytes the sizes are. -/
def width (l : List Int) : Nat := l.foldr (fun s n => s.toNat + n) 0
theorem width_snoc (l : List Int) (s : Int) : width (l ++ [s]) = width l + s.toNat := by
  induction l with
  | nil => simp [width]
  | cons x l ih =>
    have e : width (x :: (l ++ [s])) = x.toNat + width (l ++ [s]) := rfl
    have e2 : width (x :: l) = x.toNat + width l := rfl
    rw [List.cons_append, e, ih, e2]
    omega
theorem nums_snoc (L : List UInt8) (l : List Int) (s : Int) : nums L (l ++ [s]) = nums L l ++ [(val ((L.drop (width l)).take s.toNat) : Int)] := by
  induction l generalizing L with
  | nil => simp [nums, width]
  | cons x l ih =>
    have e2 : width (x :: l) = x.toNat + width l := rfl
    rw [List.cons_append, nums, ih, nums, List.cons_append, e2, List.drop_drop]
theorem sum_width (l : List Int) (h : allOk l = true) : sum l = width l := by
  induction l using snoc_ind with
  | h0 => rfl
  | h1 l s ih =>
    simp only [allOk, List.all_append, List.all_cons, List.all_nil, Bool.and_true, Bool.and_eq_true] at h
    have h2 : 1 ≤ s ∧ s ≤ 7 := by simpa [okB] using h.2
    rw [sum_snoc, width_snoc, ih h.1]
    omega
theorem width_take_le (l : List Int) (k : Nat) : width (l.take k) ≤ width l := by
  induction l generalizing k with
  | nil => simp
  | cons x l ih =>
    cases k with
    | zero => simp [width]
    | succ k =>
      have e2 : width (x :: l) = x.toNat + width l := rfl
      have e3 : width (x :: l.take k) = x.toNat + width (l.take k) := rfl
      have := ih k
      rw [List.take_succ_cons, e2, e3]
      omega

/-- num.Take's answer: the numbers, and the error's number. -/
def takeR (L : List UInt8) (l : List Int) : List Int × Int :=
  if allOk l then if L.length < width l then ([], 13) else (nums L l, 0) else ([], 1)
theorem takeR_arg {L : List UInt8} {l : List Int} (h : allOk l = false) : takeR L l = ([], 1) := by simp [takeR, h]
theorem takeR_short {L : List UInt8} {l : List Int} (h : allOk l = true) (h2 : L.length < width l) : takeR L l = ([], 13) := by simp [takeR, h, h2]
theorem takeR_ok {L : List UInt8} {l : List Int} (h : allOk l = true) (h2 : width l ≤ L.length) : takeR L l = (nums L l, 0) := by simp [takeR, h, Nat.not_lt.2 h2]

def Takes (L : List UInt8) (l : List Int) (w : World) (e : Ending) (w' : World) : Prop :=
  ∃ v, e = .returned (.tuple #[v, .int .i64 (takeR L l).2]) ∧ w'.ownsRow w.heap.size 3 1 v (takeR L l).1.length (ints (takeR L l).1) ∧ Below w.heap.size w w'

theorem drop_extract (t : ByteArray) (n : Nat) : (t.extract n t.size).data.toList = t.data.toList.drop n := by
  rw [Lib.extract_data]
  exact List.take_of_length_le (by rw [List.length_drop]; simp)
theorem take_extract (t : ByteArray) (n : Nat) : (t.extract 0 n).data.toList = t.data.toList.take n := by
  rw [Lib.extract_data]; simp

theorem take_any (s : ByteArray) (a : Option Addr) (cap : Nat) (l : List Int) (w : World) (hl : l.length ≤ 100000) (_hs : s.size ≤ 140737488355328) (hr : Lies w w.heap.size a (ints l)) :
    Calls Try.prog 9 #[.string s, .slice a l.length cap] w (Takes s.data.toList l w) := by
  by_cases hok : allOk l = true
  · have hT := sum_bd l hok
    have hW := sum_width l hok
    obtain ⟨p, hp⟩ : ∃ p, p = width l := ⟨_, rfl⟩
    have ht : tot l = (p : Int) := by rw [tot_yes hok, hW, hp]
    have hpb : p ≤ 700000 := by rw [hp]; omega
    have HW := Lib.hid hW
    have HP := Lib.hid hp
    clear hW hp hT
    obtain ⟨i0, hi, hz0, hz1, hz2⟩ := info_parts info_int
    by_cases hshort : s.size < p
    · go_enter Try.func9, Try.ntmps9
      go_wp2_with (go_at_call 16; refine (total_any _ _ _ _ (by omega) hr).mono ?_; rintro e w' ⟨rfl, rfl⟩)
      go_ret2
      have h2 := takeR_short (L := s.data.toList) hok (by rw [← HP.out]; simpa using hshort)
      exact ⟨_, by rw [h2]; rfl, by rw [h2]; exact World.ownsRow_nil _ _ _ _, Below.refl _ _⟩
    · go_enter Try.func9, Try.ntmps9
      go_wp2_with (first | (go_at_call 16; refine (total_any _ _ _ _ (by omega) hr).mono ?_; rintro e w' ⟨rfl, rfl⟩) | (at_make; refine wpList_make_own _ rfl (.const (.int .i64 0)) (.tmp 23) 22 rfl w.heap.size 3 i0 (.int .i64 0) 1 Try.underlying22 hi hz0 hz1 _ _ _ l.length rfl rfl rfl ?b2 ?b3 (Nat.le_refl _) ?_))
      case b2 => rw [hz2]; omega
      case b3 => unfold maxLen; omega
      intro w0 hown0 hg0
      go_wp2
      have hb0 : Below w.heap.size w w0 := (Below.refl _ _).grown hg0 (Nat.le_refl _) (fun k h => by cases h)
      clear hg0
      go_loopw [0, 8, 27] (fun t v i wr => ∃ (k : Nat) (T : ByteArray), k ≤ l.length ∧ i = .int .i64 k ∧ t = .string T ∧ T.data.toList = s.data.toList.drop (width (l.take k)) ∧ v = .slice (some ⟨w.heap.size, 0, none⟩) k l.length ∧
          wr.ownsRow w.heap.size 3 1 (.slice (some ⟨w.heap.size, 0, none⟩) k l.length) k (ints (nums s.data.toList (l.take k))) ∧ Below w.heap.size w wr)
        (fun _ _ i _ => l.length - (intOf i).toNat)
      case atStart => exact ⟨0, s, Nat.zero_le _, rfl, rfl, by simp [width], rfl, by simpa [ints, nums] using hown0, hb0⟩
      case round =>
        obtain ⟨k, T, hk, rfl, rfl, hT, rfl, hownr, hbw⟩ := hrel
        by_cases hlt : k < l.length
        · obtain ⟨b, off, rfl, hbb, hc⟩ := hr (by rw [ints_length]; omega)
          have hcell0 : wr.cell? ⟨b, off + k, none⟩ = some (.int .i64 l[k]) := (hbw.cell (p := ⟨b, off + k, none⟩) hbb).trans (hc k _ (ints_get l k hlt))
          have HT := Lib.hid (take_snoc l k hlt)
          have hok1 : 1 ≤ l[k] ∧ l[k] ≤ 7 := by
            have := allOk_take (k + 1) hok
            rw [HT.out, allOk_snoc, Bool.and_eq_true] at this
            simpa [okB] using this.2
          obtain ⟨m, hm⟩ : ∃ m : Nat, l[k] = (m : Int) := ⟨l[k].toNat, by omega⟩
          have hm1 : 1 ≤ m := by omega
          have hm7 : m ≤ 7 := by omega
          rw [hm] at hcell0
          have hwk : width (l.take (k + 1)) = width (l.take k) + m := by rw [HT.out, width_snoc, hm]; rfl
          have hsz : T.size = s.size - width (l.take k) := by
            have := congrArg List.length hT
            simpa using this
          have hroom : m ≤ T.size := by
            have h1 := width_take_le l (k + 1)
            have h2 := HP.out
            omega
          have HM := Lib.hid hm
          have HZ := Lib.hid hsz
          have HWK := Lib.hid hwk
          have HTT := Lib.hid hT
          have hss : (T.extract 0 m).size ≤ 7 := by
            have := congrArg List.length (take_extract T m)
            rw [List.length_take] at this
            have e : (T.extract 0 m).data.toList.length = (T.extract 0 m).size := by simp
            omega
          clear hc hr hown0 hb0 hok1 hm hwk hsz hT ht
          have HOK := Lib.hid hok
          clear hok
          go_wp2_with (first | (go_at_call 17; refine (number_any _ _ hss).mono ?_; rintro e w' ⟨rfl, rfl⟩) | (at_builtin; refine wpList_append_fits _ rfl (.tmp 31) (.tmp 36) 22 rfl w.heap.size 3 i0 1 Try.underlying22 hi hz1 w.heap.size k l.length _ rfl (hownr.alloc _) ⟨wr.heap.size, 0, none⟩ 1 1 [.int .i64 ((val (T.extract 0 m).data.toList : Nat) : Int)] rfl rfl ?c1 ?c2 (by omega) ?_))
          case c1 =>
            intro j u hj
            match j, hj with
            | 0, hj =>
              simp at hj
              subst hj
              simp [Addr.add]
          case c2 => intro u hu; simp at hu; subst hu; rfl
          intro w1 hown1 hg1
          have hb1 : Below w.heap.size w w1 := (hbw.alloc hbw.size _).grown hg1 (by have := hbw.size; simp; omega) (fun j hj => by cases hj; exact Nat.le_refl _)
          clear hg1
          go_wp2
          go_roundw
          case rel =>
            refine ⟨k + 1, T.extract m T.size, by omega, by go_num, rfl, ?_, rfl, ?_, hb1⟩
            · rw [drop_extract, HTT.out, List.drop_drop, HWK.out]
            · rw [HT.out, nums_snoc, ints_append, HM.out, ← HTT.out, Int.toNat_natCast]
              exact hown1
          case measure => simp [intOf]; omega
        · have HE : Hid (l.take k = l) := Lib.hid (List.take_of_length_le (by omega))
          have HTT := Lib.hid hT
          have HOK := Lib.hid hok
          clear hT hok
          go_wp2
          go_ret2
          have h2 := takeR_ok (L := s.data.toList) HOK.out (by rw [← HP.out]; simp; omega)
          have ek : k = l.length := by omega
          subst ek
          rw [HE.out] at hownr
          exact ⟨_, by rw [h2]; rfl, by rw [h2]; rw [nums_length]; exact hownr, hbw⟩
  · have hno : allOk l = false := by simpa using hok
    clear hok
    go_enter Try.func9, Try.ntmps9
    go_wp2_with (go_at_call 16; refine (total_any _ _ _ _ (by omega) hr).mono ?_; rintro e w' ⟨rfl, rfl⟩)
    go_ret2
    have h2 := takeR_arg (L := s.data.toList) hno
    exact ⟨_, by rw [h2]; rfl, by rw [h2]; exact World.ownsRow_nil _ _ _ _, Below.refl _ _⟩

end Go.Proofs.Ytboecgopoadpdaa
