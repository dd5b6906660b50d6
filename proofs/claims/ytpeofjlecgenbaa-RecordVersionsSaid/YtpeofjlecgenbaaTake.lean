/- The contract of num.Take. -/
import Derived.Test.YtpeofjlecgenbaaPut
import Derived.Test.YtpeofjlecgenbaaRow
import Derived.Lib.Strings
import Derived.WalkSpells
namespace Go.Proofs.Ytpeofjlecgenbaa
open Go.RowKit NumMath
set_option maxRecDepth 100000

/-- How many bytes the sizes are in all; 0 where one may not be. -/
def nsum (l : List Int) : Int := l.foldl (· + ·) 0

def nallOk (l : List Int) : Bool := l.all okB

theorem nsum_snoc (l : List Int) (s : Int) : nsum (l ++ [s]) = nsum l + s := by simp [nsum]

theorem nsum_bd (l : List Int) (h : nallOk l = true) : 0 ≤ nsum l ∧ nsum l ≤ 7 * l.length := by
  induction l using snoc_ind with
  | h0 => simp [nsum]
  | h1 l s ih =>
    simp only [nallOk, List.all_append, List.all_cons, List.all_nil, Bool.and_true, Bool.and_eq_true] at h
    have := ih h.1
    have h2 : 1 ≤ s ∧ s ≤ 7 := by simpa [okB] using h.2
    rw [nsum_snoc, List.length_append, List.length_singleton]
    omega

theorem nallOk_snoc (l : List Int) (s : Int) : nallOk (l ++ [s]) = (nallOk l && okB s) := by simp [nallOk]

theorem nallOk_take {l : List Int} (k : Nat) (h : nallOk l = true) : nallOk (l.take k) = true := by
  unfold nallOk at *
  rw [List.all_eq_true] at *
  intro x hx
  exact h x (List.mem_of_mem_take hx)

def ntot (l : List Int) : Int := if nallOk l then nsum l else 0

theorem tot_yes {l : List Int} (h : nallOk l = true) : ntot l = nsum l := by simp [ntot, h]

theorem tot_no {l : List Int} (h : nallOk l = false) : ntot l = 0 := by simp [ntot, h]

theorem num_ret_total {l : List Int} {a : Int} {b : Bool} (h1 : a = ntot l) (h2 : b = nallOk l) : Ending.returned (.tuple #[.int .i64 a, .bool b]) = .returned (.tuple #[.int .i64 (ntot l), .bool (nallOk l)]) := by rw [h1, h2]

theorem num_total_any (a : Option Addr) (cap : Nat) (l : List Int) (w : World) (hl : l.length ≤ 1152921504606846976) (hr : Lies w w.heap.size a (ints l)) :
    Calls Try.prog 49 #[.slice a l.length cap] w fun e w' =>
      e = .returned (.tuple #[.int .i64 (ntot l), .bool (nallOk l)]) ∧ w = w' := by
  go_enter Try.func49, Try.ntmps49
  go_wp2
  go_loop [4, 9] (fun t i => ∃ k : Nat, k ≤ l.length ∧ i = .int .i64 k ∧ nallOk (l.take k) = true ∧ t = .int .i64 (nsum (l.take k))) (fun _ i => l.length - (intOf i).toNat)
  case atStart => exact ⟨0, Nat.zero_le _, rfl, rfl, rfl⟩
  case round =>
    obtain ⟨k, hk, rfl, hall, rfl⟩ := hrel
    have hbd := nsum_bd (l.take k) hall
    have hlen : (l.take k).length ≤ k := List.length_take_le _ _
    by_cases hlt : k < l.length
    · obtain ⟨b, off, rfl, hbb, hc⟩ := hr (by rw [ints_length]; omega)
      have hcell : w.cell? ⟨b, off + k, none⟩ = some (.int .i64 l[k]) := hc k _ (ints_get l k hlt)
      clear hc hr
      have HA := Lib.hid hall
      clear hall
      have HT := Lib.hid (take_snoc l k hlt)
      have HN : Hid (okB l[k] = false → nallOk l = false) := Lib.hid fun hn => by
        cases hh : nallOk l with
        | false => rfl
        | true =>
          have := nallOk_take (k + 1) hh
          rw [HT.out, nallOk_snoc, hn, Bool.and_false] at this
          cases this
      by_cases hok : okB l[k] = true
      · have hb2 : 1 ≤ l[k] ∧ l[k] ≤ 7 := by simpa [okB] using hok
        go_wp2_with (go_at_call 60; refine (num_right_any _ _).mono ?_; rintro e w' ⟨rfl, rfl⟩)
        go_round
        case rel => exact ⟨k + 1, by omega, by go_num, by rw [HT.out, nallOk_snoc, HA.out, hok]; rfl, by rw [HT.out, nsum_snoc]⟩
        case measure => simp [intOf]; omega
      · have hno : okB l[k] = false := by simpa using hok
        clear hok
        go_wp2_with (go_at_call 60; refine (num_right_any _ _).mono ?_; rintro e w' ⟨rfl, rfl⟩)
        go_ret2
        have h2 := HN.out hno
        exact ⟨num_ret_total (tot_no h2).symm h2.symm, rfl⟩
    · have HE : Hid (l.take k = l) := Lib.hid (List.take_of_length_le (by omega))
      have HA := Lib.hid hall
      clear hall
      go_wp2
      go_ret2
      have h1 := HA.out
      rw [HE.out] at h1
      exact ⟨num_ret_total (by rw [HE.out, tot_yes h1]) h1.symm, rfl⟩

theorem num_val_step (l : List UInt8) (b : UInt8) (h : l.length ≤ 6) :
    bits .or .i64 (wrap64 ((val l : Int) * 256)) (wrap64 (b.toNat : Int)) = (val (l ++ [b]) : Int) := by
  have hv := val_lt l
  have hb : b.toNat < 256 := b.toNat_lt
  have hp : 256 ^ l.length ≤ 256 ^ 6 := Nat.pow_le_pow_right (by omega) h
  have hn : (256 : Nat) ^ 6 = 281474976710656 := rfl
  rw [IntWalk.wrap64_in _ ⟨by omega, by omega⟩, IntWalk.wrap64_in _ ⟨by omega, by omega⟩]
  have e : (val l : Int) * 256 = ((2 ^ 8 * val l : Nat) : Int) := by omega
  rw [e, or_i64 _ _ (by omega) (by omega), ← Nat.two_pow_add_eq_or_of_lt (by omega), val_snoc]

theorem num_number_any (s : ByteArray) (w : World) (hs : s.size ≤ 7) :
    Calls Try.prog 50 #[.string s] w fun e w' => e = .returned (.int .i64 (val s.data.toList)) ∧ w = w' := by
  go_enter Try.func50, Try.ntmps50
  go_wp2
  go_loop [3, 7] (fun t i => ∃ k : Nat, k ≤ s.size ∧ i = .int .i64 k ∧ t = .int .i64 (val (s.data.toList.take k))) (fun _ i => s.size - (intOf i).toNat)
  case atStart => exact ⟨0, Nat.zero_le _, rfl, rfl⟩
  case round =>
    obtain ⟨k, hk, rfl, rfl⟩ := hrel
    by_cases hlt : k < s.size
    · have HS : Hid (_ = _) := Lib.hid (num_val_step (s.data.toList.take k) s[k] (by rw [List.length_take]; omega))
      have HT := Lib.hid (bytes_take s k hlt)
      go_wp2
      go_round
      case rel => exact ⟨k + 1, by omega, by go_num, by rw [HS.out, HT.out]⟩
      case measure => simp [intOf]; omega
    · have HE : Hid (s.data.toList.take k = s.data.toList) := Lib.hid (List.take_of_length_le (by simp; omega))
      go_wp2
      go_ret
      exact ⟨ret_int (by rw [HE.out]), rfl⟩

/-- The numbers of these sizes that stand there. -/
def nnums : List UInt8 → List Int → List Int
  | _, [] => []
  | L, s :: r => (val (L.take s.toNat) : Int) :: nnums (L.drop s.toNat) r

theorem nnums_length (L : List UInt8) (l : List Int) : (nnums L l).length = l.length := by
  induction l generalizing L with
  | nil => rfl
  | cons s r ih => simp [nnums, ih]

/-- How many bytes the sizes are. -/
def nwidth (l : List Int) : Nat := l.foldr (fun s n => s.toNat + n) 0

theorem nwidth_snoc (l : List Int) (s : Int) : nwidth (l ++ [s]) = nwidth l + s.toNat := by
  induction l with
  | nil => simp [nwidth]
  | cons x l ih =>
    have e : nwidth (x :: (l ++ [s])) = x.toNat + nwidth (l ++ [s]) := rfl
    have e2 : nwidth (x :: l) = x.toNat + nwidth l := rfl
    rw [List.cons_append, e, ih, e2]
    omega

theorem nnums_snoc (L : List UInt8) (l : List Int) (s : Int) : nnums L (l ++ [s]) = nnums L l ++ [(val ((L.drop (nwidth l)).take s.toNat) : Int)] := by
  induction l generalizing L with
  | nil => simp [nnums, nwidth]
  | cons x l ih =>
    have e2 : nwidth (x :: l) = x.toNat + nwidth l := rfl
    rw [List.cons_append, nnums, ih, nnums, List.cons_append, e2, List.drop_drop]

theorem nsum_width (l : List Int) (h : nallOk l = true) : nsum l = nwidth l := by
  induction l using snoc_ind with
  | h0 => rfl
  | h1 l s ih =>
    simp only [nallOk, List.all_append, List.all_cons, List.all_nil, Bool.and_true, Bool.and_eq_true] at h
    have h2 : 1 ≤ s ∧ s ≤ 7 := by simpa [okB] using h.2
    rw [nsum_snoc, nwidth_snoc, ih h.1]
    omega

theorem nwidth_take_le (l : List Int) (k : Nat) : nwidth (l.take k) ≤ nwidth l := by
  induction l generalizing k with
  | nil => simp
  | cons x l ih =>
    cases k with
    | zero => simp [nwidth]
    | succ k =>
      have e2 : nwidth (x :: l) = x.toNat + nwidth l := rfl
      have e3 : nwidth (x :: l.take k) = x.toNat + nwidth (l.take k) := rfl
      have := ih k
      rw [List.take_succ_cons, e2, e3]
      omega

/-- num.Take's answer: the numbers, and the error's number. -/
def takeR (L : List UInt8) (l : List Int) : List Int × Int :=
  if nallOk l then if L.length < nwidth l then ([], 13) else (nnums L l, 0) else ([], 1)

theorem takeR_arg {L : List UInt8} {l : List Int} (h : nallOk l = false) : takeR L l = ([], 1) := by simp [takeR, h]

theorem takeR_short {L : List UInt8} {l : List Int} (h : nallOk l = true) (h2 : L.length < nwidth l) : takeR L l = ([], 13) := by simp [takeR, h, h2]

theorem takeR_ok {L : List UInt8} {l : List Int} (h : nallOk l = true) (h2 : nwidth l ≤ L.length) : takeR L l = (nnums L l, 0) := by simp [takeR, h, Nat.not_lt.2 h2]

def NTakes (L : List UInt8) (l : List Int) (w : World) (e : Ending) (w' : World) : Prop :=
  ∃ v, e = .returned (.tuple #[v, .int .i64 (takeR L l).2]) ∧ w'.ownsRow w.heap.size 3 1 v (takeR L l).1.length (ints (takeR L l).1) ∧ Below w.heap.size w w'

theorem num_drop_extract (t : ByteArray) (n : Nat) : (t.extract n t.size).data.toList = t.data.toList.drop n := by
  rw [Lib.extract_data]
  exact List.take_of_length_le (by rw [List.length_drop]; simp)

theorem num_take_extract (t : ByteArray) (n : Nat) : (t.extract 0 n).data.toList = t.data.toList.take n := by
  rw [Lib.extract_data]; simp

theorem num_take_any (s : ByteArray) (a : Option Addr) (cap : Nat) (l : List Int) (w : World) (hl : l.length ≤ 100000) (_hs : s.size ≤ 140737488355328) (hr : Lies w w.heap.size a (ints l)) :
    Calls Try.prog 28 #[.string s, .slice a l.length cap] w (NTakes s.data.toList l w) := by
  by_cases hok : nallOk l = true
  · have hT := nsum_bd l hok
    have hW := nsum_width l hok
    obtain ⟨p, hp⟩ : ∃ p, p = nwidth l := ⟨_, rfl⟩
    have ht : ntot l = (p : Int) := by rw [tot_yes hok, hW, hp]
    have hpb : p ≤ 700000 := by rw [hp]; omega
    have HW := Lib.hid hW
    have HP := Lib.hid hp
    clear hW hp hT
    obtain ⟨i0, hi, hz0, hz1, hz2⟩ := info_parts info_int
    by_cases hshort : s.size < p
    · go_enter Try.func28, Try.ntmps28
      go_wp2_with (go_at_call 49; refine (num_total_any _ _ _ _ (by omega) hr).mono ?_; rintro e w' ⟨rfl, rfl⟩)
      go_ret2
      have h2 := takeR_short (L := s.data.toList) hok (by rw [← HP.out]; simpa using hshort)
      exact ⟨_, by rw [h2]; rfl, by rw [h2]; exact World.ownsRow_nil _ _ _ _, Below.refl _ _⟩
    · go_enter Try.func28, Try.ntmps28
      go_wp2_with (first | (go_at_call 49; refine (num_total_any _ _ _ _ (by omega) hr).mono ?_; rintro e w' ⟨rfl, rfl⟩) | (at_make; refine wpList_make_own _ rfl (.const (.int .i64 0)) (.tmp 23) 69 rfl w.heap.size 3 i0 (.int .i64 0) 1 Try.underlying69 hi hz0 hz1 _ _ _ l.length rfl rfl rfl ?b2 ?b3 (Nat.le_refl _) ?_))
      case b2 => rw [hz2]; omega
      case b3 => unfold maxLen; omega
      intro w0 hown0 hg0
      go_wp2
      have hb0 : Below w.heap.size w w0 := (Below.refl _ _).grown hg0 (Nat.le_refl _) (fun k h => by cases h)
      clear hg0
      go_loopw [0, 8, 27] (fun t v i wr => ∃ (k : Nat) (T : ByteArray), k ≤ l.length ∧ i = .int .i64 k ∧ t = .string T ∧ T.data.toList = s.data.toList.drop (nwidth (l.take k)) ∧ v = .slice (some ⟨w.heap.size, 0, none⟩) k l.length ∧
          wr.ownsRow w.heap.size 3 1 (.slice (some ⟨w.heap.size, 0, none⟩) k l.length) k (ints (nnums s.data.toList (l.take k))) ∧ Below w.heap.size w wr)
        (fun _ _ i _ => l.length - (intOf i).toNat)
      case atStart => exact ⟨0, s, Nat.zero_le _, rfl, rfl, by simp [nwidth], rfl, by simpa [ints, nnums] using hown0, hb0⟩
      case round =>
        obtain ⟨k, T, hk, rfl, rfl, hT, rfl, hownr, hbw⟩ := hrel
        by_cases hlt : k < l.length
        · obtain ⟨b, off, rfl, hbb, hc⟩ := hr (by rw [ints_length]; omega)
          have hcell0 : wr.cell? ⟨b, off + k, none⟩ = some (.int .i64 l[k]) := (hbw.cell (p := ⟨b, off + k, none⟩) hbb).trans (hc k _ (ints_get l k hlt))
          have HT := Lib.hid (take_snoc l k hlt)
          have hok1 : 1 ≤ l[k] ∧ l[k] ≤ 7 := by
            have := nallOk_take (k + 1) hok
            rw [HT.out, nallOk_snoc, Bool.and_eq_true] at this
            simpa [okB] using this.2
          obtain ⟨m, hm⟩ : ∃ m : Nat, l[k] = (m : Int) := ⟨l[k].toNat, by omega⟩
          have hm1 : 1 ≤ m := by omega
          have hm7 : m ≤ 7 := by omega
          rw [hm] at hcell0
          have hwk : nwidth (l.take (k + 1)) = nwidth (l.take k) + m := by rw [HT.out, nwidth_snoc, hm]; rfl
          have hsz : T.size = s.size - nwidth (l.take k) := by
            have := congrArg List.length hT
            simpa using this
          have hroom : m ≤ T.size := by
            have h1 := nwidth_take_le l (k + 1)
            have h2 := HP.out
            omega
          have HM := Lib.hid hm
          have HZ := Lib.hid hsz
          have HWK := Lib.hid hwk
          have HTT := Lib.hid hT
          have hss : (T.extract 0 m).size ≤ 7 := by
            have := congrArg List.length (num_take_extract T m)
            rw [List.length_take] at this
            have e : (T.extract 0 m).data.toList.length = (T.extract 0 m).size := by simp
            omega
          clear hc hr hown0 hb0 hok1 hm hwk hsz hT ht
          have HOK := Lib.hid hok
          clear hok
          go_wp2_with (first | (go_at_call 50; refine (num_number_any _ _ hss).mono ?_; rintro e w' ⟨rfl, rfl⟩) | (at_builtin; refine wpList_append_fits _ rfl (.tmp 31) (.tmp 36) 69 rfl w.heap.size 3 i0 1 Try.underlying69 hi hz1 w.heap.size k l.length _ rfl (hownr.alloc _) ⟨wr.heap.size, 0, none⟩ 1 1 [.int .i64 ((val (T.extract 0 m).data.toList : Nat) : Int)] rfl rfl ?c1 ?c2 (by omega) ?_))
          case c1 =>
            intro j u hj
            match j, hj with
            | 0, hj =>
              simp at hj
              subst hj
              simp [Addr.add]
          case c2 => intro u hu; simp at hu; subst hu; rfl
          intro w1 hown1 hg1
          have hb1 : Below w.heap.size w w1 := (hbw.alloc hbw.size _).grown hg1 (by have := hbw.size; simp; omega) (fun j hj => by cases hj; exact Nat.le_refl _)
          clear hg1
          go_wp2
          go_roundw
          case rel =>
            refine ⟨k + 1, T.extract m T.size, by omega, by go_num, rfl, ?_, rfl, ?_, hb1⟩
            · rw [num_drop_extract, HTT.out, List.drop_drop, HWK.out]
            · rw [HT.out, nnums_snoc, ints_append, HM.out, ← HTT.out, Int.toNat_natCast]
              exact hown1
          case measure => simp [intOf]; omega
        · have HE : Hid (l.take k = l) := Lib.hid (List.take_of_length_le (by omega))
          have HTT := Lib.hid hT
          have HOK := Lib.hid hok
          clear hT hok
          go_wp2
          go_ret2
          have h2 := takeR_ok (L := s.data.toList) HOK.out (by rw [← HP.out]; simp; omega)
          have ek : k = l.length := by omega
          subst ek
          rw [HE.out] at hownr
          exact ⟨_, by rw [h2]; rfl, by rw [h2]; rw [nnums_length]; exact hownr, hbw⟩
  · have hno : nallOk l = false := by simpa using hok
    clear hok
    go_enter Try.func28, Try.ntmps28
    go_wp2_with (go_at_call 49; refine (num_total_any _ _ _ _ (by omega) hr).mono ?_; rintro e w' ⟨rfl, rfl⟩)
    go_ret2
    have h2 := takeR_arg (L := s.data.toList) hno
    exact ⟨_, by rw [h2]; rfl, by rw [h2]; exact World.ownsRow_nil _ _ _ _, Below.refl _ _⟩

/-- A slice that the call made: the numbers r, handed num_back with the error's number c. -/
def NMade (r : List Int) (c : Int) (w : World) (e : Ending) (w' : World) : Prop :=
  ∃ a cap, e = .returned (.tuple #[.slice a r.length cap, .int .i64 c]) ∧ Lies w' w'.heap.size a (ints r) ∧ Below w.heap.size w w'

theorem num_take_at (s : ByteArray) (L : List UInt8) (a : Option Addr) (n cap : Nat) (l r : List Int) (c : Int) (w : World) (hs : s.data.toList = L) (hz : s.size ≤ 140737488355328) (hn : l.length = n) (hR : takeR L l = (r, c)) (hl : n ≤ 100000) (hr : Lies w w.heap.size a (ints l)) :
    Calls Try.prog 28 #[.string s, .slice a n cap] w (NMade r c w) := by
  subst hn
  subst hs
  refine (num_take_any s a cap l w hl hz hr).mono fun e w' h => ?_
  obtain ⟨v, he, hown, hb⟩ := h
  rw [hR] at he hown
  obtain ⟨ra, rc, hv, hlies⟩ := own_form hown
  exact ⟨ra, rc, by rw [he, hv], hlies, hb⟩

/-- Likewise, of some numbers: the answer is new memory. -/
def NMadeN (r : List Int) (c : Int) (w : World) (e : Ending) (w' : World) : Prop :=
  ∃ g cap ys, e = .returned (.tuple #[.slice (some ⟨g, 0, none⟩) r.length cap, .int .i64 c]) ∧ w.heap.size ≤ g ∧ r.length ≤ cap ∧ Row w' g 3 (ints r ++ ys) ∧ Below w.heap.size w w'
theorem NTakes.new {L : List UInt8} {l r : List Int} {c : Int} {w w' : World} {e : Ending} (h : NTakes L l w e w') (hR : takeR L l = (r, c)) (h0 : 0 < r.length) : NMadeN r c w e w' := by
  obtain ⟨v, he, hown, hb⟩ := h
  rw [hR] at he hown
  rcases hown.2 with ⟨h1, h2⟩ | ⟨g, cap, cur, h1, h2, h3, h4, h5, h6, h7⟩
  · have h3 : r.length = 0 := h2
    omega
  · refine ⟨g, cap, cur.toList.drop r.length, by rw [he, h1], h2, h4, ?_, hb⟩
    rw [Nat.mul_one] at h7
    have h8 : cur.toList.take r.length = ints r := h7
    rw [← h8, List.take_append_drop]
    exact h3
theorem num_take_new (s : ByteArray) (L : List UInt8) (a : Option Addr) (n cap : Nat) (l r : List Int) (c : Int) (w : World) (hs : s.data.toList = L) (hz : s.size ≤ 140737488355328) (hn : l.length = n) (hR : takeR L l = (r, c)) (h0 : 0 < r.length) (hl : n ≤ 100000) (hr : Lies w w.heap.size a (ints l)) :
    Calls Try.prog 28 #[.string s, .slice a n cap] w (NMadeN r c w) := by
  subst hn
  subst hs
  exact (num_take_any s a cap l w hl hz hr).mono fun e w' h => h.new hR h0

end Go.Proofs.Ytpeofjlecgenbaa
