/- The statement NumPuts: its walk. -/
import Derived.Test.YtboecgopoadpdaaNumF
namespace Go.Proofs.Ytboecgopoadpdaa
open Go.RowKit NumMath

/-- What the call owns, as a slice that can be handed on. -/
theorem own_form {w : World} {base : Nat} {v : Value} {n : Nat} {l : List Int} {e : TypeId} (h : w.ownsRow base e 1 v n (ints l)) :
    ∃ a cap, v = .slice a n cap ∧ Lies w w.heap.size a (ints l) := by
  have hn : l.length = n := by have := h.1; rw [ints_length] at this; omega
  rcases h.2 with ⟨rfl, rfl⟩ | ⟨g, cap, cur, rfl, hb, hh, hr⟩
  · exact ⟨none, 0, rfl, fun h0 => by rw [ints_length] at h0; omega⟩
  · refine ⟨some ⟨g, 0, none⟩, cap, rfl, fun _ => ⟨g, 0, rfl, (Array.getElem?_eq_some_iff.1 hh).1, fun j u hu => ?_⟩⟩
    have := h.cells (g := g) rfl j u hu
    rwa [Addr.add_lit] at this

theorem own_length {w : World} {base : Nat} {v : Value} {n : Nat} {l : List Int} {e : TypeId} (h : w.ownsRow base e 1 v n (ints l)) : l.length = n := by
  have := h.1
  rw [ints_length] at this
  omega

/-! The contracts where the length stands by another name, and the answer is known. -/
theorem put_at (s : Int) (a : Option Addr) (n cap : Nat) (l : List Int) (L : List UInt8) (c : Int) (w : World) (hn : l.length = n) (hR : putR s l = (L, c)) (hl : n ≤ 100000) (hr : Lies w w.heap.size a (ints l)) :
    Calls Try.prog 7 #[.int .i64 s, .slice a n cap] w fun e w' => e = .returned (.tuple #[.string (str L), .int .i64 c]) ∧ Below w.heap.size w w' := by
  subst hn
  refine (put_any s a cap l w hl hr).mono fun e w' h => ?_
  unfold Answers at h
  rw [hR] at h
  exact h
theorem refPut_at (s : Int) (a : Option Addr) (n cap : Nat) (l : List Int) (L : List UInt8) (c : Int) (w : World) (hn : l.length = n) (hR : putR s l = (L, c)) (hl : n ≤ 100000) (hwf : ∀ x ∈ l, x ≤ 9223372036854775807) (hr : Lies w w.heap.size a (ints l)) :
    Calls Try.prog 8 #[.int .i64 s, .slice a n cap] w fun e w' => e = .returned (.tuple #[.string (str L), .int .i64 c]) ∧ Below w.heap.size w w' := by
  subst hn
  refine (refPut_any s a cap l w hl hwf hr).mono fun e w' h => ?_
  unfold Answers at h
  rw [hR] at h
  exact h

/-- A slice that the call made: the numbers r, handed back with the error's number c. -/
def Made (r : List Int) (c : Int) (w : World) (e : Ending) (w' : World) : Prop :=
  ∃ a cap, e = .returned (.tuple #[.slice a r.length cap, .int .i64 c]) ∧ Lies w' w'.heap.size a (ints r) ∧ Below w.heap.size w w'

theorem take_at (s : ByteArray) (L : List UInt8) (a : Option Addr) (n cap : Nat) (l r : List Int) (c : Int) (w : World) (hs : s.data.toList = L) (hz : s.size ≤ 140737488355328) (hn : l.length = n) (hR : takeR L l = (r, c)) (hl : n ≤ 100000) (hr : Lies w w.heap.size a (ints l)) :
    Calls Try.prog 9 #[.string s, .slice a n cap] w (Made r c w) := by
  subst hn
  subst hs
  refine (take_any s a cap l w hl hz hr).mono fun e w' h => ?_
  obtain ⟨v, he, hown, hb⟩ := h
  rw [hR] at he hown
  obtain ⟨ra, rc, hv, hlies⟩ := own_form hown
  exact ⟨ra, rc, by rw [he, hv], hlies, hb⟩
theorem refTake_at (s : ByteArray) (L : List UInt8) (a : Option Addr) (n cap : Nat) (l r : List Int) (c : Int) (w : World) (hs : s.data.toList = L) (hz : s.size ≤ 140737488355328) (hn : l.length = n) (hR : takeR L l = (r, c)) (hl : n ≤ 100000) (hr : Lies w w.heap.size a (ints l)) :
    Calls Try.prog 12 #[.string s, .slice a n cap] w (Made r c w) := by
  subst hn
  subst hs
  refine (refTake_any s a cap l w hl hz hr).mono fun e w' h => ?_
  obtain ⟨v, he, hown, hb⟩ := h
  rw [hR] at he hown
  obtain ⟨ra, rc, hv, hlies⟩ := own_form hown
  exact ⟨ra, rc, by rw [he, hv], hlies, hb⟩
theorem size_at (a : Option Addr) (n cap : Nat) (l : List Int) (z : Int) (w : World) (hn : l.length = n) (hl : n ≤ 1152921504606846976) (hz : tot l = z) (hr : Lies w w.heap.size a (ints l)) :
    Calls Try.prog 11 #[.slice a n cap] w fun e w' => e = .returned (.int .i64 z) ∧ w = w' := by
  subst hn
  subst hz
  exact size_any a cap l w hl hr
theorem same_at (a c : Option Addr) (n k ca cc : Nat) (l : List Int) (w : World) (hn : l.length = n) (hk : l.length = k) (hl : l.length ≤ 1152921504606846976) (hr : Lies w w.heap.size a (ints l)) (hq : Lies w w.heap.size c (ints l)) :
    Calls Try.prog 10 #[.slice a n ca, .slice c k cc] w fun e w' => e = .returned (.bool true) ∧ Below w.heap.size w w' := by
  subst hn
  subst hk
  refine (same_any a c ca cc l l w hl hl hr hq).mono fun e w' ⟨he, hb⟩ => ⟨?_, hb⟩
  rw [he, decide_eq_true rfl]

theorem nums_put (n : Nat) (l : List Int) (more : List UInt8) (hf : fitAll n l = true) : nums (putBytes n l ++ more) (List.replicate l.length (n : Int)) = l := by
  induction l with
  | nil => rfl
  | cons x l ih =>
    have hp : putBytes n (x :: l) = be n x.toNat ++ putBytes n l := by simp [putBytes]
    simp only [fitAll, List.all_cons, Bool.and_eq_true] at hf
    have hx : 0 ≤ x ∧ x < 256 ^ n := by simpa [fitB] using hf.1
    have e : ((256 ^ n : Nat) : Int) = 256 ^ n := by simp
    rw [List.length_cons, List.replicate_succ, nums, hp, Int.toNat_natCast, List.append_assoc, List.take_left' (be_length _ _), List.drop_left' (be_length _ _), ih hf.2, val_be _ _ (by omega)]
    rw [Int.toNat_of_nonneg hx.1]

theorem width_replicate (k n : Nat) : width (List.replicate k (n : Int)) = k * n := by
  induction k with
  | zero => simp [width]
  | succ k ih =>
    have e2 : width ((n : Int) :: List.replicate k (n : Int)) = (n : Int).toNat + width (List.replicate k (n : Int)) := rfl
    rw [List.replicate_succ, e2, ih, Int.toNat_natCast, Nat.succ_mul]
    omega
theorem allOk_replicate (k : Nat) (s : Int) (h : okB s = true) : allOk (List.replicate k s) = true := by
  simp [allOk, h]

theorem back (n : Nat) (l : List Int) (more : List UInt8) (ho : okB n = true) (hf : fitAll n l = true) : takeR (putBytes n l ++ more) (List.replicate l.length (n : Int)) = (l, 0) := by
  rw [takeR_ok (allOk_replicate _ _ ho) (by rw [width_replicate, List.length_append, putBytes_length, Int.toNat_natCast]; omega), nums_put n l more hf]

theorem tot_back (n : Nat) (l : List Int) (ho : okB n = true) : tot (List.replicate l.length (n : Int)) = (l.length * n : Nat) := by
  have h := allOk_replicate l.length n ho
  rw [tot_yes h, sum_width _ h, width_replicate]

theorem Lies.step {w w' : World} {a : Option Addr} {xs : List Value} (h : Lies w w.heap.size a xs) (hb : Below w.heap.size w w') : Lies w' w'.heap.size a xs := (h.below hb).mono hb.size

theorem numPuts_walk (s : Int) (a : Option Addr) (cap : Nat) (l : List Int) (t : ByteArray) (w : World) (hwf : ∀ x ∈ l, x ≤ 9223372036854775807) (hlm : l.length ≤ maxLen) (hr : Lies w w.heap.size a (ints l)) :
    Calls Try.prog 3 #[.int .i64 s, .slice a l.length cap, .string t] w fun e w' => e = .returned (.bool true) ∧ Below w.heap.size w w' := by
  unfold maxLen at hlm
  by_cases hl : 100 < l.length
  · go_enter Try.func3, Try.ntmps3
    go_wp2_with (go_at_call 6; refine (awake_any _).mono ?_; rintro e w1 ⟨rfl, hb1⟩)
    go_ret
    exact ⟨rfl, hb1⟩
  by_cases ht : 300 < t.size
  · go_enter Try.func3, Try.ntmps3
    go_wp2_with (go_at_call 6; refine (awake_any _).mono ?_; rintro e w1 ⟨rfl, hb1⟩)
    go_ret
    exact ⟨rfl, hb1⟩
  have HWF := Lib.hid hwf
  clear hwf
  obtain ⟨N, hN⟩ : ∃ N, l.length = N := ⟨_, rfl⟩
  rw [hN] at hlm hl ⊢
  have HN := Lib.hid hN
  clear hN
  by_cases hgood : okB s = true ∧ fitAll s l = true
  · obtain ⟨hok, hfit⟩ := hgood
    have hs2 : 1 ≤ s ∧ s ≤ 7 := by simpa [okB] using hok
    obtain ⟨n, rfl⟩ := Int.eq_ofNat_of_zero_le (show 0 ≤ s by omega)
    have hn7 : n ≤ 7 := by omega
    have HR : Hid (putR n l = (putBytes n l, 0)) := Lib.hid (putR_ok hok hfit)
    have HLEN : Hid ((putBytes n l).length = N * n) := Lib.hid <| by rw [putBytes_length, Int.toNat_natCast, HN.out]
    have HBACK : Hid (takeR (putBytes n l ++ t.data.toList) (List.replicate N (n : Int)) = (l, 0)) := Lib.hid <| by rw [← HN.out]; exact back n l _ hok hfit
    have HTOT : Hid (tot (List.replicate N (n : Int)) = (N * n : Nat)) := Lib.hid <| by rw [← HN.out]; exact tot_back n l hok
    have hmul := Nat.mul_le_mul (show N ≤ 100 by omega) hn7
    obtain ⟨S, hS⟩ : ∃ S, S = str (putBytes n l) := ⟨_, rfl⟩
    have hSz : S.size = N * n := by rw [hS, str_size, HLEN.out]
    obtain ⟨p, hp⟩ : ∃ p, p = N * n := ⟨_, rfl⟩
    rw [← hp] at hSz hmul
    have hz1 : S.size ≤ 700 := by omega
    have HSZ : Hid ((S.size : Int) = (p : Int)) := Lib.hid (by omega)
    have HCAT : Hid ((S ++ t).data.toList = putBytes n l ++ t.data.toList) := Lib.hid <| by
      rw [ByteArray.data_append, Array.toList_append, hS, str_list]
    have hsum : (S ++ t).size ≤ 1000 := by
      rw [ByteArray.size_append]
      omega
    have HP := Lib.hid hp
    have HS := Lib.hid hS
    clear hok hfit hs2 hS hSz hp hmul
    obtain ⟨i0, hi, hz0, hzz, hz2⟩ := info_parts info_int
    go_enter Try.func3, Try.ntmps3
    go_wp2_with (first
      | (go_at_call 6; refine (awake_any _).mono ?_; rintro e w1 ⟨rfl, hb1⟩)
      | (go_at_call 7; refine (put_at _ _ _ _ _ _ _ _ HN.out HR.out (by omega) (hr.step hb1)).mono ?_; rintro e w2 ⟨rfl, hb2⟩; rw [← HS.out])
      | (go_at_call 8; refine (refPut_at _ _ _ _ _ _ _ _ HN.out HR.out (by omega) HWF.out ((hr.step hb1).step hb2)).mono ?_; rintro e w3 ⟨rfl, hb3⟩; rw [← HS.out]))
    have hbw : Below w.heap.size w w3 := hb1.trans ((hb2.mono hb1.size).trans (hb3.mono (Nat.le_trans hb1.size hb2.size)))
    clear hb1 hb2 hb3
    go_loopw [11, 48] (fun v i wr => ∃ k : Nat, k ≤ N ∧ i = .int .i64 k ∧ wr.ownsRow w.heap.size 3 1 v k (ints (List.replicate k (n : Int))) ∧ Below w.heap.size w wr) (fun _ i _ => N - (intOf i).toNat)
    case atStart => exact ⟨0, Nat.zero_le _, rfl, World.ownsRow_nil _ _ _ _, hbw⟩
    case round =>
      clear hbw
      obtain ⟨k, hk, rfl, hown, hbw⟩ := hrel
      by_cases hlt : k < N
      · go_wp2_with (at_builtin; refine wpList_append_own _ rfl (.tmp 50) (.tmp 52) 22 rfl w.heap.size 3 i0 (.int .i64 0) 1 8 Try.underlying22 hi hz0 hzz hz2 rfl (by decide) _ _ _ rfl (hown.alloc _) ⟨wr.heap.size, 0, none⟩ 1 1 [.int .i64 (n : Int)] rfl rfl ?c1 ?c2 ?c3 ?c4 ?c5 ?_)
        case c1 =>
          intro j u hj
          match j, hj with
          | 0, hj => simp at hj; subst hj; simp [Addr.add]
        case c2 => intro u hu; simp at hu; subst hu; rfl
        case c3 => unfold maxLen; omega
        case c4 => omega
        case c5 => have := hbw.size; simp; omega
        intro v' w5 hown1 hg1 _
        have hb5 : Below w.heap.size w w5 := (hbw.alloc hbw.size _).grown hg1 (by have := hbw.size; simp; omega) (fun g hg => (hown.lt g hg).1)
        clear hg1
        go_wp2
        go_roundw
        case rel => exact ⟨k + 1, by omega, by go_num, by rw [List.replicate_succ', ints_append]; exact hown1, hb5⟩
        case measure => simp [intOf]; omega
      · have ek : k = N := by omega
        subst ek
        obtain ⟨sa, sc, rfl, hsl⟩ := own_form hown
        have HL : Hid ((List.replicate k (n : Int)).length = k) := Lib.hid (List.length_replicate)
        have hrw := hr.step hbw
        clear hown
        go_wp2_with (first
          | (go_at_call 9; refine (take_at _ _ _ _ _ _ _ _ _ HCAT.out (by omega) HL.out HBACK.out (by omega) hsl).mono ?_; rintro e w4 ⟨xa, xc, rfl, hx, hb4⟩; rw [HN.out])
          | (go_at_call 10; refine (same_at _ _ _ _ _ _ _ _ HN.out HN.out (by rw [HN.out]; omega) hx (hrw.step hb4)).mono ?_; rintro e w5 ⟨rfl, hb5⟩)
          | (go_at_call 11; refine (size_at _ _ _ _ _ _ HL.out (by omega) HTOT.out ((hsl.step hb4).step hb5)).mono ?_; rintro e w6 ⟨rfl, rfl⟩; rw [← HP.out, ← HSZ.out]))
        go_ret
        exact ⟨by simp, hbw.trans ((hb4.mono hbw.size).trans (hb5.mono (Nat.le_trans hbw.size hb4.size)))⟩
  · obtain ⟨c, hc⟩ : ∃ c, putR s l = ([], c) ∧ c ≠ 0 := by
      by_cases hok : okB s = true
      · have hf : fitAll s l = false := by
          cases hh : fitAll s l with
          | false => rfl
          | true => exact absurd ⟨hok, hh⟩ hgood
        exact ⟨2, putR_range hok hf, by omega⟩
      · exact ⟨1, putR_arg (by simpa using hok), by omega⟩
    have HC := Lib.hid hc.1
    have hne : (c != 0) = true := by rw [bne_iff_ne]; exact hc.2
    clear hc hgood
    go_enter Try.func3, Try.ntmps3
    go_wp2_with (first
      | (go_at_call 6; refine (awake_any _).mono ?_; rintro e w1 ⟨rfl, hb1⟩)
      | (go_at_call 7; refine (put_at _ _ _ _ _ _ _ _ HN.out HC.out (by omega) (hr.step hb1)).mono ?_; rintro e w2 ⟨rfl, hb2⟩)
      | (go_at_call 8; refine (refPut_at _ _ _ _ _ _ _ _ HN.out HC.out (by omega) HWF.out ((hr.step hb1).step hb2)).mono ?_; rintro e w3 ⟨rfl, hb3⟩))
    go_ret
    exact ⟨rfl, hb1.trans ((hb2.mono hb1.size).trans (hb3.mono (Nat.le_trans hb1.size hb2.size)))⟩

end Go.Proofs.Ytboecgopoadpdaa
