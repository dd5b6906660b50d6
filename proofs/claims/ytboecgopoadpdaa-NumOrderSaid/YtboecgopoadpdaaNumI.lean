/- The statement NumTakes: its walk. -/
import Derived.Test.YtboecgopoadpdaaNumH
import Derived.Deep.RegionHeld3
import Derived.Deep.DeepCutAuto
namespace Go.Proofs.Ytboecgopoadpdaa
open Go.RowKit NumMath

theorem nums_get (L : List UInt8) (l : List Int) (k : Nat) (hk : k < l.length) (h : k < (nums L l).length) : (nums L l)[k] = (val ((L.drop (width (l.take k))).take l[k].toNat) : Int) := by
  induction l generalizing L k with
  | nil => simp at hk
  | cons x l ih =>
    cases k with
    | zero => simp [nums, width]
    | succ k =>
      have e3 : width (x :: l.take k) = x.toNat + width (l.take k) := rfl
      simp only [nums, List.getElem_cons_succ, List.take_succ_cons, e3]
      rw [ih (L.drop x.toNat) k (by simpa using hk) (by rw [nums_length]; simpa using hk), List.drop_drop]

theorem put_back (L : List UInt8) (n : Nat) (h1 : 1 ≤ n) (h7 : n ≤ 7) (h : L.length = n) : putR n [(val L : Int)] = (L, 0) := by
  subst h
  have hv := val_lt L
  have e : ((256 ^ L.length : Nat) : Int) = 256 ^ L.length := by simp
  have hf : fitB L.length (val L) = true := by unfold fitB; rw [decide_eq_true_eq, Int.toNat_natCast]; omega
  rw [putR_ok (okB_yes (by omega) (by omega)) (by simp [fitAll, hf])]
  simp [putBytes, be_val]

theorem put_held (s x : Int) (g : Nat) (L : List UInt8) (c : Int) (w : World) (hg : w.cell? ⟨g, 0, none⟩ = some (.int .i64 x)) (hR : putR s [x] = (L, c)) :
    Calls Try.prog 7 #[.int .i64 s, .slice (some ⟨g, 0, none⟩) 1 1] w fun e w' => e = .returned (.tuple #[.string (str L), .int .i64 c]) ∧ Below w.heap.size w w' := by
  refine put_at s _ 1 1 [x] L c _ rfl hR (by omega) fun _ => ⟨g, 0, rfl, World.block_lt_of_cell? w _ hg, fun j u hu => ?_⟩
  match j, hu with
  | 0, hu =>
    simp [ints] at hu
    subst hu
    exact hg
theorem keep_cell {w w' : World} {p : Addr} {v : Value} (hb : Below w.heap.size w w') (h : w.cell? p = some v) : w'.cell? p = some v :=
  (hb.cell (World.block_lt_of_cell? w p h)).trans h

/-- What NumTakes tells where the answer is good. -/
theorem numTakes_good (s : ByteArray) (a : Option Addr) (N cap : Nat) (l : List Int) (w : World) (hN : l.length = N) (hok : allOk l = true) (hroom : width l ≤ s.size) (hl : N ≤ 100) (hs : s.size ≤ 300) (hr : Lies w w.heap.size a (ints l)) :
    Calls Try.prog 4 #[.string s, .slice a N cap] w fun e w' => e = .returned (.bool true) ∧ Below w.heap.size w w' := by
  have HN := Lib.hid hN
  obtain ⟨r, hr0⟩ : ∃ r, r = nums s.data.toList l := ⟨_, rfl⟩
  have HR : Hid (takeR s.data.toList l = (r, 0)) := Lib.hid <| by rw [hr0]; exact takeR_ok hok (by simpa using hroom)
  have hrn : r.length = N := by rw [hr0, nums_length, hN]
  have HRN := Lib.hid hrn
  have HR0 := Lib.hid hr0
  have HOK := Lib.hid hok
  have HROOM := Lib.hid hroom
  have HTOT : Hid (tot l = (width l : Nat)) := Lib.hid <| by rw [tot_yes hok, sum_width l hok]
  clear hN hr0 hrn hok hroom
  go_enter Try.func4, Try.ntmps4
  go_wp2_with (first
    | (go_at_call 6; refine (awake_any _).mono ?_; rintro e w1 ⟨rfl, hb1⟩)
    | (go_at_call 9; refine (take_at _ _ _ _ _ _ _ _ _ rfl (by omega) HN.out HR.out (by omega) (hr.step hb1)).mono ?_; rintro e w2 ⟨xa, xc, rfl, hx, hb2⟩; rw [HRN.out])
    | (go_at_call 12; refine (refTake_at _ _ _ _ _ _ _ _ _ rfl (by omega) HN.out HR.out (by omega) ((hr.step hb1).step hb2)).mono ?_; rintro e w3 ⟨ya, yc, rfl, hy, hb3⟩; rw [HRN.out])
    | (go_at_call 10; refine (same_at _ _ _ _ _ _ _ _ HRN.out HRN.out (by rw [HRN.out]; omega) (hx.step hb3) hy).mono ?_; rintro e w4 ⟨rfl, hb4⟩))
  have hbw : Below w.heap.size w w4 := hb1.trans ((hb2.mono hb1.size).trans ((hb3.mono (Nat.le_trans hb1.size hb2.size)).trans (hb4.mono (Nat.le_trans (Nat.le_trans hb1.size hb2.size) hb3.size))))
  have hx4 := (hx.step hb3).step hb4
  have hr4 := hr.step hbw
  clear hb1 hb2 hb3 hb4 hx hy
  obtain ⟨W, hW⟩ : ∃ W : World, W = w4 := ⟨_, rfl⟩
  subst hW
  go_loopw [9, 46] (fun t i wr => ∃ k : Nat, k ≤ N ∧ i = .int .i64 k ∧ t = .int .i64 (width (l.take k)) ∧ Below W.heap.size W wr) (fun _ i _ => N - (intOf i).toNat)
  case atStart => exact ⟨0, Nat.zero_le _, rfl, rfl, Below.refl _ _⟩
  case round =>
    obtain ⟨k, hk, rfl, rfl, hbr⟩ := hrel
    by_cases hlt : k < N
    · have hkl : k < l.length := by have := HN.out; omega
      have hkr : k < r.length := by have := HRN.out; omega
      obtain ⟨b, off, rfl, hbb, hc⟩ := hr4 (by rw [ints_length]; omega)
      obtain ⟨d, of2, rfl, hdd, hd⟩ := hx4 (by rw [ints_length]; omega)
      have hc1 : wr.cell? ⟨b, off + k, none⟩ = some (.int .i64 l[k]) := (hbr.cell (p := ⟨b, off + k, none⟩) hbb).trans (hc k _ (ints_get l k hkl))
      have hc2 : wr.cell? ⟨d, of2 + k, none⟩ = some (.int .i64 r[k]) := (hbr.cell (p := ⟨d, of2 + k, none⟩) hdd).trans (hd k _ (ints_get r k hkr))
      clear hc hd hr4 hx4 hr
      have h17 := ok_bounds hkl HOK.out
      obtain ⟨m, hm⟩ : ∃ m : Nat, l[k] = (m : Int) := ⟨l[k].toNat, by omega⟩
      have hm1 : 1 ≤ m := by omega
      have hm7 : m ≤ 7 := by omega
      have hws := width_step l k hkl
      obtain ⟨q, hq⟩ : ∃ q, q = width (l.take k) := ⟨_, rfl⟩
      rw [hm, Int.toNat_natCast, ← hq] at hws
      have hqm : q + m ≤ s.size := by have h1 := width_take_le l (k + 1); have h2 := HROOM.out; omega
      have hpb : putR m [r[k]] = ((s.data.toList.drop q).take m, 0) := by
        have e := nums_get s.data.toList l k hkl (by rw [nums_length]; omega)
        have e2 : r[k] = (nums s.data.toList l)[k]'(by rw [nums_length]; omega) := by simp [HR0.out]
        rw [e2, e, hm, Int.toNat_natCast, ← hq]
        exact put_back _ m hm1 hm7 (by rw [List.length_take, List.length_drop]; simp; omega)
      rw [hm] at hc1
      rw [← hq]
      have HPB := Lib.hid hpb
      have HWS := Lib.hid hws
      have HM := Lib.hid hm
      have HQ := Lib.hid hq
      clear hm hq hws hpb h17
      generalize r[k] = x at hc2 HPB
      have lb := World.block_lt_of_cell? wr _ hc1
      have ld := World.block_lt_of_cell? wr _ hc2
      simp only at lb ld
      have hk0 : (0 : Int) ≤ (k : Int) := Int.natCast_nonneg _
      have hk1 : (k : Int) < (N : Int) := by omega
      obtain ⟨T, hT⟩ : ∃ T, T = str ((s.data.toList.drop q).take m) := ⟨_, rfl⟩
      have HT := Lib.hid hT
      clear hT
      go_upto_region 13 with (fail)
      go_cut [11, 12] (fun t g wx => t = .string T ∧ g = .int .i64 0 ∧ Below wr.heap.size wr wx)
      case first =>
        go_region_held3 (fun w' => w'.cell? ⟨b, off + k, none⟩ = some (.int .i64 (m : Int)) ∧ w'.cell? ⟨d, of2 + k, none⟩ = some (.int .i64 x))
          (first | go_keep | (go_split_ands; exact ⟨keep_cell hb5 (by assumption), keep_cell hb5 (by assumption)⟩))
          (first | (go_at_call 7; refine (put_held _ _ _ _ _ _ ?_ HPB.out).mono ?_; (focus (simp [World.cell?_alloc_new])); rintro e w5 ⟨rfl, hb5⟩; rw [← HT.out]))
        go_wp2_with fail
        go_meet
        exact ⟨rfl, rfl, ((Below.refl _ _).drew.alloc (by simp) _).trans (hb5.mono (by simp))⟩
      case rest =>
        obtain ⟨rfl, rfl, hwc⟩ := hcut
        have hc1' := keep_cell hwc hc1
        clear hc1 hc2
        have hsl : T.toList = (s.extract q (q + m)).toList := by
          rw [HT.out, str_toList, Lib.toList_data, Lib.extract_data]
          congr 1
          omega
        have hse : (T.toList == (s.extract q (q + m)).toList) = true := by rw [hsl]; simp
        have hsn : (T.toList != (s.extract q (q + m)).toList) = false := by rw [hsl]; simp
        clear hsl
        go_wp2
        go_roundw
        case rel => exact ⟨k + 1, by omega, by go_num, by rw [HWS.out]; go_num, hbr.trans (hwc.mono hbr.size)⟩
        case measure => simp [intOf]; omega
    · have ek : k = N := by omega
      subst ek
      have HE : Hid (l.take k = l) := Lib.hid (List.take_of_length_le (by have := HN.out; omega))
      rw [HE.out]
      go_wp2_with (go_at_call 11; refine (size_at _ _ _ _ _ _ HN.out (by omega) HTOT.out (hr4.step hbr)).mono ?_; rintro e w6 ⟨rfl, rfl⟩)
      go_ret
      exact ⟨by simp, hbw.trans (hbr.mono hbw.size)⟩

/-- NumTakes tells true where the answer is an error. -/
theorem numTakes_bad (s : ByteArray) (a : Option Addr) (N cap : Nat) (l : List Int) (c : Int) (w : World) (hN : l.length = N) (hR : takeR s.data.toList l = ([], c)) (hc : c ≠ 0) (hl : N ≤ 100) (hs : s.size ≤ 300) (hr : Lies w w.heap.size a (ints l)) :
    Calls Try.prog 4 #[.string s, .slice a N cap] w fun e w' => e = .returned (.bool true) ∧ Below w.heap.size w w' := by
  have HN := Lib.hid hN
  have HR := Lib.hid hR
  have HZ : Hid (([] : List Int).length = 0) := Lib.hid rfl
  have hne : (c != 0) = true := by rw [bne_iff_ne]; exact hc
  clear hN hR hc
  go_enter Try.func4, Try.ntmps4
  go_wp2_with (first
    | (go_at_call 6; refine (awake_any _).mono ?_; rintro e w1 ⟨rfl, hb1⟩)
    | (go_at_call 9; refine (take_at _ _ _ _ _ _ _ _ _ rfl (by omega) HN.out HR.out (by omega) (hr.step hb1)).mono ?_; rintro e w2 ⟨xa, xc, rfl, hx, hb2⟩)
    | (go_at_call 12; refine (refTake_at _ _ _ _ _ _ _ _ _ rfl (by omega) HN.out HR.out (by omega) ((hr.step hb1).step hb2)).mono ?_; rintro e w3 ⟨ya, yc, rfl, hy, hb3⟩)
    | (go_at_call 10; refine (same_at _ _ _ _ _ _ [] _ rfl rfl (by simp) (hx.step hb3) hy).mono ?_; rintro e w4 ⟨rfl, hb4⟩))
  have hbw : Below w.heap.size w w4 := hb1.trans ((hb2.mono hb1.size).trans ((hb3.mono (Nat.le_trans hb1.size hb2.size)).trans (hb4.mono (Nat.le_trans (Nat.le_trans hb1.size hb2.size) hb3.size))))
  refine wp_loop_rounds 1 ?_
  rw [rounds_succ]
  go_wp2
  go_ret
  exact ⟨rfl, hbw⟩

theorem numTakes_walk (s : ByteArray) (a : Option Addr) (cap : Nat) (l : List Int) (w : World) (hlm : l.length ≤ maxLen) (hsm : s.size ≤ maxLen) (hr : Lies w w.heap.size a (ints l)) :
    Calls Try.prog 4 #[.string s, .slice a l.length cap] w fun e w' => e = .returned (.bool true) ∧ Below w.heap.size w w' := by
  unfold maxLen at hlm hsm
  obtain ⟨N, hN⟩ : ∃ N, l.length = N := ⟨_, rfl⟩
  rw [hN] at hlm ⊢
  by_cases hs : 300 < s.size
  · clear hN
    go_enter Try.func4, Try.ntmps4
    go_wp2_with (go_at_call 6; refine (awake_any _).mono ?_; rintro e w1 ⟨rfl, hb1⟩)
    go_ret
    exact ⟨rfl, hb1⟩
  by_cases hl : 100 < N
  · clear hN
    go_enter Try.func4, Try.ntmps4
    go_wp2_with (go_at_call 6; refine (awake_any _).mono ?_; rintro e w1 ⟨rfl, hb1⟩)
    go_ret
    exact ⟨rfl, hb1⟩
  by_cases hok : allOk l = true
  · by_cases hw : width l ≤ s.size
    · exact numTakes_good s a N cap l w hN hok hw (by omega) (by omega) hr
    · exact numTakes_bad s a N cap l 13 w hN (takeR_short hok (by simp; omega)) (by omega) (by omega) (by omega) hr
  · exact numTakes_bad s a N cap l 1 w hN (takeR_arg (by simpa using hok)) (by omega) (by omega) (by omega) hr

end Go.Proofs.Ytboecgopoadpdaa
