/- Contracts of the document's answers for num: Put, Take. -/
import Derived.Test.YtpeofjlecgenbaaB2
import Derived.Deep.QuietTactic
import Derived.Lib.Strings
import Derived.WalkSpells
namespace Go.Proofs.Ytpeofjlecgenbaa
open Go.RowKit NumMath
set_option maxRecDepth 100000

/-- A string out of a new block of one byte. -/
theorem num_one_string (w : World) (x : Int) (h0 : 0 ≤ x) (h1 : x ≤ 255) (g : Nat) (hg : w.cell? ⟨g, 0, none⟩ = some (.int .u8 x)) :
    (convert 58 9 (.slice (some ⟨g, 0, none⟩) 1 1)).run Try.prog w = .ok (.string (str [UInt8.ofNat x.toNat])) w := by
  refine run_convert_bytes_back w _ _ _ _ _ [UInt8.ofNat x.toNat] Try.underlying58 Try.underlying5 Try.underlying9 fun j hj => ?_
  have : j = 0 := by simpa using hj
  subst this
  have e : ((UInt8.ofNat x.toNat).toNat : Int) = x := by rw [UInt8.toNat_ofNat']; omega
  simp only [List.getElem_cons_zero, e]
  exact hg

/-- x stands in n bytes just if nothing is left behind n steps. -/
theorem fit_nat (n x : Nat) : fitB n x = decide (x / 256 ^ n = 0) := by
  unfold fitB
  rw [Bool.eq_iff_iff]
  simp only [decide_eq_true_eq, Int.toNat_natCast]
  have hp : 0 < 256 ^ n := Nat.pow_pos (by omega)
  have e : ((256 ^ n : Nat) : Int) = 256 ^ n := by simp
  rw [Nat.div_eq_zero_iff_lt hp]
  omega

theorem num_refPut_any (s : Int) (a : Option Addr) (cap : Nat) (l : List Int) (w : World) (hl : l.length ≤ 100000) (hwf : ∀ x ∈ l, x ≤ 9223372036854775807) (hr : Lies w w.heap.size a (ints l)) :
    Calls Try.prog 29 #[.int .i64 s, .slice a l.length cap] w (Answers s l w) := by
  by_cases hok : okB s = true
  · have hs2 : 1 ≤ s ∧ s ≤ 7 := by simpa [okB] using hok
    obtain ⟨n, rfl⟩ := Int.eq_ofNat_of_zero_le (show 0 ≤ s by omega)
    have hn1 : 1 ≤ n := by omega
    have hn7 : n ≤ 7 := by omega
    have HOK := Lib.hid hok
    clear hok
    go_enter Try.func29, Try.ntmps29
    go_wp2
    go_loopw [6, 7] (fun o i wr => ∃ k : Nat, k ≤ l.length ∧ i = .int .i64 k ∧ fitAll n (l.take k) = true ∧ o = .string (str (putBytes n (l.take k))) ∧ Below w.heap.size w wr)
      (fun _ i _ => l.length - (intOf i).toNat)
    case atStart => exact ⟨0, Nat.zero_le _, rfl, rfl, rfl, Below.refl _ _⟩
    case round =>
      obtain ⟨k, hk, rfl, hall, rfl, hbw⟩ := hrel
      by_cases hlt : k < l.length
      · obtain ⟨b, off, rfl, hbb, hc⟩ := hr (by rw [ints_length]; omega)
        have hcell : wr.cell? ⟨b, off + k, none⟩ = some (.int .i64 l[k]) := (hbw.cell (p := ⟨b, off + k, none⟩) hbb).trans (hc k _ (ints_get l k hlt))
        clear hc hr
        have HA := Lib.hid hall
        clear hall
        have HT := Lib.hid (take_snoc l k hlt)
        by_cases hneg : l[k] < 0
        · have hno : fitB n l[k] = false := by unfold fitB; simp; omega
          have hnot : Hid (fitAll n l = false) := Lib.hid <| by
            cases hh : fitAll n l with
            | false => rfl
            | true =>
              have := fitAll_take (k + 1) hh
              rw [HT.out, fitAll_snoc, hno, Bool.and_false] at this
              cases this
          clear hno
          have hne : (l[k] != 0) = true := by rw [bne_iff_ne]; omega
          go_wp2
          refine wp_loop_rounds 1 ?_
          rw [rounds_succ]
          go_wp2
          go_ret2
          exact ⟨by rw [putR_range HOK.out hnot.out]; rfl, hbw⟩
        · obtain ⟨x, hx⟩ : ∃ x : Nat, l[k] = (x : Int) := ⟨l[k].toNat, by omega⟩
          rw [hx] at hcell
          have hxb : x ≤ 9223372036854775807 := by have := hwf l[k] (List.getElem_mem hlt); omega
          have HX := Lib.hid hx
          clear hx hneg
          go_wp2
          go_loopw [8, 9, 10] (fun y t j w2 => ∃ q : Nat, q ≤ n ∧ j = .int .i64 q ∧ y = .int .i64 ((x / 256 ^ q : Nat) : Int) ∧ t = .string (str (be q x)) ∧ Below w.heap.size w w2)
            (fun _ _ j _ => n - (intOf j).toNat)
          case atStart => exact ⟨0, Nat.zero_le _, rfl, by simp, rfl, hbw⟩
          case round =>
            obtain ⟨q, hq, rfl, rfl, rfl, hb2⟩ := hrel
            obtain ⟨y, hy⟩ : ∃ y, y = x / 256 ^ q := ⟨_, rfl⟩
            have hyb : y ≤ 9223372036854775807 := by rw [hy]; exact Nat.le_trans (Nat.div_le_self _ _) hxb
            rw [← hy]
            have HY := Lib.hid hy
            clear hy hxb
            have hz1 : (str (be q x)).size ≤ 7 := by rw [str_size, be_length]; omega
            have hz2 : (str (putBytes n (l.take k))).size ≤ 700000 := by
              rw [str_size, putBytes_length, List.length_take]
              have := Nat.mul_le_mul (show min k l.length ≤ 100000 by omega) hn7
              simpa using this
            by_cases hqn : q < n
            · have hconv := num_one_string (wr.alloc (.cells #[.int .u8 ((y : Int) % 256)] 5)) ((y : Int) % 256) (by omega) (by omega) wr.heap.size (World.cell?_alloc_at _ _ _ _ rfl)
              have hz3 : (str [UInt8.ofNat (y % 256)]).size ≤ 1 := by rw [str_size]; simp
              go_wp2
              go_roundw
              case rel =>
                refine ⟨q + 1, by omega, by go_num, ?_, ?_, hb2.alloc hb2.size _⟩
                · rw [Nat.pow_succ, ← Nat.div_div_eq_div_mul, ← HY.out]
                  go_num
                · rw [str_append, be_cons, ← HY.out]
                  rfl
              case measure => simp [intOf]; omega
            · by_cases hy0 : y = 0
              · subst hy0
                go_wp2
                go_roundw
                case rel =>
                  have eq : q = n := by omega
                  subst eq
                  refine ⟨k + 1, by omega, by go_num, ?_, ?_, hb2⟩
                  · rw [HT.out, fitAll_snoc, HA.out, HX.out, fit_nat, ← HY.out]
                    rfl
                  · rw [HT.out, putBytes_snoc, str_append, HX.out]
                    rfl
                case measure => simp [intOf]; omega
              · have hne : ((y : Int) != 0) = true := by rw [bne_iff_ne]; omega
                go_wp2
                go_ret2
                have hnot : fitAll n l = false := by
                  cases hh : fitAll n l with
                  | false => rfl
                  | true =>
                    have := fitAll_take (k + 1) hh
                    have eq : q = n := by omega
                    subst eq
                    rw [HT.out, fitAll_snoc, HA.out, HX.out, fit_nat, ← HY.out] at this
                    simp [hy0] at this
                exact ⟨by rw [putR_range HOK.out hnot]; rfl, hb2⟩
      · have HE : Hid (l.take k = l) := Lib.hid (List.take_of_length_le (by omega))
        have HA := Lib.hid hall
        clear hall
        go_wp2
        go_ret2
        have h1 := HA.out
        rw [HE.out] at h1
        exact ⟨by rw [putR_ok HOK.out h1, HE.out]; rfl, hbw⟩
  · have hno : okB s = false := by simpa using hok
    have h2 : ¬ (1 ≤ s ∧ s ≤ 7) := by simpa [okB] using hno
    have HN := Lib.hid hno
    clear hok hno
    by_cases h1 : s < 1
    all_goals
      go_enter Try.func29, Try.ntmps29
      go_wp2
      go_ret2
      exact ⟨by rw [putR_arg HN.out]; rfl, Below.refl _ _⟩

theorem nwidth_step (l : List Int) (k : Nat) (h : k < l.length) : nwidth (l.take (k + 1)) = nwidth (l.take k) + l[k].toNat := by
  rw [take_snoc l k h, nwidth_snoc]

theorem val_more (L : List UInt8) (at0 q : Nat) (h : at0 + q < L.length) :
    (val ((L.drop at0).take (q + 1)) : Int) = 256 * (val ((L.drop at0).take q) : Int) + (L[at0 + q].toNat : Int) := by
  rw [List.take_succ_eq_append_getElem (by rw [List.length_drop]; omega), val_snoc, List.getElem_drop]
  omega

theorem val_small (L : List UInt8) (q : Nat) (h : q ≤ 6) : val (L.take q) < 281474976710656 := by
  have h1 := val_lt (L.take q)
  have h2 : (L.take q).length ≤ 6 := by rw [List.length_take]; omega
  have h3 : 256 ^ (L.take q).length ≤ 256 ^ 6 := Nat.pow_le_pow_right (by omega) h2
  have h4 : (256 : Nat) ^ 6 = 281474976710656 := rfl
  omega

theorem num_ok_bounds {l : List Int} {k : Nat} (hk : k < l.length) (h : nallOk l = true) : 1 ≤ l[k] ∧ l[k] ≤ 7 := by
  have := nallOk_take (k + 1) h
  rw [take_snoc l k hk, nallOk_snoc, Bool.and_eq_true] at this
  simpa [okB] using this.2

theorem num_refTake_any (s : ByteArray) (a : Option Addr) (cap : Nat) (l : List Int) (w : World) (hl : l.length ≤ 100000) (hs : s.size ≤ 140737488355328) (hr : Lies w w.heap.size a (ints l)) :
    Calls Try.prog 31 #[.string s, .slice a l.length cap] w (NTakes s.data.toList l w) := by
  obtain ⟨i0, hi, hz0, hz1, hz2⟩ := info_parts info_int
  go_enter Try.func31, Try.ntmps31
  go_wp2
  go_loop [6, 7] (fun t i => ∃ k : Nat, k ≤ l.length ∧ i = .int .i64 k ∧ nallOk (l.take k) = true ∧ t = .int .i64 (nwidth (l.take k))) (fun _ i => l.length - (intOf i).toNat)
  case atStart => exact ⟨0, Nat.zero_le _, rfl, rfl, rfl⟩
  case round =>
    obtain ⟨k, hk, rfl, hall, rfl⟩ := hrel
    have hbd := nsum_bd (l.take k) hall
    rw [nsum_width _ hall] at hbd
    have hlen : (l.take k).length ≤ k := List.length_take_le _ _
    by_cases hlt : k < l.length
    · obtain ⟨b, off, rfl, hbb, hc⟩ := hr (by rw [ints_length]; omega)
      have hcell : w.cell? ⟨b, off + k, none⟩ = some (.int .i64 l[k]) := hc k _ (ints_get l k hlt)
      clear hc hr
      have HA := Lib.hid hall
      clear hall
      have HT := Lib.hid (take_snoc l k hlt)
      have HN : Hid (okB l[k] = false → nallOk l = false) := Lib.hid fun hn => by
        cases hh : nallOk l with
        | false => rfl
        | true =>
          have := nallOk_take (k + 1) hh
          rw [HT.out, nallOk_snoc, hn, Bool.and_false] at this
          cases this
      by_cases h1 : l[k] < 1
      · go_wp2
        go_ret2
        have h2 := takeR_arg (L := s.data.toList) (HN.out (okB_no (by omega)))
        exact ⟨_, by rw [h2]; rfl, by rw [h2]; exact World.ownsRow_nil _ _ _ _, Below.refl _ _⟩
      · by_cases h7 : 7 < l[k]
        · go_wp2
          go_ret2
          have h2 := takeR_arg (L := s.data.toList) (HN.out (okB_no (by omega)))
          exact ⟨_, by rw [h2]; rfl, by rw [h2]; exact World.ownsRow_nil _ _ _ _, Below.refl _ _⟩
        · obtain ⟨m, hm⟩ : ∃ m : Nat, l[k] = (m : Int) := ⟨l[k].toNat, by omega⟩
          rw [hm] at hcell h1 h7
          have HM := Lib.hid hm
          clear hm
          go_wp2
          go_round
          case rel =>
            refine ⟨k + 1, by omega, by go_num, ?_, ?_⟩
            · rw [HT.out, nallOk_snoc, HA.out, HM.out, okB_yes (by omega) (by omega)]; rfl
            · rw [HT.out, nwidth_snoc, HM.out]; go_num
          case measure => simp [intOf]; omega
    · have HE : Hid (l.take k = l) := Lib.hid (List.take_of_length_le (by omega))
      rw [HE.out] at hall hbd
      rw [HE.out]
      have HA := Lib.hid hall
      clear hall
      have HP : Hid (∀ j, nwidth (l.take j) ≤ nwidth l) := Lib.hid (nwidth_take_le l)
      by_cases hshort : s.size < nwidth l
      · go_wp2
        go_ret2
        have h2 := takeR_short (L := s.data.toList) HA.out (by simpa using hshort)
        exact ⟨_, by rw [h2]; rfl, by rw [h2]; exact World.ownsRow_nil _ _ _ _, Below.refl _ _⟩
      · have hown0 : (w.alloc (.cells #[] 3)).ownsRow w.heap.size 3 1 (.slice (some ⟨w.heap.size, 0, none⟩) 0 0) 0 [] := World.ownsRow_made w #[] 0 (Nat.le_refl _) (Nat.zero_le _) rfl
        go_wp2
        clear hbd hlen hlt hk
        go_loopw [8, 9, 10] (fun v t i wr => ∃ j : Nat, j ≤ l.length ∧ i = .int .i64 j ∧ t = .int .i64 (nwidth (l.take j)) ∧ wr.ownsRow w.heap.size 3 1 v j (ints (nnums s.data.toList (l.take j))) ∧ Below w.heap.size w wr)
          (fun _ _ i _ => l.length - (intOf i).toNat)
        case atStart => exact ⟨0, Nat.zero_le _, rfl, rfl, by simpa [ints, nnums] using hown0, (Below.refl _ _).alloc (Nat.le_refl _) _⟩
        case round =>
          obtain ⟨j, hj, rfl, rfl, hownr, hbw⟩ := hrel
          clear hown0
          by_cases hlt : j < l.length
          · obtain ⟨b, off, rfl, hbb, hc⟩ := hr (by rw [ints_length]; omega)
            have hcell : wr.cell? ⟨b, off + j, none⟩ = some (.int .i64 l[j]) := (hbw.cell (p := ⟨b, off + j, none⟩) hbb).trans (hc j _ (ints_get l j hlt))
            clear hc hr
            obtain ⟨m, hm⟩ : ∃ m : Nat, l[j] = (m : Int) := ⟨l[j].toNat, by have := num_ok_bounds hlt HA.out; omega⟩
            have hm7 : m ≤ 7 := by have := num_ok_bounds hlt HA.out; omega
            rw [hm] at hcell
            have hws := nwidth_step l j hlt
            rw [hm, Int.toNat_natCast] at hws
            have hroom : nwidth (l.take j) + m ≤ s.size := by have := HP.out (j + 1); omega
            have HM := Lib.hid hm
            have HWS := Lib.hid hws
            have HT := Lib.hid (take_snoc l j hlt)
            clear hm hws
            obtain ⟨at0, hat⟩ : ∃ at0, at0 = nwidth (l.take j) := ⟨_, rfl⟩
            rw [← hat] at hroom ⊢
            have HAT := Lib.hid hat
            clear hat
            go_wp2
            go_loop [9, 11, 12] (fun t x i => ∃ q : Nat, q ≤ m ∧ i = .int .i64 q ∧ t = .int .i64 ((at0 + q : Nat) : Int) ∧ x = .int .i64 (val ((s.data.toList.drop at0).take q))) (fun _ _ i => m - (intOf i).toNat)
            case atStart => exact ⟨0, Nat.zero_le _, rfl, by simp, rfl⟩
            case round =>
              obtain ⟨q, hq, rfl, rfl, rfl⟩ := hrel
              by_cases hqm : q < m
              · have hsm := val_small (s.data.toList.drop at0) q (by omega)
                have hin : at0 + q < s.size := by omega
                have HV := Lib.hid (val_more s.data.toList at0 q (by simpa using hin))
                have hbyte : s[at0 + q].toNat < 256 := s[at0 + q].toNat_lt
                go_wp2
                go_round
                case rel => exact ⟨q + 1, by omega, by go_num, by go_num, by rw [HV.out]; rfl⟩
                case measure => simp [intOf]; omega
              · have eq : q = m := by omega
                subst eq
                clear hqm
                go_wp2_with (at_builtin; refine wpList_append_own _ rfl (.tmp 65) (.tmp 67) 69 rfl w.heap.size 3 i0 (.int .i64 0) 1 8 Try.underlying69 hi hz0 hz1 hz2 rfl (by decide) _ _ _ rfl (hownr.alloc _) ⟨wr.heap.size, 0, none⟩ 1 1 [.int .i64 ((val ((s.data.toList.drop at0).take q) : Nat) : Int)] rfl rfl ?c1 ?c2 ?c3 ?c4 ?c5 ?_)
                case c2 => rfl
                case c3 => unfold maxLen; omega
                case c4 => omega
                case c5 => have := hbw.size; simp; omega
                intro v' w1 hown1 hg1 _
                have hb1 : Below w.heap.size w w1 := (hbw.alloc hbw.size _).grown hg1 (by have := hbw.size; simp; omega) (fun g hg => (hownr.lt g hg).1)
                clear hg1
                go_wp2
                go_roundw
                case rel =>
                  refine ⟨j + 1, by omega, by go_num, ?_, ?_, hb1⟩
                  · rw [HWS.out, HAT.out]; go_num
                  · rw [HT.out, nnums_snoc, ints_append, HM.out, Int.toNat_natCast, ← HAT.out]
                    exact hown1
                case measure => simp [intOf]; omega
          · have ej : j = l.length := by omega
            subst ej
            go_wp2
            go_ret2
            have h2 := takeR_ok (L := s.data.toList) HA.out (by simpa using hshort)
            rw [List.take_length] at hownr
            exact ⟨_, by rw [h2]; rfl, by rw [h2]; rw [nnums_length]; exact hownr, hbw⟩

theorem num_refPut_at (s : Int) (a : Option Addr) (n cap : Nat) (l : List Int) (L : List UInt8) (c : Int) (w : World) (hn : l.length = n) (hR : putR s l = (L, c)) (hl : n ≤ 100000) (hwf : ∀ x ∈ l, x ≤ 9223372036854775807) (hr : Lies w w.heap.size a (ints l)) :
    Calls Try.prog 29 #[.int .i64 s, .slice a n cap] w fun e w' => e = .returned (.tuple #[.string (str L), .int .i64 c]) ∧ Below w.heap.size w w' := by
  subst hn
  refine (num_refPut_any s a cap l w hl hwf hr).mono fun e w' h => ?_
  unfold Answers at h
  rw [hR] at h
  exact h

theorem num_refTake_at (s : ByteArray) (L : List UInt8) (a : Option Addr) (n cap : Nat) (l r : List Int) (c : Int) (w : World) (hs : s.data.toList = L) (hz : s.size ≤ 140737488355328) (hn : l.length = n) (hR : takeR L l = (r, c)) (hl : n ≤ 100000) (hr : Lies w w.heap.size a (ints l)) :
    Calls Try.prog 31 #[.string s, .slice a n cap] w (NMade r c w) := by
  subst hn
  subst hs
  refine (num_refTake_any s a cap l w hl hz hr).mono fun e w' h => ?_
  obtain ⟨v, he, hown, hb⟩ := h
  rw [hR] at he hown
  obtain ⟨ra, rc, hv, hlies⟩ := own_form hown
  exact ⟨ra, rc, by rw [he, hv], hlies, hb⟩

theorem num_refTake_new (s : ByteArray) (L : List UInt8) (a : Option Addr) (n cap : Nat) (l r : List Int) (c : Int) (w : World) (hs : s.data.toList = L) (hz : s.size ≤ 140737488355328) (hn : l.length = n) (hR : takeR L l = (r, c)) (h0 : 0 < r.length) (hl : n ≤ 100000) (hr : Lies w w.heap.size a (ints l)) :
    Calls Try.prog 31 #[.string s, .slice a n cap] w (NMadeN r c w) := by
  subst hn
  subst hs
  exact (num_refTake_any s a cap l w hl hz hr).mono fun e w' h => h.new hR h0

end Go.Proofs.Ytpeofjlecgenbaa
