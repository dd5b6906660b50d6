/- Contracts of the document's answers for num: Put. -/
import Derived.Test.YtboecgopoadpdaaNumC
namespace Go.Proofs.Ytboecgopoadpdaa
open Go.RowKit NumMath

/-- A string out of a new block of one byte. -/
theorem one_string (w : World) (x : Int) (h0 : 0 ≤ x) (h1 : x ≤ 255) (g : Nat) (hg : w.cell? ⟨g, 0, none⟩ = some (.int .u8 x)) :
    (convert 39 9 (.slice (some ⟨g, 0, none⟩) 1 1)).run Try.prog w = .ok (.string (str [UInt8.ofNat x.toNat])) w := by
  refine run_convert_bytes_back w _ _ _ _ _ [UInt8.ofNat x.toNat] Try.underlying39 Try.underlying5 Try.underlying9 fun j hj => ?_
  have : j = 0 := by simpa using hj
  subst this
  have e : ((UInt8.ofNat x.toNat).toNat : Int) = x := by rw [UInt8.toNat_ofNat']; omega
  simp only [List.getElem_cons_zero, e]
  exact hg

theorem str_append (l m : List UInt8) : str l ++ str m = str (l ++ m) := by
  apply ByteArray.ext
  simp [str]

/-- x stands in n bytes just if nothing is left behind n steps. -/
theorem fit_nat (n x : Nat) : fitB n x = decide (x / 256 ^ n = 0) := by
  unfold fitB
  rw [Bool.eq_iff_iff]
  simp only [decide_eq_true_eq, Int.toNat_natCast]
  have hp : 0 < 256 ^ n := Nat.pow_pos (by omega)
  have e : ((256 ^ n : Nat) : Int) = 256 ^ n := by simp
  rw [Nat.div_eq_zero_iff_lt hp]
  omega

theorem refPut_any (s : Int) (a : Option Addr) (cap : Nat) (l : List Int) (w : World) (hl : l.length ≤ 100000) (hwf : ∀ x ∈ l, x ≤ 9223372036854775807) (hr : Lies w w.heap.size a (ints l)) :
    Calls Try.prog 8 #[.int .i64 s, .slice a l.length cap] w (Answers s l w) := by
  by_cases hok : okB s = true
  · have hs2 : 1 ≤ s ∧ s ≤ 7 := by simpa [okB] using hok
    obtain ⟨n, rfl⟩ := Int.eq_ofNat_of_zero_le (show 0 ≤ s by omega)
    have hn1 : 1 ≤ n := by omega
    have hn7 : n ≤ 7 := by omega
    have HOK := Lib.hid hok
    clear hok
    go_enter Try.func8, Try.ntmps8
    go_wp2
    go_loopw [6, 7] (fun o i wr => ∃ k : Nat, k ≤ l.length ∧ i = .int .i64 k ∧ fitAll n (l.take k) = true ∧ o = .string (str (putBytes n (l.take k))) ∧ Below w.heap.size w wr)
      (fun _ i _ => l.length - (intOf i).toNat)
    case atStart => exact ⟨0, Nat.zero_le _, rfl, rfl, rfl, Below.refl _ _⟩
    case round =>
      obtain ⟨k, hk, rfl, hall, rfl, hbw⟩ := hrel
      by_cases hlt : k < l.length
      · obtain ⟨b, off, rfl, hbb, hc⟩ := hr (by rw [ints_length]; omega)
        have hcell : wr.cell? ⟨b, off + k, none⟩ = some (.int .i64 l[k]) := (hbw.cell (p := ⟨b, off + k, none⟩) hbb).trans (hc k _ (ints_get l k hlt))
        clear hc hr
        have HA := Lib.hid hall
        clear hall
        have HT := Lib.hid (take_snoc l k hlt)
        by_cases hneg : l[k] < 0
        · have hno : fitB n l[k] = false := by unfold fitB; simp; omega
          have hnot : Hid (fitAll n l = false) := Lib.hid <| by
            cases hh : fitAll n l with
            | false => rfl
            | true =>
              have := fitAll_take (k + 1) hh
              rw [HT.out, fitAll_snoc, hno, Bool.and_false] at this
              cases this
          clear hno
          have hne : (l[k] != 0) = true := by rw [bne_iff_ne]; omega
          go_wp2
          refine wp_loop_rounds 1 ?_
          rw [rounds_succ]
          go_wp2
          go_ret2
          exact ⟨by rw [putR_range HOK.out hnot.out]; rfl, hbw⟩
        · obtain ⟨x, hx⟩ : ∃ x : Nat, l[k] = (x : Int) := ⟨l[k].toNat, by omega⟩
          rw [hx] at hcell
          have hxb : x ≤ 9223372036854775807 := by have := hwf l[k] (List.getElem_mem hlt); omega
          have HX := Lib.hid hx
          clear hx hneg
          go_wp2
          go_loopw [8, 9, 10] (fun y t j w2 => ∃ q : Nat, q ≤ n ∧ j = .int .i64 q ∧ y = .int .i64 ((x / 256 ^ q : Nat) : Int) ∧ t = .string (str (be q x)) ∧ Below w.heap.size w w2)
            (fun _ _ j _ => n - (intOf j).toNat)
          case atStart => exact ⟨0, Nat.zero_le _, rfl, by simp, rfl, hbw⟩
          case round =>
            obtain ⟨q, hq, rfl, rfl, rfl, hb2⟩ := hrel
            obtain ⟨y, hy⟩ : ∃ y, y = x / 256 ^ q := ⟨_, rfl⟩
            have hyb : y ≤ 9223372036854775807 := by rw [hy]; exact Nat.le_trans (Nat.div_le_self _ _) hxb
            rw [← hy]
            have HY := Lib.hid hy
            clear hy hxb
            have hz1 : (str (be q x)).size ≤ 7 := by rw [str_size, be_length]; omega
            have hz2 : (str (putBytes n (l.take k))).size ≤ 700000 := by
              rw [str_size, putBytes_length, List.length_take]
              have := Nat.mul_le_mul (show min k l.length ≤ 100000 by omega) hn7
              simpa using this
            by_cases hqn : q < n
            · have hconv := one_string (wr.alloc (.cells #[.int .u8 ((y : Int) % 256)] 5)) ((y : Int) % 256) (by omega) (by omega) wr.heap.size (World.cell?_alloc_at _ _ _ _ rfl)
              have hz3 : (str [UInt8.ofNat (y % 256)]).size ≤ 1 := by rw [str_size]; simp
              go_wp2
              go_roundw
              case rel =>
                refine ⟨q + 1, by omega, by go_num, ?_, ?_, hb2.alloc hb2.size _⟩
                · rw [Nat.pow_succ, ← Nat.div_div_eq_div_mul, ← HY.out]
                  go_num
                · rw [str_append, be_cons, ← HY.out]
                  rfl
              case measure => simp [intOf]; omega
            · by_cases hy0 : y = 0
              · subst hy0
                go_wp2
                go_roundw
                case rel =>
                  have eq : q = n := by omega
                  subst eq
                  refine ⟨k + 1, by omega, by go_num, ?_, ?_, hb2⟩
                  · rw [HT.out, fitAll_snoc, HA.out, HX.out, fit_nat, ← HY.out]
                    rfl
                  · rw [HT.out, putBytes_snoc, str_append, HX.out]
                    rfl
                case measure => simp [intOf]; omega
              · have hne : ((y : Int) != 0) = true := by rw [bne_iff_ne]; omega
                go_wp2
                go_ret2
                have hnot : fitAll n l = false := by
                  cases hh : fitAll n l with
                  | false => rfl
                  | true =>
                    have := fitAll_take (k + 1) hh
                    have eq : q = n := by omega
                    subst eq
                    rw [HT.out, fitAll_snoc, HA.out, HX.out, fit_nat, ← HY.out] at this
                    simp [hy0] at this
                exact ⟨by rw [putR_range HOK.out hnot]; rfl, hb2⟩
      · have HE : Hid (l.take k = l) := Lib.hid (List.take_of_length_le (by omega))
        have HA := Lib.hid hall
        clear hall
        go_wp2
        go_ret2
        have h1 := HA.out
        rw [HE.out] at h1
        exact ⟨by rw [putR_ok HOK.out h1, HE.out]; rfl, hbw⟩
  · have hno : okB s = false := by simpa using hok
    have h2 : ¬ (1 ≤ s ∧ s ≤ 7) := by simpa [okB] using hno
    have HN := Lib.hid hno
    clear hok hno
    by_cases h1 : s < 1
    all_goals
      go_enter Try.func8, Try.ntmps8
      go_wp2
      go_ret2
      exact ⟨by rw [putR_arg HN.out]; rfl, Below.refl _ _⟩

end Go.Proofs.Ytboecgopoadpdaa
