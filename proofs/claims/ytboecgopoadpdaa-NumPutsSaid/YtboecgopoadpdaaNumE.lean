/- Contracts of the document's answers for num: Take, Same. -/
import Derived.Test.YtboecgopoadpdaaNumD
import Derived.Deep.QuietTactic
namespace Go.Proofs.Ytboecgopoadpdaa
open Go.RowKit NumMath

theorem width_step (l : List Int) (k : Nat) (h : k < l.length) : width (l.take (k + 1)) = width (l.take k) + l[k].toNat := by
  rw [take_snoc l k h, width_snoc]

theorem val_more (L : List UInt8) (at0 q : Nat) (h : at0 + q < L.length) :
    (val ((L.drop at0).take (q + 1)) : Int) = 256 * (val ((L.drop at0).take q) : Int) + (L[at0 + q].toNat : Int) := by
  rw [List.take_succ_eq_append_getElem (by rw [List.length_drop]; omega), val_snoc, List.getElem_drop]
  omega
theorem val_small (L : List UInt8) (q : Nat) (h : q ≤ 6) : val (L.take q) < 281474976710656 := by
  have h1 := val_lt (L.take q)
  have h2 : (L.take q).length ≤ 6 := by rw [List.length_take]; omega
  have h3 : 256 ^ (L.take q).length ≤ 256 ^ 6 := Nat.pow_le_pow_right (by omega) h2
  have h4 : (256 : Nat) ^ 6 = 281474976710656 := rfl
  omega

theorem ok_bounds {l : List Int} {k : Nat} (hk : k < l.length) (h : allOk l = true) : 1 ≤ l[k] ∧ l[k] ≤ 7 := by
  have := allOk_take (k + 1) h
  rw [take_snoc l k hk, allOk_snoc, Bool.and_eq_true] at this
  simpa [okB] using this.2

theorem refTake_any (s : ByteArray) (a : Option Addr) (cap : Nat) (l : List Int) (w : World) (hl : l.length ≤ 100000) (hs : s.size ≤ 140737488355328) (hr : Lies w w.heap.size a (ints l)) :
    Calls Try.prog 12 #[.string s, .slice a l.length cap] w (Takes s.data.toList l w) := by
  obtain ⟨i0, hi, hz0, hz1, hz2⟩ := info_parts info_int
  go_enter Try.func12, Try.ntmps12
  go_wp2
  go_loop [6, 7] (fun t i => ∃ k : Nat, k ≤ l.length ∧ i = .int .i64 k ∧ allOk (l.take k) = true ∧ t = .int .i64 (width (l.take k))) (fun _ i => l.length - (intOf i).toNat)
  case atStart => exact ⟨0, Nat.zero_le _, rfl, rfl, rfl⟩
  case round =>
    obtain ⟨k, hk, rfl, hall, rfl⟩ := hrel
    have hbd := sum_bd (l.take k) hall
    rw [sum_width _ hall] at hbd
    have hlen : (l.take k).length ≤ k := List.length_take_le _ _
    by_cases hlt : k < l.length
    · obtain ⟨b, off, rfl, hbb, hc⟩ := hr (by rw [ints_length]; omega)
      have hcell : w.cell? ⟨b, off + k, none⟩ = some (.int .i64 l[k]) := hc k _ (ints_get l k hlt)
      clear hc hr
      have HA := Lib.hid hall
      clear hall
      have HT := Lib.hid (take_snoc l k hlt)
      have HN : Hid (okB l[k] = false → allOk l = false) := Lib.hid fun hn => by
        cases hh : allOk l with
        | false => rfl
        | true =>
          have := allOk_take (k + 1) hh
          rw [HT.out, allOk_snoc, hn, Bool.and_false] at this
          cases this
      by_cases h1 : l[k] < 1
      · go_wp2
        go_ret2
        have h2 := takeR_arg (L := s.data.toList) (HN.out (okB_no (by omega)))
        exact ⟨_, by rw [h2]; rfl, by rw [h2]; exact World.ownsRow_nil _ _ _ _, Below.refl _ _⟩
      · by_cases h7 : 7 < l[k]
        · go_wp2
          go_ret2
          have h2 := takeR_arg (L := s.data.toList) (HN.out (okB_no (by omega)))
          exact ⟨_, by rw [h2]; rfl, by rw [h2]; exact World.ownsRow_nil _ _ _ _, Below.refl _ _⟩
        · obtain ⟨m, hm⟩ : ∃ m : Nat, l[k] = (m : Int) := ⟨l[k].toNat, by omega⟩
          rw [hm] at hcell h1 h7
          have HM := Lib.hid hm
          clear hm
          go_wp2
          go_round
          case rel =>
            refine ⟨k + 1, by omega, by go_num, ?_, ?_⟩
            · rw [HT.out, allOk_snoc, HA.out, HM.out, okB_yes (by omega) (by omega)]; rfl
            · rw [HT.out, width_snoc, HM.out]; go_num
          case measure => simp [intOf]; omega
    · have HE : Hid (l.take k = l) := Lib.hid (List.take_of_length_le (by omega))
      rw [HE.out] at hall hbd
      rw [HE.out]
      have HA := Lib.hid hall
      clear hall
      have HP : Hid (∀ j, width (l.take j) ≤ width l) := Lib.hid (width_take_le l)
      by_cases hshort : s.size < width l
      · go_wp2
        go_ret2
        have h2 := takeR_short (L := s.data.toList) HA.out (by simpa using hshort)
        exact ⟨_, by rw [h2]; rfl, by rw [h2]; exact World.ownsRow_nil _ _ _ _, Below.refl _ _⟩
      · have hown0 : (w.alloc (.cells #[] 3)).ownsRow w.heap.size 3 1 (.slice (some ⟨w.heap.size, 0, none⟩) 0 0) 0 [] := World.ownsRow_made w #[] 0 (Nat.le_refl _) (Nat.zero_le _) rfl
        go_wp2
        clear hbd hlen hlt hk
        go_loopw [8, 9, 10] (fun v t i wr => ∃ j : Nat, j ≤ l.length ∧ i = .int .i64 j ∧ t = .int .i64 (width (l.take j)) ∧ wr.ownsRow w.heap.size 3 1 v j (ints (nums s.data.toList (l.take j))) ∧ Below w.heap.size w wr)
          (fun _ _ i _ => l.length - (intOf i).toNat)
        case atStart => exact ⟨0, Nat.zero_le _, rfl, rfl, by simpa [ints, nums] using hown0, (Below.refl _ _).alloc (Nat.le_refl _) _⟩
        case round =>
          obtain ⟨j, hj, rfl, rfl, hownr, hbw⟩ := hrel
          clear hown0
          by_cases hlt : j < l.length
          · obtain ⟨b, off, rfl, hbb, hc⟩ := hr (by rw [ints_length]; omega)
            have hcell : wr.cell? ⟨b, off + j, none⟩ = some (.int .i64 l[j]) := (hbw.cell (p := ⟨b, off + j, none⟩) hbb).trans (hc j _ (ints_get l j hlt))
            clear hc hr
            obtain ⟨m, hm⟩ : ∃ m : Nat, l[j] = (m : Int) := ⟨l[j].toNat, by have := ok_bounds hlt HA.out; omega⟩
            have hm7 : m ≤ 7 := by have := ok_bounds hlt HA.out; omega
            rw [hm] at hcell
            have hws := width_step l j hlt
            rw [hm, Int.toNat_natCast] at hws
            have hroom : width (l.take j) + m ≤ s.size := by have := HP.out (j + 1); omega
            have HM := Lib.hid hm
            have HWS := Lib.hid hws
            have HT := Lib.hid (take_snoc l j hlt)
            clear hm hws
            obtain ⟨at0, hat⟩ : ∃ at0, at0 = width (l.take j) := ⟨_, rfl⟩
            rw [← hat] at hroom ⊢
            have HAT := Lib.hid hat
            clear hat
            go_wp2
            go_loop [9, 11, 12] (fun t x i => ∃ q : Nat, q ≤ m ∧ i = .int .i64 q ∧ t = .int .i64 ((at0 + q : Nat) : Int) ∧ x = .int .i64 (val ((s.data.toList.drop at0).take q))) (fun _ _ i => m - (intOf i).toNat)
            case atStart => exact ⟨0, Nat.zero_le _, rfl, by simp, rfl⟩
            case round =>
              obtain ⟨q, hq, rfl, rfl, rfl⟩ := hrel
              by_cases hqm : q < m
              · have hsm := val_small (s.data.toList.drop at0) q (by omega)
                have hin : at0 + q < s.size := by omega
                have HV := Lib.hid (val_more s.data.toList at0 q (by simpa using hin))
                have hbyte : s[at0 + q].toNat < 256 := s[at0 + q].toNat_lt
                go_wp2
                go_round
                case rel => exact ⟨q + 1, by omega, by go_num, by go_num, by rw [HV.out]; rfl⟩
                case measure => simp [intOf]; omega
              · have eq : q = m := by omega
                subst eq
                clear hqm
                go_wp2_with (at_builtin; refine wpList_append_own _ rfl (.tmp 65) (.tmp 67) 22 rfl w.heap.size 3 i0 (.int .i64 0) 1 8 Try.underlying22 hi hz0 hz1 hz2 rfl (by decide) _ _ _ rfl (hownr.alloc _) ⟨wr.heap.size, 0, none⟩ 1 1 [.int .i64 ((val ((s.data.toList.drop at0).take q) : Nat) : Int)] rfl rfl ?c1 ?c2 ?c3 ?c4 ?c5 ?_)
                case c2 => rfl
                case c3 => unfold maxLen; omega
                case c4 => omega
                case c5 => have := hbw.size; simp; omega
                intro v' w1 hown1 hg1 _
                have hb1 : Below w.heap.size w w1 := (hbw.alloc hbw.size _).grown hg1 (by have := hbw.size; simp; omega) (fun g hg => (hownr.lt g hg).1)
                clear hg1
                go_wp2
                go_roundw
                case rel =>
                  refine ⟨j + 1, by omega, by go_num, ?_, ?_, hb1⟩
                  · rw [HWS.out, HAT.out]; go_num
                  · rw [HT.out, nums_snoc, ints_append, HM.out, Int.toNat_natCast, ← HAT.out]
                    exact hown1
                case measure => simp [intOf]; omega
          · have ej : j = l.length := by omega
            subst ej
            go_wp2
            go_ret2
            have h2 := takeR_ok (L := s.data.toList) HA.out (by simpa using hshort)
            rw [List.take_length] at hownr
            exact ⟨_, by rw [h2]; rfl, by rw [h2]; rw [nums_length]; exact hownr, hbw⟩

end Go.Proofs.Ytboecgopoadpdaa
