/- Contracts of the document's Same, and of the statements' awake. -/
import Derived.Test.YtboecgopoadpdaaNumE
import Derived.Deep.QuietTactic
namespace Go.Proofs.Ytboecgopoadpdaa
open Go.RowKit NumMath

theorem below_drewN {B : Nat} {a w : World} (h : Below B a w) (n : Nat) : Below B a (w.drewN n) := ⟨h.os, h.tape, h.output, h.size, h.block⟩

theorem same_any (a c : Option Addr) (ca cc : Nat) (l m : List Int) (w : World) (hl : l.length ≤ 1152921504606846976) (hm : m.length ≤ 1152921504606846976) (hr : Lies w w.heap.size a (ints l)) (hq : Lies w w.heap.size c (ints m)) :
    Calls Try.prog 10 #[.slice a l.length ca, .slice c m.length cc] w fun e w' => e = .returned (.bool (decide (l = m))) ∧ Below w.heap.size w w' := by
  by_cases hlen : l.length = m.length
  · have hb : ((l.length : Int) != (m.length : Int)) = false := by simp; omega
    have HL := Lib.hid hlen
    clear hlen
    go_enter Try.func10, Try.ntmps10
    go_wp2
    go_loopw [5] (fun i wr => ∃ k : Nat, k ≤ l.length ∧ i = .int .i64 k ∧ l.take k = m.take k ∧ Below w.heap.size w wr) (fun i _ => l.length - (intOf i).toNat)
    case atStart => exact ⟨0, Nat.zero_le _, rfl, rfl, Below.refl _ _⟩
    case round =>
      obtain ⟨k, hk, rfl, htk, hbw⟩ := hrel
      have HTK := Lib.hid htk
      clear htk
      by_cases hlt : k < l.length
      · have hlm : k < m.length := by have := HL.out; omega
        obtain ⟨b, off, rfl, hbb, hc⟩ := hr (by rw [ints_length]; omega)
        obtain ⟨d, of2, rfl, hdd, hd⟩ := hq (by rw [ints_length]; omega)
        have hcell : wr.cell? ⟨b, off + k, none⟩ = some (.int .i64 l[k]) := (hbw.cell (p := ⟨b, off + k, none⟩) hbb).trans <| hc k _ (ints_get l k hlt)
        have hcel2 : wr.cell? ⟨d, of2 + k, none⟩ = some (.int .i64 m[k]) := (hbw.cell (p := ⟨d, of2 + k, none⟩) hdd).trans <| hd k _ (ints_get m k hlm)
        clear hc hd hr hq
        have HT := Lib.hid (take_snoc l k hlt)
        have HT2 := Lib.hid (take_snoc m k hlm)
        by_cases he : l[k] = m[k]
        · have hne : (l[k] != m[k]) = false := by simp [he]
          have HE := Lib.hid he
          clear he
          go_wp2
          go_quiet (fail)
          go_wp2
          go_roundw
          case rel => exact ⟨k + 1, by omega, by go_num, by rw [HT.out, HT2.out, HTK.out, HE.out], below_drewN hbw nq⟩
          case measure => simp [intOf]; omega
        · have hne : (l[k] != m[k]) = true := by simpa using he
          have HE : Hid (l ≠ m) := Lib.hid fun h => by subst h; exact he rfl
          clear he
          go_wp2
          go_quiet (fail)
          go_wp2
          go_ret
          exact ⟨ret_bool (decide_eq_false HE.out).symm, below_drewN hbw nq⟩
      · have HE : Hid (l = m) := Lib.hid <| by
          have h1 := HTK.out
          rwa [List.take_of_length_le (by omega), List.take_of_length_le (by have := HL.out; omega)] at h1
        go_wp2
        go_ret
        exact ⟨ret_bool (decide_eq_true HE.out).symm, hbw⟩
  · have hb : ((l.length : Int) != (m.length : Int)) = true := by rw [bne_iff_ne]; omega
    have HE : Hid (l ≠ m) := Lib.hid fun h => hlen (by rw [h])
    clear hlen
    go_enter Try.func10, Try.ntmps10
    go_wp2
    go_ret
    exact ⟨ret_bool (decide_eq_false HE.out).symm, Below.refl _ _⟩

theorem str_ne {l m : List UInt8} (h : l ≠ m) : str l ≠ str m := fun he => h (by rw [← str_list l, he, str_list])

theorem str_toList (l : List UInt8) : (str l).toList = l := by rw [Lib.toList_data, str_list]

theorem awake_any (w : World) : Calls Try.prog 6 #[] w fun e w' => e = .returned (.bool true) ∧ Below w.heap.size w w' := by
  have hlies : Lies (w.alloc (.cells #[.int .i64 1, .int .i64 256] 3)) (w.heap.size + 1) (some ⟨w.heap.size, 0, none⟩) (ints [1, 256]) := by
    intro _
    refine ⟨w.heap.size, 0, rfl, by omega, fun j u hu => ?_⟩
    rw [World.cell?_alloc_at _ _ _ _ rfl]
    simpa [ints] using hu
  have hans : putR 2 [1, 256] = ([0, 1, 1, 0], 0) := by decide
  go_enter Try.func6, Try.ntmps6
  go_wp2_with fail
  refine (put_any 2 (some ⟨w.heap.size, 0, none⟩) 2 [1, 256] _ (by simp) (by simpa using hlies)).mono ?_
  rintro e w1 ⟨rfl, hb⟩
  rw [hans]
  have hb2 : Below w.heap.size w w1 := ((Below.refl _ _).alloc (Nat.le_refl _) _).trans (hb.mono (by simp))
  clear hans hlies hb
  go_wp2
  go_ret
  exact ⟨ret_bool (by rw [str_toList]; rfl), hb2⟩

end Go.Proofs.Ytboecgopoadpdaa
