/- Contracts of two functions over texts that many laws call: Joined, Long. -/
import Derived.Test.YtmphjmbnfaimiaaDoorKit
import Derived.Lib.Join
namespace Go.Proofs.YtmphjmbnfaimiaaDoor
open Go.RowKit

theorem refJoined_any (a : Option Addr) (cap : Nat) (l : List ByteArray) (w : World) (hl : l.length ≤ 1000000) (hlen : (cat l).length ≤ 1000000) (hs : ∀ s ∈ l, s.size ≤ 140737488351232) (hr : Lies w w.heap.size a (strs l)) :
    Calls Tryd.prog 8 #[.slice a l.length cap] w fun e w' => e = .returned (.string (str (cat l))) ∧ w = w' := by
  go_enter Tryd.func8, Tryd.ntmps8
  go_wp2
  go_loop [3, 4] (fun t i => ∃ k : Nat, k ≤ l.length ∧ i = .int .i64 k ∧ t = .string (str (cat (l.take k)))) (fun _ i => l.length - (intOf i).toNat)
  case atStart => exact ⟨0, by omega, rfl, rfl⟩
  case round =>
    obtain ⟨k, hk, rfl, rfl⟩ := hrel
    have hpre : (cat (l.take k)).length ≤ (cat l).length := by
      conv => rhs; rw [← List.take_append_drop k l, cat, List.flatMap_append]
      rw [List.length_append]
      exact Nat.le_add_right _ _
    by_cases hlt : k < l.length
    · obtain ⟨bl, off, rfl, hbb, hc⟩ := hr (by rw [strs_length]; omega)
      have hcell : w.cell? ⟨bl, off + k, none⟩ = some (.string l[k]) := hc k _ (strs_get l k hlt)
      have hsz := hs l[k] (List.getElem_mem _)
      have HT : Hid (str (cat (l.take (k + 1))) = str (cat (l.take k)) ++ l[k]) := Lib.hid (by rw [take_snoc l k hlt, cat_snoc, ← str_append, str_of])
      have hz : (str (cat (l.take k))).size ≤ 1000000 := by rw [str_size]; omega
      clear hc hs hr
      generalize str (cat (l.take k)) = S at hz HT ⊢
      go_wp2
      go_round
      case rel => exact ⟨k + 1, by omega, by go_num, by rw [HT.out]⟩
      case measure => simp [intOf]; omega
    · have HE : Hid (l.take k = l) := Lib.hid (List.take_of_length_le (by omega))
      go_wp2
      go_ret
      exact ⟨ret_str (by rw [HE.out]), rfl⟩

/-- Are texts more than what is played? -/
def longB (l : List ByteArray) : Bool := decide (3000 < (cat l).length) || decide (60 < l.length)

theorem cat_take_le (l : List ByteArray) (k : Nat) : (cat (l.take k)).length ≤ (cat l).length := by
  conv => rhs; rw [← List.take_append_drop k l, cat, List.flatMap_append]
  rw [List.length_append]
  exact Nat.le_add_right _ _

theorem long_any (a : Option Addr) (cap : Nat) (l : List ByteArray) (w : World) (hl : l.length ≤ 140737488351232) (hs : ∀ s ∈ l, s.size ≤ 140737488351232) (hr : Lies w w.heap.size a (strs l)) :
    Calls Tryd.prog 6 #[.slice a l.length cap] w fun e w' => e = .returned (.bool (longB l)) ∧ w = w' := by
  go_enter Tryd.func6, Tryd.ntmps6
  go_wp2
  go_loop [3, 8] (fun t i => ∃ k : Nat, k ≤ l.length ∧ i = .int .i64 k ∧ t = .int .i64 ((cat (l.take k)).length : Int) ∧ (cat (l.take k)).length ≤ 3000) (fun _ i => l.length - (intOf i).toNat)
  case atStart => exact ⟨0, by omega, rfl, rfl, by simp [cat]⟩
  case round =>
    obtain ⟨k, hk, rfl, rfl, h3⟩ := hrel
    by_cases hlt : k < l.length
    · obtain ⟨bl, off, rfl, hbb, hc⟩ := hr (by rw [strs_length]; omega)
      have hcell : w.cell? ⟨bl, off + k, none⟩ = some (.string l[k]) := hc k _ (strs_get l k hlt)
      have hsz := hs l[k] (List.getElem_mem _)
      have HT : Hid ((cat (l.take (k + 1))).length = (cat (l.take k)).length + l[k].size) := Lib.hid (by rw [take_snoc l k hlt, cat_snoc, List.length_append, size_list])
      have HLE := Lib.hid (cat_take_le l (k + 1))
      clear hc hs hr
      generalize (cat (l.take k)).length = n at h3 HT ⊢
      generalize hm : l[k].size = m at hsz HT ⊢
      by_cases hbig : 3000 < n + m
      · have HR : Hid (longB l = true) := Lib.hid (by
          unfold longB
          have h1 := HT.out
          have h2 := HLE.out
          rw [decide_eq_true (by omega : 3000 < (cat l).length), Bool.true_or])
        have HM := Lib.hid hm
        have hbig2 : 3000 < (n : Int) + (l[k].size : Int) := by rw [hm]; omega
        have hsz2 : l[k].size ≤ 140737488351232 := by rw [hm]; exact hsz
        clear hm
        go_wp2
        go_ret
        exact ⟨ret_bool HR.out.symm, rfl⟩
      · have hsz2 : l[k].size ≤ 3000 := by rw [hm]; omega
        have hbig2 : (n : Int) + (l[k].size : Int) ≤ 3000 := by rw [hm]; omega
        have HM := Lib.hid hm
        clear hm hsz
        go_wp2
        go_round
        case rel => exact ⟨k + 1, by omega, by go_num, by rw [HT.out, ← HM.out]; go_num, by rw [HT.out]; omega⟩
        case measure => simp [intOf]; omega
    · have HE : Hid (l.take k = l) := Lib.hid (List.take_of_length_le (by omega))
      go_wp2
      go_ret
      exact ⟨ret_bool (by rw [HE.out] at h3; unfold longB; rw [decide_eq_false (by omega : ¬ 3000 < (cat l).length), Bool.false_or]; simp; omega), rfl⟩

end Go.Proofs.YtmphjmbnfaimiaaDoor
