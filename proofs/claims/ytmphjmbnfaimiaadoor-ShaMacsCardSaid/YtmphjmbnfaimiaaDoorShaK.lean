/- The document's example. -/
import Derived.Test.YtmphjmbnfaimiaaDoorShaJ
namespace Go.Proofs.YtmphjmbnfaimiaaDoor
open Go.RowKit ShaMath

theorem sum_list (a : Option Addr) (n cap : Nat) (l : List ByteArray) (D : List UInt8) (w : World) (hn : l.length = n) (hD : sha (cat l) = D) (hg : Glob w) (hl : Big (n ≤ 140737488355328)) (ht : Big ((cat l).length < 100000000000)) (hr : Lies w w.heap.size a (strs l)) :
    Calls Tryd.prog 14 #[.slice a n cap] w fun e w' => e = .returned (.agg (bytes D).toArray) ∧ Below w.heap.size w w' := by
  subst hD
  exact sha_sum_any a n cap l w hn hg hl.out ht.out hr

set_option maxHeartbeats 1000000 in
theorem sha_awake_any (w : World) (hg : Glob w) :
    Calls Tryd.prog 5 #[] w fun e w' => e = .returned (.bool true) ∧ Below w.heap.size w w' := by
  obtain ⟨D, hD⟩ : ∃ D, D = sha [97, 98, 99] := ⟨_, rfl⟩
  obtain ⟨T, hT⟩ : ∃ T, T = str (hexB D) := ⟨_, rfl⟩
  have lD : D.length = 32 := by rw [hD, sha_length]
  have lT : T.size = 64 := by rw [hT, str_size, hexB_length, lD]
  have h8 : (T.extract 0 8).data.toList = [98, 97, 55, 56, 49, 54, 98, 102] := by
    rw [ByteArray.data_extract, Array.toList_extract]
    simp only [List.extract_eq_take_drop, List.drop_zero, Nat.sub_zero]
    rw [hT, str_list, hD, abc_hex]
  have hbe : ((T.extract 0 8).toList == [98, 97, 55, 56, 49, 54, 98, 102]) = true := by
    rw [ByteArray.toList_eq, h8]
    rfl
  have hsz : ((T.size : Int) == 64) = true := by rw [lT]; rfl
  have hle : 8 ≤ T.size := by omega
  have hle2 : (8 : Int) ≤ (T.size : Int) := by omega
  have HS1 : Hid (∀ u, Glob u → Calls Tryd.prog 14 #[.slice (some ⟨u.heap.size, 0, none⟩) 1 1] (u.alloc (.cells #[.string { data := #[97, 98, 99] }] 9)) fun e u' => e = .returned (.agg (bytes D).toArray) ∧ Below u.heap.size u u') := Lib.hid fun u g =>
    (sum_list (some ⟨u.heap.size, 0, none⟩) 1 1 [{ data := #[97, 98, 99] }] D (u.alloc (.cells #[.string { data := #[97, 98, 99] }] 9)) rfl (by rw [hD]; rfl) (g.step (alloc_below _ _)) ⟨by omega⟩ ⟨by show 3 < _; omega⟩ (Lies.new [_] _ _)).mono fun e u' h => ⟨h.1, (alloc_below _ _).next h.2⟩
  have HS2 : Hid (∀ u, Glob u → Calls Tryd.prog 14 #[.slice (some ⟨u.heap.size, 0, none⟩) 2 2] (u.alloc (.cells #[.string { data := #[97] }, .string { data := #[98, 99] }] 9)) fun e u' => e = .returned (.agg (bytes D).toArray) ∧ Below u.heap.size u u') := Lib.hid fun u g =>
    (sum_list (some ⟨u.heap.size, 0, none⟩) 2 2 [{ data := #[97] }, { data := #[98, 99] }] D (u.alloc (.cells #[.string { data := #[97] }, .string { data := #[98, 99] }] 9)) rfl (by rw [hD]; rfl) (g.step (alloc_below _ _)) ⟨by omega⟩ ⟨by show 3 < _; omega⟩ (Lies.new [_, _] _ _)).mono fun e u' h => ⟨h.1, (alloc_below _ _).next h.2⟩
  have HHEX : Hid (∀ u, Calls Tryd.prog 19 #[.agg (bytes D).toArray] u fun e u' => e = .returned (.string T) ∧ Below u.heap.size u u') := Lib.hid fun u => by rw [hT]; exact hex_any D u lD
  have HG := Lib.hid hg
  clear hg hD hT lD lT h8
  go_enter Tryd.func5, Tryd.ntmps5
  go_wp2_with (first
    | (go_at_call 14; (with_reducible refine (HS1.out w HG.out).mono ?_); rintro e u1 ⟨rfl, b1⟩; have B1 := Lib.hid b1; clear b1)
    | (go_at_call 19; (with_reducible refine (HHEX.out u1).mono ?_); rintro e u2 ⟨rfl, b2⟩; have B2 : Hid (Below w.heap.size w u2) := Lib.hid (B1.out.next b2); clear b2)
    | (go_at_call 14; (with_reducible refine (HS2.out u2 (HG.out.step B2.out)).mono ?_); rintro e u3 ⟨rfl, b3⟩; have B3 : Hid (Below w.heap.size w u3) := Lib.hid (B2.out.next b3); clear b3)
    | (go_at_call 19; (with_reducible refine (HHEX.out u3).mono ?_); rintro e u4 ⟨rfl, b4⟩; have B4 : Hid (Below w.heap.size w u4) := Lib.hid (B3.out.next b4); clear b4))
  go_ret
  exact ⟨rfl, B4.out⟩

end Go.Proofs.YtmphjmbnfaimiaaDoor
