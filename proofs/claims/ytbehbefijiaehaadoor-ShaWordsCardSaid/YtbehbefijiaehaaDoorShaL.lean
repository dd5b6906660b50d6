/- ShaNone's walk; digests held against one another. -/
import Derived.Test.YtbehbefijiaehaaDoorShaK
namespace Go.Proofs.YtbehbefijiaehaaDoor
open Go.RowKit ShaMath

theorem bytes_ints (l : List UInt8) : bytes l = (l.map fun b => (b.toNat : Int)).map (Value.int .u8) := by simp [bytes]
theorem ints_inj (D E : List UInt8) : (D.map fun b => (b.toNat : Int)) = (E.map fun b => (b.toNat : Int)) ↔ D = E := by
  constructor
  · intro h
    refine List.map_inj_right (f := fun b : UInt8 => (b.toNat : Int)) ?_ |>.1 h
    intro a b hab
    exact UInt8.toNat_inj.1 (by have h2 : (a.toNat : Int) = (b.toNat : Int) := hab; omega)
  · rintro rfl; rfl
theorem eq_hash (D E : List UInt8) (hD : D.length = 32) (hE : E.length = 32) (u : World) :
    (Op.equalIn 10000 31 (.agg (bytes D).toArray) (.agg (bytes E).toArray)).run Tryd.prog u = .ok (decide (D = E)) u := by
  rw [bytes_ints, bytes_ints, run_equal_ints 9998 31 5 32 .u8 _ _ u Tryd.underlying31 Tryd.underlying5 size_byte agg_byte (by simpa using hD) (by simpa using hE)]
  congr 1
  exact decide_eq_decide.2 (ints_inj D E)
theorem same_hash (D : List UInt8) (hD : D.length = 32) : ∀ u : World, (Op.equalIn 10000 31 (.agg (bytes D).toArray) (.agg (bytes D).toArray)).run Tryd.prog u = .ok true u := fun u => by rw [eq_hash D D hD hD u]; simp

set_option maxHeartbeats 1000000 in
theorem shaNone_walk (s : ByteArray) (w : World) (hg : Glob w) (hs : s.size ≤ 140737488351232) :
    Calls Tryd.prog 5 #[.string s] w fun e w' => e = .returned (.bool true) ∧ Below w.heap.size w w' := by
  obtain ⟨D, hD⟩ : ∃ D, D = sha [] := ⟨_, rfl⟩
  have HEQ : Hid (∀ u : World, (Op.equalIn 10000 31 (.agg (bytes D).toArray) (.agg (bytes D).toArray)).run Tryd.prog u = .ok true u) := Lib.hid (same_hash D (by rw [hD, sha_length]))
  have HSM : Hid (∀ u, Glob u → Calls Tryd.prog 16 #[.pointer none] u fun e u' => e = .returned (.agg (bytes D).toArray) ∧ Below u.heap.size u u') := Lib.hid fun u g => by rw [hD]; exact dsum_none u g
  have HSU : Hid (∀ u, Glob u → Calls Tryd.prog 17 #[.slice none 0 0] u fun e u' => e = .returned (.agg (bytes D).toArray) ∧ Below u.heap.size u u') := Lib.hid fun u g =>
    sum_list none 0 0 [] D u rfl (by rw [hD]; rfl) g ⟨by omega⟩ ⟨by show 0 < _; omega⟩ (Lies.nil u _ none)
  have HG := Lib.hid hg
  clear hg hD
  by_cases hbig : 300 < s.size
  · have hb2 : 300 < (s.size : Int) := by omega
    clear hbig
    go_enter Tryd.func5, Tryd.ntmps5
    go_wp2_with (first
      | (go_at_call 8; (with_reducible refine (awake_any w HG.out).mono ?_); rintro e u1 ⟨rfl, b1⟩; have B1 := Lib.hid b1; clear b1))
    go_ret
    exact ⟨rfl, B1.out⟩
  · have hb2 : (s.size : Int) ≤ 300 := by omega
    have heq := HEQ.out
    clear hbig hs
    go_enter Tryd.func5, Tryd.ntmps5
    go_wp2_with (first
      | (go_at_call 8; (with_reducible refine (awake_any w HG.out).mono ?_); rintro e u1 ⟨rfl, b1⟩; have B1 := Lib.hid b1; have B2 : Hid (Below w.heap.size w (u1.alloc (.cells #[.string s] 9))) := Lib.hid (b1.next (alloc_below _ _)); clear b1)
      | (go_at_call 14; (with_reducible refine (write_none _ _ _ _).mono ?_); rintro e u2 ⟨rfl, rfl⟩)
      | (go_at_call 18; (with_reducible refine (reset_none _).mono ?_); rintro e u2 ⟨rfl, rfl⟩)
      | (go_at_call 15; (with_reducible refine (len_none _).mono ?_); rintro e u2 ⟨rfl, rfl⟩)
      | (go_at_call 16; (with_reducible refine (HSM.out _ (HG.out.step B2.out)).mono ?_); rintro e u3 ⟨rfl, b3⟩; have B3 : Hid (Below w.heap.size w u3) := Lib.hid (B2.out.next b3); clear b3)
      | (go_at_call 17; (with_reducible refine (HSU.out _ (HG.out.step B3.out)).mono ?_); rintro e u4 ⟨rfl, b4⟩; have B4 : Hid (Below w.heap.size w u4) := Lib.hid (B3.out.next b4); clear b4))
    go_ret
    exact ⟨rfl, B4.out⟩

end Go.Proofs.YtbehbefijiaehaaDoor
