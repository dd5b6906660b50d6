/- Contracts of crc's fill and New. -/
import Derived.Test.YtpeofjlecgenbaaCrcA
import Derived.StillTailTactics
namespace Go.Proofs.Ytpeofjlecgenbaa
open Go.RowKit CrcMath

theorem zero_crc (u : World) : (zeroValue 64).run Try.prog u = .ok (.agg (Array.replicate 256 (.int .u32 0))) u := by kernel_rfl

/-- The first k words of the table in block b are filled. -/
def Part (w : World) (b k : Nat) : Prop :=
  ∃ cs : Array Value, w.heap[b]? = some (.cells cs 64 (0, 0)) ∧ cs.size = 256 ∧ ∀ j : Nat, j < k → cs[j]? = some (.int .u32 ((eight (BitVec.ofNat 32 j)).toNat : Int))

theorem Part.cell {w : World} {b k j : Nat} (h : Part w b k) (hj : j < 256) : ∃ u, w.cell? ⟨b, j, none⟩ = some u := by
  obtain ⟨cs, hh, hs, _⟩ := h
  refine ⟨cs[j]'(by omega), ?_⟩
  simp only [World.cell?, hh]
  simp [hs, hj]
theorem Part.frozen {w : World} {b k j : Nat} (h : Part w b k) : w.frozen? ⟨b, j, none⟩ = false := by
  obtain ⟨cs, hh, hs, _⟩ := h
  simp [World.frozen?, hh]
theorem Part.next {w : World} {b k : Nat} (h : Part w b k) (hk : k < 256) : Part (w.setCell ⟨b, k, none⟩ (.int .u32 ((eight (BitVec.ofNat 32 k)).toNat : Int))) b (k + 1) := by
  obtain ⟨cs, hh, hs, hc⟩ := h
  refine ⟨cs.setIfInBounds k (.int .u32 ((eight (BitVec.ofNat 32 k)).toNat : Int)), ?_, by simpa using hs, fun j hj => ?_⟩
  · simp only [World.setCell, Array.getElem?_modify, if_true, hh, Option.map_some]
    rfl
  · rw [Array.getElem?_setIfInBounds]
    by_cases e : k = j
    · subst e; rw [if_pos rfl, if_pos (by omega)]
    · rw [if_neg e]; exact hc j (by omega)
theorem Part.tab {w : World} {b : Nat} (h : Part w b 256) : Tab w b 0 := by
  obtain ⟨cs, hh, hs, hc⟩ := h
  intro j hj
  simp only [World.cell?, hh, Nat.zero_add]
  simpa using hc j hj
theorem Part.lt {w : World} {b k : Nat} (h : Part w b k) : b < w.heap.size := by
  obtain ⟨cs, hh, hs, hc⟩ := h
  exact (Array.getElem?_eq_some_iff.1 hh).1
theorem Part.drew {w : World} {b k : Nat} (h : Part w b k) : Part w.drew b k := h

set_option maxRecDepth 100000 in
theorem crc_fill_any (b : Nat) (w : World) (hp : Part w b 0) :
    Calls Try.prog 24 #[.pointer (some ⟨b, 0, none⟩)] w fun e w' => e = .returned (.tuple #[]) ∧ Part w' b 256 ∧ Below b w w' := by
  go_enter Try.func24, Try.ntmps24
  go_wp2
  go_loopw [3] (fun i wr => ∃ k : Nat, k ≤ 256 ∧ i = .int .i64 k ∧ Part wr b k ∧ Below b w wr) (fun i _ => 256 - (intOf i).toNat)
  case atStart => exact ⟨0, by omega, rfl, hp, Below.refl _ _⟩
  case round =>
    obtain ⟨k, hk, rfl, hpart, hbw⟩ := hrel
    by_cases hlt : k < 256
    · obtain ⟨u, hu⟩ := hpart.cell hlt
      have hf := hpart.frozen (j := k)
      have hpart2 := hpart.next hlt
      have hb2 : Below b w (wr.setCell ⟨b, k, none⟩ (.int .u32 ((eight (BitVec.ofNat 32 k)).toNat : Int))) := hbw.setCell (p := ⟨b, k, none⟩) (Nat.le_refl _) _
      obtain ⟨x, hx⟩ : ∃ x, x = BitVec.ofNat 32 k := ⟨_, rfl⟩
      rw [← hx] at hpart2 hb2
      have hw : IntKind.u32.wrap (k : Int) = (x.toNat : Int) := by
        rw [IntKind.wrap_u32', hx, BitVec.toNat_ofNat]
        omega
      have HX := Lib.hid hx
      clear hx
      have hk1 : (k : Int) < 256 := by omega
      have hk2 : 0 ≤ (k : Int) := by omega
      have HP := Lib.hid hpart2
      have HB := Lib.hid hb2
      clear hpart hbw hpart2 hb2
      go_wp2
      go_still_tail 7, (by kernel_rfl)
      still_call ((eight_any x _).mono fun e w' h => ⟨h.1, h.2.symm⟩)
      repeat still_step
      refine wpStill_nil ?_
      change wpList _ _ _ _ _ wr.drew
      go_wp2
      go_roundw
      case rel => exact ⟨k + 1, by omega, by go_num, HP.out.drew, HB.out.drew⟩
      case measure => simp [intOf]; omega
    · have ek : k = 256 := by omega
      subst ek
      go_wp2
      go_end0
      exact ⟨rfl, hpart, hbw⟩

/-- What New answers: a summer whose table is filled. -/
def crc_Made (w : World) (e : Ending) (w' : World) : Prop :=
  ∃ b, e = .returned (.pointer (some ⟨b, 0, none⟩)) ∧ b < w'.heap.size ∧ Tab w' b 0 ∧ Below w.heap.size w w'

theorem crc_new_any (w : World) : Calls Try.prog 8 #[] w (crc_Made w) := by
  obtain ⟨zs, hzs⟩ : ∃ zs, zs = Array.replicate 256 (Value.int .u32 0) := ⟨_, rfl⟩
  have hz := zero_crc
  rw [← hzs] at hz
  have hne : ¬ zs = #[] := by rw [hzs]; decide
  have HP : Hid (Part (w.alloc (.cells zs 64)) w.heap.size 0) := Lib.hid ⟨zs, by show (w.heap.push _)[w.heap.size]? = _; simp, by rw [hzs]; simp, fun j hj => by omega⟩
  have HZ := Lib.hid hzs
  clear hzs
  go_enter Try.func8, Try.ntmps8
  go_wp2_with (go_at_call 24; refine (crc_fill_any _ _ HP.out).mono ?_; rintro e w1 ⟨rfl, hp1, hb1⟩)
  go_ret
  exact ⟨_, rfl, hp1.lt, hp1.tab, ((Below.refl _ _).alloc (Nat.le_refl _) _).trans hb1⟩

end Go.Proofs.Ytpeofjlecgenbaa
