/- Contracts of poly's Eval, Derive, Shift, Mul, Add. -/
import Derived.Test.YtpkjannlndnfdaaPolyIn
namespace Go.Proofs.Ytpkjannlndnfdaa
open Go.RowKit GfMath PolyMath
set_option linter.unusedVariables false

theorem ev_take (l : List Nat) (k : Nat) (h : k < l.length) (x : Nat) : ev (l.take (k + 1)) x = gm (ev (l.take k) x) x ^^^ sq l k := by rw [take_snoc l k h, ev_snoc, sq_get l k h]
theorem by_take {l : List Nat} (h : By l) (k : Nat) : By (l.take k) := fun x hx => h x (List.mem_of_mem_take hx)

set_option maxHeartbeats 1000000 in
theorem eval_any (b : Nat) (a : Option Addr) (cap : Nat) (l : List Nat) (x : Nat) (w : World) (hf : Fld w b) (hb : By l) (hx : x < 256) (hl : l.length ≤ 140737488351232) (hr : Lies w w.heap.size a (u8s l)) :
    Calls Try.prog 11 #[.pointer (some ⟨b, 0, none⟩), .slice a l.length cap, .int .u8 (x : Int)] w fun e w' => e = .returned (.int .u8 (ev l x : Int)) ∧ Below w.heap.size w w' := by
  have HF := Lib.hid hf
  have HR := Lib.hid hr
  have HB := Lib.hid hb
  clear hf hr hb
  go_enter Try.func11, Try.ntmps11
  go_wp2
  go_loopw [7, 14] (fun p i wr => ∃ k : Nat, k ≤ l.length ∧ i = .int .i64 k ∧ p = .int .u8 (ev (l.take k) x : Int) ∧ Below w.heap.size w wr) (fun _ i _ => l.length - (intOf i).toNat)
  case atStart => exact ⟨0, Nat.zero_le _, rfl, rfl, Below.refl _ _⟩
  case round =>
    obtain ⟨k, hk, rfl, rfl, hbw⟩ := hrel
    by_cases hlt : k < l.length
    · have hk1 : (k : Int) < l.length := by omega
      obtain ⟨b2, off, rfl, hbb, hcl⟩ := HR.out (by rw [u8s_length]; omega)
      have hcell : wr.cell? ⟨b2, off + k, none⟩ = some (.int .u8 (sq l k : Int)) := by rw [sq_get l k hlt]; exact (hbw.cell (p := ⟨b2, off + k, none⟩) hbb).trans (hcl k _ (u8s_get l k hlt))
      have hst := ev_take l k hlt x
      have hv8 := ev_lt (by_take HB.out k) hx
      have hd8 := HB.out.sq k
      obtain ⟨d, hd⟩ : ∃ d, sq l k = d := ⟨_, rfl⟩
      rw [hd] at hcell hst hd8
      obtain ⟨v, hv⟩ : ∃ v, ev (l.take k) x = v := ⟨_, rfl⟩
      rw [hv] at hst hv8
      rw [hv]
      have hq8 := gm_lt hv8 hx
      have HM0 := fun (u : World) (hf : Fld u b) => mul2 b v x 5 hv8 hx u hf
      obtain ⟨q, hq⟩ : ∃ q, gm v x = q := ⟨_, rfl⟩
      rw [hq] at HM0 hst hq8
      have HM := Lib.hid HM0
      have HA := Lib.hid (fun (u : World) => add2 b q d 5 hq8 hd8 u)
      have HS := Lib.hid hst
      have HW := Lib.hid hbw
      have HFR : Hid (Fld wr b) := Lib.hid (HF.out.step hbw)
      clear HM0 hst hbw hv8 hd8 hq8 hcl hbb hd hv hq
      go_wp2_with (first
        | (go_at_call 24; (with_reducible refine (HM.out wr HFR.out).mono ?_); rintro e w1 ⟨rfl, b1⟩; have B1 := Lib.hid b1; clear b1)
        | (go_at_call 18; (with_reducible refine (HA.out w1).mono ?_); rintro e w2 ⟨rfl, b2⟩; have B2 := Lib.hid b2; clear b2))
      go_roundw
      case rel => exact ⟨k + 1, by omega, by go_num, by rw [HS.out], (HW.out.next B1.out).next B2.out⟩
      case measure => simp [intOf]; omega
    · have ek : k = l.length := by omega
      have HV : Hid (ev (l.take k) x = ev l x) := Lib.hid (by rw [ek, List.take_of_length_le (Nat.le_refl _)])
      have HW := Lib.hid hbw
      clear hbw
      go_wp2
      go_ret
      exact ⟨by rw [← HV.out]; rfl, HW.out⟩

theorem info_byte1 : (Try.prog.info? 5).map (·.size) = some 1 := by kernel_rfl

end Go.Proofs.Ytpkjannlndnfdaa
