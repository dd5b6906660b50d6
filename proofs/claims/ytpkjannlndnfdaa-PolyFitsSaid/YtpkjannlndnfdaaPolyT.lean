/- Contracts of the document's Eval, Derive, Add. -/
import Derived.Test.YtpkjannlndnfdaaPolyS
namespace Go.Proofs.Ytpkjannlndnfdaa
open Go.RowKit GfMath PolyMath
set_option linter.unusedVariables false

theorem E_succ (f : Nat → Nat) (k x : Nat) : E f (k + 1) x = E f k x ^^^ gm (f k) (pw x k) := rfl
theorem E_lt {f : Nat → Nat} (hf : ∀ i, f i < 256) {x : Nat} (hx : x < 256) (k : Nat) : E f k x < 256 := xs_lt _ fun i _ => gm_lt (hf i) (pw_lt hx i)

set_option maxHeartbeats 1000000 in
theorem reval_any (a : Option Addr) (cap : Nat) (l : List Nat) (x : Nat) (w : World) (hb : By l) (hx : x < 256) (hl : l.length ≤ 1000000) (hr : Lies w w.heap.size a (nats l)) :
    Calls Try.prog 7 #[.slice a l.length cap, .int .i64 (x : Int)] w fun e w' => e = .returned (.int .i64 (E (sq l) l.length x : Int)) ∧ w = w' := by
  have HB := Lib.hid hb
  have HX := Lib.hid hx
  clear hb hx
  go_enter Try.func7, Try.ntmps7
  go_wp2
  go_loop [5, 6, 7] (fun s p i => ∃ k : Nat, k ≤ l.length ∧ i = .int .i64 k ∧ s = .int .i64 (E (sq l) k x : Int) ∧ p = .int .i64 (pw x k : Int)) (fun _ _ i => l.length - (intOf i).toNat)
  case atStart => exact ⟨0, Nat.zero_le _, rfl, rfl, rfl⟩
  case round =>
    obtain ⟨k, hk, rfl, rfl, rfl⟩ := hrel
    by_cases hlt : k < l.length
    · obtain ⟨b2, off, rfl, hbb, hc⟩ := hr (by rw [nats_length]; omega)
      have hcell := nats_sq (B := 0) hc k hlt
      have hk1 : (k : Int) < l.length := by omega
      have hk0 : 0 ≤ (k : Int) := by omega
      have hst := E_succ (sq l) k x
      have hs8 := E_lt (fun i => HB.out.sq i) HX.out k
      have hp8 := pw_lt HX.out k
      have hd8 := HB.out.sq k
      have hps : pw x (k + 1) = gm (pw x k) x := rfl
      obtain ⟨d, hd⟩ : ∃ d, sq l k = d := ⟨_, rfl⟩
      obtain ⟨p, hp⟩ : ∃ p, pw x k = p := ⟨_, rfl⟩
      obtain ⟨s, hs⟩ : ∃ s, E (sq l) k x = s := ⟨_, rfl⟩
      rw [hd] at hcell hst hd8
      rw [hp] at hst hp8 hps
      rw [hs] at hst hs8
      rw [hp, hs]
      have hq8 := gm_lt hd8 hp8
      have HM1 : Hid (∀ u, Calls Try.prog 15 #[.int .i64 (d : Int), .int .i64 (p : Int)] u fun e w' => e = .returned (.int .i64 (gm d p : Int)) ∧ u = w') := Lib.hid fun u => rmul_any d p u hd8
      have HM2 : Hid (∀ u, Calls Try.prog 15 #[.int .i64 (p : Int), .int .i64 (x : Int)] u fun e w' => e = .returned (.int .i64 (gm p x : Int)) ∧ u = w') := Lib.hid fun u => rmul_any p x u hp8
      obtain ⟨q, hq⟩ : ∃ q, gm d p = q := ⟨_, rfl⟩
      rw [hq] at HM1 hst hq8
      have hxr := xor_i64 s q (by omega) (by omega)
      rw [← hst] at hxr
      have HS := Lib.hid hxr
      have HP := Lib.hid hps
      clear hr hc hbb hst hs8 hp8 hd8 hps hd hp hs hq8 hq hxr
      go_wp2_with (first
        | (go_at_call 15; (with_reducible refine (HM1.out _).mono ?_); rintro e w1 ⟨rfl, rfl⟩)
        | (go_at_call 15; (with_reducible refine (HM2.out _).mono ?_); rintro e w1 ⟨rfl, rfl⟩))
      go_round
      case rel => exact ⟨k + 1, by omega, by go_num, congrArg (Value.int .i64) HS.out, by rw [HP.out]⟩
      case measure => first | (simp [intOf]; done) | (simp [intOf]; omega)
    · have ek : k = l.length := by omega
      subst ek
      clear hr
      go_wp2
      go_ret
      exact ⟨rfl, rfl⟩

end Go.Proofs.Ytpkjannlndnfdaa
