/- Contracts of the document's Of, at, Bytes, Same, Eval. -/
import Derived.Test.YtpkjannlndnfdaaPolyR
namespace Go.Proofs.Ytpkjannlndnfdaa
open Go.RowKit GfMath PolyMath
set_option linter.unusedVariables false

theorem own_form2 {w : World} {base : Nat} {v : Value} {n : Nat} {xs : List Value} {e : TypeId} (h : w.ownsRow base e 1 v n xs) : ∃ a cap, v = .slice a n cap ∧ n ≤ cap ∧ Lies w w.heap.size a xs := by
  obtain ⟨a, cap, rfl, hl⟩ := own_form h
  refine ⟨a, cap, rfl, ?_, hl⟩
  rcases h.2 with ⟨h1, h2⟩ | ⟨g', cap', cur, h1, h2, h3, h4, _⟩
  · omega
  · cases h1; exact h4
theorem own_zero (w : World) (t : TypeId) : (w.alloc (.cells #[] t)).ownsRow w.heap.size t 1 (.slice (some ⟨w.heap.size, 0, none⟩) 0 0) 0 [] :=
  Row.owns (xs := []) (ys := []) (Row.new w t []) (Nat.le_refl _) rfl rfl (Nat.le_refl _) (by unfold maxLen; omega)

set_option maxHeartbeats 1000000 in
theorem of_any (a : Option Addr) (cap : Nat) (l : List Nat) (w : World) (hb : By l) (hl : l.length ≤ 1000000) (hr : Lies w w.heap.size a (u8s l)) :
    Calls Try.prog 8 #[.slice a l.length cap] w fun e w' => (∃ v, e = .returned v ∧ IReads w' v (lo l)) ∧ Below w.heap.size w w' := by
  have HR := Lib.hid hr
  have HB := Lib.hid hb
  have H0 : Hid ((w.alloc (.cells #[] 3)).ownsRow w.heap.size 3 1 (.slice (some ⟨w.heap.size, 0, none⟩) 0 0) (l.length - l.length) (nats (l.drop l.length).reverse)) := Lib.hid (by rw [Nat.sub_self, List.drop_length]; exact own_zero w _)
  clear hr hb
  go_enter Try.func8, Try.ntmps8
  go_wp2
  go_loopw [3, 4] (fun v i wr => ∃ k : Nat, k ≤ l.length ∧ i = .int .i64 ((k : Int) - 1) ∧ wr.ownsRow w.heap.size 3 1 v (l.length - k) (nats (l.drop k).reverse) ∧ Below w.heap.size w wr) (fun _ i _ => (intOf i + 1).toNat)
  case atStart => exact ⟨l.length, Nat.le_refl _, rfl, H0.out, alloc_below _ _⟩
  case round =>
    clear H0
    obtain ⟨k, hk, rfl, hown, hbw⟩ := hrel
    obtain ⟨ad, c2, rfl, hc2, hlies⟩ := own_form2 hown
    match k, hk with
    | 0, hk =>
      rw [show ((0 : Nat) : Int) - 1 = -1 by omega]
      rw [Nat.sub_zero] at hc2 ⊢
      rw [List.drop_zero] at hlies
      have HCU : Hid (Calls Try.prog 16 #[.slice ad l.length c2] wr fun e w' => (∃ v, e = .returned v ∧ IReads wr v (lo l)) ∧ wr = w') := Lib.hid (by
        have h := cut_any ad c2 l.reverse wr (fun x hx => HB.out x (by simpa using hx)) (by simpa using hl) (by simpa using hc2) hlies
        rw [cut_reverse, List.length_reverse] at h
        exact h)
      have HBW := Lib.hid hbw
      clear hown hbw hlies
      go_wp2_with (go_at_call 16; (with_reducible refine HCU.out.mono ?_); rintro e w2 ⟨⟨v, rfl, hv⟩, rfl⟩; have HV := Lib.hid hv; clear hv)
      go_ret
      exact ⟨⟨_, rfl, HV.out⟩, HBW.out⟩
    | m + 1, hk =>
      rw [show ((m + 1 : Nat) : Int) - 1 = (m : Int) by omega]
      obtain ⟨b2, off, rfl, hbb, hc⟩ := HR.out (by rw [u8s_length]; omega)
      have hcell : wr.cell? ⟨b2, off + m, none⟩ = some (.int .u8 (sq l m : Int)) := (hbw.cell (p := ⟨b2, off + m, none⟩) hbb).trans (u8s_sq hc m (by omega))
      have hst := drop_rev l m (by omega)
      have hx8 := HB.out.sq m
      obtain ⟨x, hx⟩ : ∃ x, sq l m = x := ⟨_, rfl⟩
      rw [hx] at hcell hst hx8
      have hxi : (x : Int) < 256 := by omega
      have hm0 : 0 ≤ (m : Int) := by omega
      have hml : (m : Int) < l.length := by omega
      have HOWN := Lib.hid hown
      have HBW := Lib.hid hbw
      obtain ⟨n, hn⟩ : ∃ n, l.length - (m + 1) = n := ⟨_, rfl⟩
      rw [hn] at HOWN ⊢
      have HN : Hid (l.length - m = n + 1) := Lib.hid (by omega)
      have HOW2 := Lib.hid (HOWN.out.alloc (.cells #[.int .i64 (x : Int)] 3))
      have HL2 : Hid (Lies (wr.alloc (.cells #[.int .i64 (x : Int)] 3)) (wr.alloc (.cells #[.int .i64 (x : Int)] 3)).heap.size (some ⟨wr.heap.size, 0, none⟩) [.int .i64 (x : Int)]) := Lib.hid (Lies.new [_] _ _)
      have HBW2 := Lib.hid (HBW.out.alloc HBW.out.size (.cells #[.int .i64 (x : Int)] 3))
      have HO1 : Hid ((Value.int .i64 (x : Int)).oneCell' = true) := Lib.hid rfl
      have HPK : Big (n + 1 ≤ 1099511627776) := ⟨by omega⟩
      have HOL : Hid (∀ j, (Value.slice ad n c2).ownBlock = some j → w.heap.size ≤ j) := Lib.hid fun j hj => (HOWN.out.lt j hj).1
      have HZ2 := Lib.hid HBW2.out.size
      have HST := Lib.hid hst
      clear hown hbw hlies hc hbb hst hx hx8 hc2 hn
      go_wp2_with (first
        | ((with_reducible refine wpAppend1K HOW2.out Try.underlying29 one_int HL2.out HO1.out HPK HZ2.out ?_ ?_); rfl; intro v1 w1 g1 g2 g3; have HV1 := Lib.hid g1; have HG1 := Lib.hid g2; clear g1 g2 g3))
      go_roundw
      case rel => exact ⟨m, by omega, by go_num, by rw [HST.out, HN.out, nats_snoc]; exact HV1.out, HBW2.out.grown HG1.out HBW2.out.size HOL.out⟩
      case measure => first | (simp [intOf]; done) | (simp [intOf]; omega)

end Go.Proofs.Ytpkjannlndnfdaa
