/- Contracts of the document's Of, at, Bytes, Same, Eval. -/
import Derived.Test.YtligaipkdabmoaaPolyR
namespace Go.Proofs.Ytligaipkdabmoaa
open Go.RowKit GfMath PolyMath
set_option linter.unusedVariables false

theorem own_form2 {w : World} {base : Nat} {v : Value} {n : Nat} {xs : List Value} {e : TypeId} (h : w.ownsRow base e 1 v n xs) : ∃ a cap, v = .slice a n cap ∧ n ≤ cap ∧ Lies w w.heap.size a xs := by
  obtain ⟨a, cap, rfl, hl⟩ := own_form h
  refine ⟨a, cap, rfl, ?_, hl⟩
  rcases h.2 with ⟨h1, h2⟩ | ⟨g', cap', cur, h1, h2, h3, h4, _⟩
  · omega
  · cases h1; exact h4
theorem own_zero (w : World) (t : TypeId) : (w.alloc (.cells #[] t)).ownsRow w.heap.size t 1 (.slice (some ⟨w.heap.size, 0, none⟩) 0 0) 0 [] :=
  Row.owns (xs := []) (ys := []) (Row.new w t []) (Nat.le_refl _) rfl rfl (Nat.le_refl _) (by unfold maxLen; omega)

set_option maxHeartbeats 1000000 in
theorem of_any (a : Option Addr) (cap : Nat) (l : List Nat) (w : World) (hb : By l) (hl : l.length ≤ 1000000) (hr : Lies w w.heap.size a (u8s l)) :
    Calls Try.prog 15 #[.slice a l.length cap] w fun e w' => (∃ v, e = .returned v ∧ IReads w' v (lo l)) ∧ Below w.heap.size w w' := by
  have HR := Lib.hid hr
  have HB := Lib.hid hb
  have H0 : Hid ((w.alloc (.cells #[] 3)).ownsRow w.heap.size 3 1 (.slice (some ⟨w.heap.size, 0, none⟩) 0 0) (l.length - l.length) (nats (l.drop l.length).reverse)) := Lib.hid (by rw [Nat.sub_self, List.drop_length]; exact own_zero w _)
  clear hr hb
  go_enter Try.func15, Try.ntmps15
  go_wp2
  go_loopw [3, 4] (fun v i wr => ∃ k : Nat, k ≤ l.length ∧ i = .int .i64 ((k : Int) - 1) ∧ wr.ownsRow w.heap.size 3 1 v (l.length - k) (nats (l.drop k).reverse) ∧ Below w.heap.size w wr) (fun _ i _ => (intOf i + 1).toNat)
  case atStart => exact ⟨l.length, Nat.le_refl _, rfl, H0.out, alloc_below _ _⟩
  case round =>
    clear H0
    obtain ⟨k, hk, rfl, hown, hbw⟩ := hrel
    obtain ⟨ad, c2, rfl, hc2, hlies⟩ := own_form2 hown
    match k, hk with
    | 0, hk =>
      rw [show ((0 : Nat) : Int) - 1 = -1 by omega]
      rw [Nat.sub_zero] at hc2 ⊢
      rw [List.drop_zero] at hlies
      have HCU : Hid (Calls Try.prog 36 #[.slice ad l.length c2] wr fun e w' => (∃ v, e = .returned v ∧ IReads wr v (lo l)) ∧ wr = w') := Lib.hid (by
        have h := cut_any ad c2 l.reverse wr (fun x hx => HB.out x (by simpa using hx)) (by simpa using hl) (by simpa using hc2) hlies
        rw [cut_reverse, List.length_reverse] at h
        exact h)
      have HBW := Lib.hid hbw
      clear hown hbw hlies
      go_wp2_with (go_at_call 36; (with_reducible refine HCU.out.mono ?_); rintro e w2 ⟨⟨v, rfl, hv⟩, rfl⟩; have HV := Lib.hid hv; clear hv)
      go_ret
      exact ⟨⟨_, rfl, HV.out⟩, HBW.out⟩
    | m + 1, hk =>
      rw [show ((m + 1 : Nat) : Int) - 1 = (m : Int) by omega]
      obtain ⟨b2, off, rfl, hbb, hc⟩ := HR.out (by rw [u8s_length]; omega)
      have hcell : wr.cell? ⟨b2, off + m, none⟩ = some (.int .u8 (sq l m : Int)) := (hbw.cell (p := ⟨b2, off + m, none⟩) hbb).trans (u8s_sq hc m (by omega))
      have hst := drop_rev l m (by omega)
      have hx8 := HB.out.sq m
      obtain ⟨x, hx⟩ : ∃ x, sq l m = x := ⟨_, rfl⟩
      rw [hx] at hcell hst hx8
      have hxi : (x : Int) < 256 := by omega
      have hm0 : 0 ≤ (m : Int) := by omega
      have hml : (m : Int) < l.length := by omega
      have HOWN := Lib.hid hown
      have HBW := Lib.hid hbw
      obtain ⟨n, hn⟩ : ∃ n, l.length - (m + 1) = n := ⟨_, rfl⟩
      rw [hn] at HOWN ⊢
      have HN : Hid (l.length - m = n + 1) := Lib.hid (by omega)
      have HOW2 := Lib.hid (HOWN.out.alloc (.cells #[.int .i64 (x : Int)] 3))
      have HL2 : Hid (Lies (wr.alloc (.cells #[.int .i64 (x : Int)] 3)) (wr.alloc (.cells #[.int .i64 (x : Int)] 3)).heap.size (some ⟨wr.heap.size, 0, none⟩) [.int .i64 (x : Int)]) := Lib.hid (Lies.new [_] _ _)
      have HBW2 := Lib.hid (HBW.out.alloc HBW.out.size (.cells #[.int .i64 (x : Int)] 3))
      have HO1 : Hid ((Value.int .i64 (x : Int)).oneCell' = true) := Lib.hid rfl
      have HPK : Big (n + 1 ≤ 1099511627776) := ⟨by omega⟩
      have HOL : Hid (∀ j, (Value.slice ad n c2).ownBlock = some j → w.heap.size ≤ j) := Lib.hid fun j hj => (HOWN.out.lt j hj).1
      have HZ2 := Lib.hid HBW2.out.size
      have HST := Lib.hid hst
      clear hown hbw hlies hc hbb hst hx hx8 hc2 hn
      go_wp2_with (first
        | ((with_reducible refine wpAppend1K HOW2.out Try.underlying27 one_int HL2.out HO1.out HPK HZ2.out ?_ ?_); rfl; intro v1 w1 g1 g2 g3; have HV1 := Lib.hid g1; have HG1 := Lib.hid g2; clear g1 g2 g3))
      go_roundw
      case rel => exact ⟨m, by omega, by go_num, by rw [HST.out, HN.out, nats_snoc]; exact HV1.out, HBW2.out.grown HG1.out HBW2.out.size HOL.out⟩
      case measure => first | (simp [intOf]; done) | (simp [intOf]; omega)

theorem at_any (a : Option Addr) (cap : Nat) (l : List Nat) (i : Nat) (w : World) (hr : Lies w w.heap.size a (nats l)) :
    Calls Try.prog 35 #[.slice a l.length cap, .int .i64 (i : Int)] w fun e w' => e = .returned (.int .i64 (sq l i : Int)) ∧ w = w' := by
  have hi0 : 0 ≤ (i : Int) := by omega
  by_cases h : i < l.length
  · obtain ⟨b2, off, rfl, hbb, hc⟩ := hr (by rw [nats_length]; omega)
    have hcell := nats_sq (B := 0) hc i h
    have h1 : (i : Int) < l.length := by omega
    generalize sq l i = x at *
    clear hc hr
    go_enter Try.func35, Try.ntmps35
    go_wp2
    go_ret
    exact ⟨rfl, rfl⟩
  · have h1 : (l.length : Int) ≤ i := by omega
    have HE : Hid (sq l i = 0) := Lib.hid (sq_out l i (by omega))
    clear hr
    go_enter Try.func35, Try.ntmps35
    go_wp2
    go_ret
    exact ⟨by rw [HE.out]; rfl, rfl⟩

set_option maxHeartbeats 1000000 in
theorem bytes_any (a : Option Addr) (cap : Nat) (l : List Nat) (w : World) (hb : By l) (hl : l.length ≤ 1000000) (hcap : l.length ≤ cap) (hr : Lies w w.heap.size a (nats l)) :
    Calls Try.prog 38 #[.slice a l.length cap] w fun e w' => (∃ v, e = .returned v ∧ Reads w' v (cut l).reverse) ∧ Below w.heap.size w w' := by
  have HCU := Lib.hid (cut_any a cap l w hb hl hcap hr)
  have hb8 := cut_by hb
  have hle := cut_le l
  obtain ⟨L, hL⟩ : ∃ L, cut l = L := ⟨_, rfl⟩
  rw [hL] at HCU hb8 hle ⊢
  have hLl : L.length ≤ 1000000 := by omega
  have HB := Lib.hid hb8
  have H0 : Hid ((w.alloc (.cells #[] 5)).ownsRow w.heap.size 5 1 (.slice (some ⟨w.heap.size, 0, none⟩) 0 0) (L.length - L.length) (u8s (L.drop L.length).reverse)) := Lib.hid (by rw [Nat.sub_self, List.drop_length]; exact own_zero w _)
  clear hb8 hle hL hr hb
  go_enter Try.func38, Try.ntmps38
  go_wp2_with (go_at_call 36; (with_reducible refine HCU.out.mono ?_); rintro e w2 ⟨⟨v, rfl, a2, c2, rfl, _, hv⟩, rfl⟩; have HR := Lib.hid hv; clear hv)
  go_loopw [3, 4] (fun v i wr => ∃ k : Nat, k ≤ L.length ∧ i = .int .i64 ((k : Int) - 1) ∧ wr.ownsRow w.heap.size 5 1 v (L.length - k) (u8s (L.drop k).reverse) ∧ Below w.heap.size w wr) (fun _ i _ => (intOf i + 1).toNat)
  case atStart => exact ⟨L.length, Nat.le_refl _, rfl, H0.out, alloc_below _ _⟩
  case round =>
    clear H0
    obtain ⟨k, hk, rfl, hown, hbw⟩ := hrel
    obtain ⟨ad, c3, rfl, hc3, hlies⟩ := own_form2 hown
    match k, hk with
    | 0, hk =>
      rw [show ((0 : Nat) : Int) - 1 = -1 by omega]
      rw [Nat.sub_zero] at hc3 ⊢
      rw [List.drop_zero] at hlies
      have HV : Hid (Reads wr (.slice ad L.length c3) L.reverse) := Lib.hid ⟨ad, c3, by rw [List.length_reverse], by rw [List.length_reverse]; exact hc3, hlies⟩
      have HBW := Lib.hid hbw
      clear hown hbw hlies
      go_wp2
      go_ret
      exact ⟨⟨_, rfl, HV.out⟩, HBW.out⟩
    | m + 1, hk =>
      rw [show ((m + 1 : Nat) : Int) - 1 = (m : Int) by omega]
      obtain ⟨b2, off, rfl, hbb, hc⟩ := HR.out (by rw [nats_length]; omega)
      have hcell : wr.cell? ⟨b2, off + m, none⟩ = some (.int .i64 (sq L m : Int)) := (hbw.cell (p := ⟨b2, off + m, none⟩) hbb).trans (nats_sq (B := 0) hc m (by omega))
      have hst := drop_rev L m (by omega)
      have hx8 := HB.out.sq m
      obtain ⟨x, hx⟩ : ∃ x, sq L m = x := ⟨_, rfl⟩
      rw [hx] at hcell hst hx8
      have hxi : (x : Int) < 256 := by omega
      have hx0 : 0 ≤ (x : Int) := by omega
      have hxw : IntKind.u8.wrap (x : Int) = (x : Int) := by rw [IntKind.wrap_u8]; omega
      have hxm : (x : Int) % 256 = (x : Int) := by omega
      have hm0 : 0 ≤ (m : Int) := by omega
      have hml : (m : Int) < L.length := by omega
      have HOWN := Lib.hid hown
      have HBW := Lib.hid hbw
      obtain ⟨n, hn⟩ : ∃ n, L.length - (m + 1) = n := ⟨_, rfl⟩
      rw [hn] at HOWN ⊢
      have HN : Hid (L.length - m = n + 1) := Lib.hid (by omega)
      have HOW2 := Lib.hid (HOWN.out.alloc (.cells #[.int .u8 (x : Int)] 5))
      have HL2 : Hid (Lies (wr.alloc (.cells #[.int .u8 (x : Int)] 5)) (wr.alloc (.cells #[.int .u8 (x : Int)] 5)).heap.size (some ⟨wr.heap.size, 0, none⟩) [.int .u8 (x : Int)]) := Lib.hid (Lies.new [_] _ _)
      have HBW2 := Lib.hid (HBW.out.alloc HBW.out.size (.cells #[.int .u8 (x : Int)] 5))
      have HO1 : Hid ((Value.int .u8 (x : Int)).oneCell' = true) := Lib.hid rfl
      have HPK : Big (n + 1 ≤ 1099511627776) := ⟨by omega⟩
      have HOL : Hid (∀ j, (Value.slice ad n c3).ownBlock = some j → w.heap.size ≤ j) := Lib.hid fun j hj => (HOWN.out.lt j hj).1
      have HZ2 := Lib.hid HBW2.out.size
      have HST := Lib.hid hst
      clear hown hbw hlies hc hbb hst hx hx8 hc3 hn
      go_wp2_with (first
        | ((with_reducible refine wpAppend1K HOW2.out Try.underlying28 one_byte HL2.out HO1.out HPK HZ2.out ?_ ?_); rfl; intro v1 w1 g1 g2 g3; have HV1 := Lib.hid g1; have HG1 := Lib.hid g2; clear g1 g2 g3))
      go_roundw
      case rel => exact ⟨m, by omega, by go_num, by rw [HST.out, HN.out, u8s_snoc]; exact HV1.out, HBW2.out.grown HG1.out HBW2.out.size HOL.out⟩
      case measure => first | (simp [intOf]; done) | (simp [intOf]; omega)

set_option maxRecDepth 100000 in
set_option maxHeartbeats 1000000 in
theorem same_true (a c : Option Addr) (ca cc : Nat) (A B : List Nat) (w : World) (hA : By A) (hB : By B) (hl : B.length ≤ 1000000) (hcap : B.length ≤ cc) (h : sameB A B = true) (hr : Lies w w.heap.size a (u8s A)) (hs : Lies w w.heap.size c (nats B)) :
    Calls Try.prog 17 #[.slice a A.length ca, .slice c B.length cc] w fun e w' => e = .returned (.bool true) ∧ Below w.heap.size w w' := by
  have he : A = (cut B).reverse := of_decide_eq_true h
  have HBY := Lib.hid (bytes_any c cc B w hB hl hcap hs)
  rw [← he] at HBY
  have hle := cut_le B
  have hAl : A.length ≤ 1000000 := by rw [he, List.length_reverse]; omega
  have HR := Lib.hid hr
  have HA := Lib.hid hA
  clear hr hs he hle h hA
  go_enter Try.func17, Try.ntmps17
  go_wp2_with (go_at_call 38; (with_reducible refine HBY.out.mono ?_); rintro e w2 ⟨⟨v, rfl, a2, c2, rfl, _, hv⟩, b2⟩; have HV := Lib.hid hv; have HB2 := Lib.hid b2; clear hv b2)
  go_loopw [6] (fun i wr => ∃ k : Nat, k ≤ A.length ∧ i = .int .i64 k ∧ Below w2.heap.size w2 wr) (fun i _ => A.length - (intOf i).toNat)
  case atStart => exact ⟨0, Nat.zero_le _, rfl, Below.refl _ _⟩
  case round =>
    obtain ⟨k, hk, rfl, hbw⟩ := hrel
    by_cases hlt : k < A.length
    · obtain ⟨b2, off, rfl, hbb, hc⟩ := HR.out (by rw [u8s_length]; omega)
      obtain ⟨b3, off3, rfl, hbb3, hc3⟩ := HV.out (by rw [u8s_length]; omega)
      have hcell : wr.cell? ⟨b2, off + k, none⟩ = some (.int .u8 (sq A k : Int)) := ((HB2.out.next hbw).cell (p := ⟨b2, off + k, none⟩) hbb).trans (u8s_sq hc k hlt)
      have hcell3 : wr.cell? ⟨b3, off3 + k, none⟩ = some (.int .u8 (sq A k : Int)) := (hbw.cell (p := ⟨b3, off3 + k, none⟩) hbb3).trans (u8s_sq hc3 k hlt)
      have hk1 : (k : Int) < A.length := by omega
      have hk0 : 0 ≤ (k : Int) := by omega
      generalize sq A k = x at *
      have HBW := Lib.hid hbw
      clear hc hc3 hbb hbb3 hbw
      go_wp2
      go_quiet (fail)
      go_wp2
      go_roundw
      case rel => exact ⟨k + 1, by omega, by go_num, HBW.out.drewN _⟩
      case measure => first | (simp [intOf]; done) | (simp [intOf]; omega)
    · have HBW := Lib.hid hbw
      clear hbw
      go_wp2
      go_ret
      exact ⟨rfl, HB2.out.next HBW.out⟩

end Go.Proofs.Ytligaipkdabmoaa
