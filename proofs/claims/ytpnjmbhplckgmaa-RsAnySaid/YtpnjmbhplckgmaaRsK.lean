/- RsValues' walk. -/
import Derived.Test.YtpnjmbhplckgmaaRsJ
namespace Go.Proofs.Ytpnjmbhplckgmaa
open Go.RowKit GfMath PolyMath RsMath
set_option linter.unusedVariables false

theorem eql_bool_same (z : Bool) : (z == z) = true := by cases z <;> rfl

set_option maxRecDepth 100000 in
set_option maxHeartbeats 1000000 in
theorem rsValues_bad (k p : Nat) (a : Option Addr) (cap : Nat) (l : List Nat) (w : World) (hk1 : 1 ≤ k) (hp1 : 1 ≤ p) (hn : k + p ≤ 60) (hp64 : p ≤ 64) (hl : l.length ≤ 300) (hne : l.length ≠ k + p) :
    Calls Try.prog 4 #[.int .i64 ((k + p : Nat) : Int), .int .i64 (k : Int), .slice a l.length cap] w fun e w' => e = .returned (.bool true) ∧ Below w.heap.size w w' := by
  have HA := Lib.hid (rsAwake_any w)
  have HT : Hid (∀ u, Calls Try.prog 11 #[.int .i64 ((k + p : Nat) : Int), .int .i64 (k : Int)] u fun e w' => e = .returned (.bool true) ∧ u = w') := Lib.hid fun u => there_yes _ _ u (by omega)
  have HC : Hid (∀ (u : World) (b : Nat), Fld u b → Calls Try.prog 9 #[.pointer (some ⟨b, 0, none⟩), .int .i64 ((k + p : Nat) : Int), .int .i64 (k : Int)] u fun e w' => (∃ c, e = .returned (.tuple #[.pointer (some ⟨c, 0, none⟩), .int .i64 0]) ∧ Cod w' c b k p) ∧ Below u.heap.size u w') := Lib.hid fun u b h => rsNew_any b k p u h hk1 hp1 (by omega) hp64
  have HS : Hid (∀ (u : World) (b c : Nat), Cod u c b k p → Calls Try.prog 17 #[.pointer (some ⟨c, 0, none⟩), .slice a l.length cap] u fun e w' => e = .returned (.tuple #[.slice none 0 0, .int .i64 1]) ∧ Below u.heap.size u w') := Lib.hid fun u b c h => by
    obtain ⟨a', c', h1, _⟩ := h.cor
    exact syn_bad c b k p _ a l.length cap u h1 hne (by omega)
  have HR : Hid (∀ (u : World) (b c : Nat), Cod u c b k p → Calls Try.prog 15 #[.pointer (some ⟨c, 0, none⟩), .slice a l.length cap] u fun e w' => e = .returned (.bool false) ∧ Below u.heap.size u w') := Lib.hid fun u b c h => by
    obtain ⟨a', c', h1, _⟩ := h.cor
    exact right_bad c b k p _ a l.length cap u h1 hne (by omega)
  obtain ⟨n, hnn⟩ : ∃ n, k + p = n := ⟨_, rfl⟩
  rw [hnn] at HT HC hne hn ⊢
  obtain ⟨m, hm⟩ : ∃ m, l.length = m := ⟨_, rfl⟩
  rw [hm] at HS HR hne hl ⊢
  have h1 : ¬ (n : Int) > 60 := by omega
  have h2 : ¬ (m : Int) > 300 := by omega
  have h3 : ¬ (m : Int) = (n : Int) := by omega
  have h4 : ((m : Int) != (n : Int)) = true := by simp; omega
  clear hm hnn
  go_enter Try.func4, Try.ntmps4
  go_wp2_with (first
    | (go_at_call 8; (with_reducible refine HA.out.mono ?_); rintro e u1 ⟨rfl, b1⟩; have B1 := Lib.hid b1; clear b1)
    | (go_at_call 11; (with_reducible refine (HT.out _).mono ?_); rintro e u2 ⟨rfl, rfl⟩)
    | (go_at_call 10; (with_reducible refine (gfNew_any u1).mono ?_); rintro e u2 ⟨rfl, f2, b2⟩; have F2 := Lib.hid f2; have B2 := Lib.hid (B1.out.next b2); clear f2 b2)
    | (go_at_call 9; (with_reducible refine (HC.out u2 _ F2.out).mono ?_); rintro e u3 ⟨⟨c, rfl, d3⟩, b3⟩; have D3 := Lib.hid d3; have B3 := Lib.hid (B2.out.next b3); clear d3 b3)
    | (go_at_call 17; (with_reducible refine (HS.out u3 _ c D3.out).mono ?_); rintro e u4 ⟨rfl, b4⟩; have D4 := Lib.hid (D3.out.step b4); have B4 := Lib.hid (B3.out.next b4); clear b4)
    | (go_at_call 15; (with_reducible refine (HR.out u4 _ c D4.out).mono ?_); rintro e u5 ⟨rfl, b5⟩; have B5 := Lib.hid (B4.out.next b5); clear b5))
  go_ret
  exact ⟨rfl, B5.out⟩

set_option maxRecDepth 100000 in
set_option maxHeartbeats 2000000 in
theorem rsValues_good (k p : Nat) (a : Option Addr) (cap : Nat) (l : List Nat) (w : World) (hk1 : 1 ≤ k) (hp1 : 1 ≤ p) (hn : k + p ≤ 60) (hp64 : p ≤ 64) (hl : l.length = k + p) (hby : By l) (hcap : l.length ≤ cap) (hr : Lies w w.heap.size a (u8s l)) :
    Calls Try.prog 4 #[.int .i64 ((k + p : Nat) : Int), .int .i64 (k : Int), .slice a (k + p) cap] w fun e w' => e = .returned (.bool true) ∧ Below w.heap.size w w' := by
  have HA := Lib.hid (rsAwake_any w)
  have HT : Hid (∀ u, Calls Try.prog 11 #[.int .i64 ((k + p : Nat) : Int), .int .i64 (k : Int)] u fun e w' => e = .returned (.bool true) ∧ u = w') := Lib.hid fun u => there_yes _ _ u (by omega)
  have HC : Hid (∀ (u : World) (b : Nat), Fld u b → Calls Try.prog 9 #[.pointer (some ⟨b, 0, none⟩), .int .i64 ((k + p : Nat) : Int), .int .i64 (k : Int)] u fun e w' => (∃ c, e = .returned (.tuple #[.pointer (some ⟨c, 0, none⟩), .int .i64 0]) ∧ Cod w' c b k p) ∧ Below u.heap.size u w') := Lib.hid fun u b h => rsNew_any b k p u h hk1 hp1 (by omega) hp64
  have HS : Hid (∀ (u : World) (b c : Nat), Below w.heap.size w u → Cod u c b k p → Calls Try.prog 17 #[.pointer (some ⟨c, 0, none⟩), .slice a (k + p) cap] u fun e w' => (∃ g, e = .returned (.tuple #[.slice (some ⟨g, 0, none⟩) p p, .int .i64 0]) ∧ Lies w' w'.heap.size (some ⟨g, 0, none⟩) (u8s (vals l p))) ∧ Below u.heap.size u w') := Lib.hid fun u b c hu h => by
    obtain ⟨a', c', h1, _⟩ := h.cor
    exact (syn_any c b k p _ a cap l u h1 (by omega) hl hby hcap (hr.step hu)).mono fun e w' ⟨⟨g, h2, _, h3⟩, h4⟩ => ⟨⟨g, h2, row_lies h3⟩, h4⟩
  have HV : Hid (∀ (u : World), Below w.heap.size w u → Calls Try.prog 18 #[.slice a (k + p) cap, .int .i64 (p : Int)] u fun e w' => (∃ a2 c2, e = .returned (.slice a2 p c2) ∧ Lies w' w'.heap.size a2 (nats (vals l p))) ∧ Below u.heap.size u w') := Lib.hid fun u hu => by
    have := rvalues_any a cap l p u hby (by omega) (by omega) (hr.step hu)
    rw [hl] at this
    exact this.mono fun e w' ⟨⟨v, h1, a2, c2, h2, _, h3⟩, h4⟩ => ⟨⟨a2, c2, by rw [h1, h2, vals_length], h3⟩, h4⟩
  have HR : Hid (∀ (u : World) (b c : Nat), Below w.heap.size w u → Cod u c b k p → Calls Try.prog 15 #[.pointer (some ⟨c, 0, none⟩), .slice a (k + p) cap] u fun e w' => e = .returned (.bool (allz (vals l p))) ∧ Below u.heap.size u w') := Lib.hid fun u b c hu h => by
    obtain ⟨a', c', h1, _⟩ := h.cor
    exact right_any c b k p _ a cap l u h1 (by omega) hl hby hcap (hr.step hu)
  have HQ : Hid (∀ (u : World), Below w.heap.size w u → Calls Try.prog 19 #[.slice a (k + p) cap, .int .i64 ((k + p : Nat) : Int), .int .i64 (k : Int)] u fun e w' => e = .returned (.bool (allz (vals l p))) ∧ Below u.heap.size u w') := Lib.hid fun u hu => rright_any a cap l (k + p) k p u hby hl (by omega) rfl (hr.step hu)
  obtain ⟨V, hV⟩ : ∃ V, vals l p = V := ⟨_, rfl⟩
  have hVl : V.length = p := by rw [← hV, vals_length]
  have HV8 : Hid (By V) := Lib.hid (by rw [← hV]; exact vals_by hby p)
  rw [hV] at HS HV HR HQ
  obtain ⟨n, hnn⟩ : ∃ n, k + p = n := ⟨_, rfl⟩
  rw [hnn] at HT HC HS HV HR HQ hn ⊢
  have h1 : ¬ (n : Int) > 60 := by omega
  have h2 : ¬ (n : Int) > 300 := by omega
  have hsub : (n : Int) - (k : Int) = (p : Int) := by omega
  have hpw : IntKind.i64.wrap (p : Int) = (p : Int) := by rw [IntKind.wrap_i64]; omega
  have HVL := Lib.hid hVl
  clear hnn hV hr hby hl hcap hVl
  go_enter Try.func4, Try.ntmps4
  go_wp2_with (first
    | (go_at_call 8; (with_reducible refine HA.out.mono ?_); rintro e u1 ⟨rfl, b1⟩; have B1 := Lib.hid b1; clear b1)
    | (go_at_call 11; (with_reducible refine (HT.out _).mono ?_); rintro e u2 ⟨rfl, rfl⟩)
    | (go_at_call 10; (with_reducible refine (gfNew_any u1).mono ?_); rintro e u2 ⟨rfl, f2, b2⟩; have F2 := Lib.hid f2; have B2 := Lib.hid (B1.out.next b2); clear f2 b2)
    | (go_at_call 9; (with_reducible refine (HC.out u2 _ F2.out).mono ?_); rintro e u3 ⟨⟨c, rfl, d3⟩, b3⟩; have D3 := Lib.hid d3; have B3 := Lib.hid (B2.out.next b3); clear d3 b3)
    | (go_at_call 17; (with_reducible refine (HS.out u3 _ c B3.out D3.out).mono ?_); rintro e u4 ⟨⟨g, rfl, l4⟩, b4⟩; have L4 := Lib.hid l4; have D4 := Lib.hid (D3.out.step b4); have B4 := Lib.hid (B3.out.next b4); clear b4 l4)
    | (go_at_call 18; (with_reducible refine (HV.out u4 B4.out).mono ?_); rintro e u5 ⟨⟨a2, c2, rfl, l5⟩, b5⟩; have M5 := Lib.hid l5; have L5 := Lib.hid (L4.out.step b5); have D5 := Lib.hid (D4.out.step b5); have B5 := Lib.hid (B4.out.next b5); clear b5 l5))
  go_loopw [12, 77] (fun z i wr => ∃ (j : Nat) (zb : Bool), j ≤ p ∧ i = .int .i64 j ∧ z = .bool zb ∧ (zb = true ↔ ∀ q, q < j → sq V q = 0) ∧ Below u5.heap.size u5 wr) (fun _ i _ => p - (intOf i).toNat)
  case atStart => exact ⟨0, true, Nat.zero_le _, rfl, rfl, ⟨fun _ q hq => absurd hq (by omega), fun _ => rfl⟩, Below.refl _ _⟩
  case round =>
    obtain ⟨j, zb, hj, rfl, rfl, hz, hbw⟩ := hrel
    have HZ := Lib.hid hz
    have HBW := Lib.hid hbw
    clear hz
    by_cases hlt : j < p
    · have hj1 : (j : Int) < p := by omega
      have hjV : j < V.length := by rw [HVL.out]; exact hlt
      obtain ⟨g1, o1, e1, hb1, hc1⟩ := (L5.out.step hbw) (by rw [u8s_length]; omega)
      cases e1
      obtain ⟨g2, o2, rfl, hb2, hc2⟩ := (M5.out.step hbw) (by rw [nats_length]; omega)
      have hcu := u8s_sq hc1 j hjV
      have hcn := nats_sq (B := 0) hc2 j hjV
      rw [Nat.zero_add] at hcu
      have hx8 := HV8.out.sq j
      obtain ⟨x, hx⟩ : ∃ x, sq V j = x := ⟨_, rfl⟩
      rw [hx] at hcu hcn hx8
      have hxb : (x : Int) < 256 := by omega
      have hx0 : 0 ≤ (x : Int) := by omega
      have HX := Lib.hid hx
      clear hc1 hc2 hx hjV hb1 hb2 hbw
      cases zb with
      | false =>
        have HZ2 : Hid (¬ ∀ q, q < j + 1 → sq V q = 0) := Lib.hid fun h => Bool.false_ne_true (HZ.out.2 fun q hq => h q (by omega))
        go_wp2
        go_quiet (fail)
        go_wp2
        go_roundw
        case rel => exact ⟨j + 1, false, by omega, by go_num, rfl, ⟨fun h => absurd h Bool.false_ne_true, fun h => absurd h HZ2.out⟩, HBW.out.drewN _⟩
        case measure => first | (simp [intOf]; done) | (simp [intOf]; omega)
      | true =>
        by_cases h0 : x = 0
        · subst h0
          have HZ2 : Hid (∀ q, q < j + 1 → sq V q = 0) := Lib.hid fun q hq => by
            by_cases e : q = j
            · rw [e]; exact HX.out
            · exact HZ.out.1 rfl q (by omega)
          have hcu2 : wr.cell? ⟨g, j, none⟩ = some (.int .u8 0) := hcu
          have hcn2 : wr.cell? ⟨g2, o2 + j, none⟩ = some (.int .i64 0) := hcn
          clear hcu hcn
          go_wp2
          go_quiet (fail)
          go_wp2
          go_roundw
          case rel => exact ⟨j + 1, true, by omega, by go_num, rfl, ⟨fun _ => HZ2.out, fun _ => rfl⟩, HBW.out.drewN _⟩
          case measure => first | (simp [intOf]; done) | (simp [intOf]; omega)
        · have hxn : ¬ (x : Int) = 0 := by omega
          have hxf : ((x : Int) == 0) = false := beq_false_of_ne hxn
          have HZ2 : Hid (¬ ∀ q, q < j + 1 → sq V q = 0) := Lib.hid fun h => h0 (by rw [← HX.out]; exact h j (by omega))
          go_wp2
          go_quiet (fail)
          go_wp2
          go_roundw
          case rel => exact ⟨j + 1, false, by omega, by go_num, rfl, ⟨fun h => absurd h Bool.false_ne_true, fun h => absurd h HZ2.out⟩, HBW.out.drewN _⟩
          case measure => first | (simp [intOf]; done) | (simp [intOf]; omega)
    · have hzz : zb = allz V := by
        rw [Bool.eq_iff_iff, allz_iff, HVL.out, ← show j = p by omega]
        exact HZ.out
      have HW : Hid (Below w.heap.size w wr) := Lib.hid (B5.out.next hbw)
      have DW := Lib.hid (D5.out.step hbw)
      obtain ⟨Z, hZ⟩ : ∃ Z, allz V = Z := ⟨_, rfl⟩
      rw [hZ] at hzz HR HQ
      subst hzz
      have hzs : (zb == zb) = true := eql_bool_same zb
      clear hbw hZ
      go_wp2_with (first
        | (go_at_call 15; (with_reducible refine (HR.out wr _ c HW.out DW.out).mono ?_); rintro e u6 ⟨rfl, b6⟩; have B6 := Lib.hid (HW.out.next b6); clear b6)
        | (go_at_call 19; (with_reducible refine (HQ.out u6 B6.out).mono ?_); rintro e u7 ⟨rfl, b7⟩; have B7 := Lib.hid (B6.out.next b7); clear b7))
      go_ret
      exact ⟨by simp, B7.out⟩

theorem rsValues_walk (n k : Int) (a : Option Addr) (cap : Nat) (l : List Nat) (w : World) (hby : By l) (hcap : l.length ≤ cap) (hc2 : cap ≤ 140737488351232) (hr : Lies w w.heap.size a (u8s l)) :
    Calls Try.prog 4 #[.int .i64 n, .int .i64 k, .slice a l.length cap] w fun e w' => e = .returned (.bool true) ∧ Below w.heap.size w w' := by
  have HA := Lib.hid (rsAwake_any w)
  by_cases h60 : n > 60
  · clear hr
    go_enter Try.func4, Try.ntmps4
    go_wp2_with (go_at_call 8; (with_reducible refine HA.out.mono ?_); rintro e u1 ⟨rfl, b1⟩; have B1 := Lib.hid b1; clear b1)
    go_ret
    exact ⟨rfl, B1.out⟩
  · by_cases ht : 1 ≤ k ∧ k < n ∧ n ≤ 255 ∧ n - k ≤ 64
    · by_cases h3 : l.length > 300
      · have HT : Hid (∀ u, Calls Try.prog 11 #[.int .i64 n, .int .i64 k] u fun e w' => e = .returned (.bool true) ∧ u = w') := Lib.hid fun u => there_yes n k u ht
        have h4 : (l.length : Int) > 300 := by omega
        clear hr ht
        go_enter Try.func4, Try.ntmps4
        go_wp2_with (first
          | (go_at_call 8; (with_reducible refine HA.out.mono ?_); rintro e u1 ⟨rfl, b1⟩; have B1 := Lib.hid b1; clear b1)
          | (go_at_call 11; (with_reducible refine (HT.out _).mono ?_); rintro e u2 ⟨rfl, rfl⟩))
        go_ret
        exact ⟨rfl, B1.out⟩
      · obtain ⟨k', rfl⟩ : ∃ k' : Nat, k = (k' : Int) := ⟨k.toNat, by omega⟩
        obtain ⟨p, rfl⟩ : ∃ p : Nat, n = ((k' + p : Nat) : Int) := ⟨(n - k').toNat, by omega⟩
        by_cases hl : l.length = k' + p
        · have := rsValues_good k' p a cap l w (by omega) (by omega) (by omega) (by omega) hl hby hcap hr
          rw [← hl] at this ⊢
          exact this
        · exact rsValues_bad k' p a cap l w (by omega) (by omega) (by omega) (by omega) (by omega) hl
    · have HT : Hid (∀ u, Calls Try.prog 11 #[.int .i64 n, .int .i64 k] u fun e w' => e = .returned (.bool false) ∧ u = w') := Lib.hid fun u => there_no n k u ht
      clear hr ht
      go_enter Try.func4, Try.ntmps4
      go_wp2_with (first
        | (go_at_call 8; (with_reducible refine HA.out.mono ?_); rintro e u1 ⟨rfl, b1⟩; have B1 := Lib.hid b1; clear b1)
        | (go_at_call 11; (with_reducible refine (HT.out _).mono ?_); rintro e u2 ⟨rfl, rfl⟩))
      go_ret
      exact ⟨rfl, B1.out⟩

end Go.Proofs.Ytpnjmbhplckgmaa
