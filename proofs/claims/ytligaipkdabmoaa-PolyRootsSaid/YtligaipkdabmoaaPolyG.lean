/- The walk of PolyRoots. -/
import Derived.Test.YtligaipkdabmoaaPolyF
namespace Go.Proofs.Ytligaipkdabmoaa
open Go.RowKit GfMath PolyMath
set_option linter.unusedVariables false

set_option maxHeartbeats 1000000 in
theorem polyRoots_walk (a : Option Addr) (cap : Nat) (l : List Nat) (x : Nat) (w : World) (hb : By l) (hx : x < 256) (hcap : l.length ≤ cap) (hc2 : cap ≤ 140737488351232) (hr : Lies w w.heap.size a (u8s l)) :
    Calls Try.prog 6 #[.slice a l.length cap, .int .u8 (x : Int)] w fun e w' => e = .returned (.bool true) ∧ Below w.heap.size w w' := by
  have HR := Lib.hid hr
  clear hr
  by_cases h30 : 30 < l.length
  · have h31 : (30 : Int) < l.length := by omega
    go_enter Try.func6, Try.ntmps6
    go_wp2_with (first
      | (go_at_call 11; (with_reducible refine (awake_any w).mono ?_); rintro e u1 ⟨rfl, b1⟩; have B1 := Lib.hid b1; clear b1))
    go_ret
    exact ⟨rfl, B1.out⟩
  · have h31 : (l.length : Int) ≤ 30 := by omega
    obtain ⟨hP8, hPl, hPc⟩ := rt_all l hb
    obtain ⟨hz, hz2, hz1⟩ := rt_roots l hb hx
    have hct := ct_le l x
    have he8 := ev_lt hP8 hx
    have hd8 := dev_lt hP8 hx
    obtain ⟨n, hn⟩ : ∃ n, l.length = n := ⟨_, rfl⟩
    have HROOTS : Hid (∀ (u : World) (b : Nat), Fld u b → Lies u u.heap.size a (u8s l) → Calls Try.prog 28 #[.pointer (some ⟨b, 0, none⟩), .slice a l.length cap] u fun e w' => (∃ v, e = .returned v ∧ Reads w' v (rt l)) ∧ Below u.heap.size u w') := Lib.hid fun u b hf hl => roots_any b a cap l u hf hb (by omega) hl
    obtain ⟨P, hP⟩ : ∃ P, rt l = P := ⟨_, rfl⟩
    rw [hP] at HROOTS hP8 hPl hPc hz hz2 hz1 he8 hd8
    obtain ⟨v0, hv0⟩ : ∃ v0, ev P x = v0 := ⟨_, rfl⟩
    obtain ⟨d0, hd0⟩ : ∃ d0, dev P x = d0 := ⟨_, rfl⟩
    rw [hv0] at hz he8
    rw [hd0] at hz2 hz1 hd8
    have HDEV : Hid (ev (beh (dl P)) x = d0) := Lib.hid ((ev_beh hx (dl_by hP8)).trans hd0)
    have HP8 := Lib.hid hP8
    have HPL := Lib.hid hPl
    have HPC := Lib.hid hPc
    have HV0 := Lib.hid hv0
    have HZ := Lib.hid hz
    have HZ2 := Lib.hid hz2
    have HZ1 := Lib.hid hz1
    have HCT := Lib.hid hct
    have HX := Lib.hid hx
    have HN := Lib.hid hn
    have HB := Lib.hid hb
    clear hP8 hPl hPc hz hz2 hz1 he8 hd8 hv0 hd0 hct hn hP hx hb
    go_enter Try.func6, Try.ntmps6
    go_wp2_with (first
      | (go_at_call 11; (with_reducible refine (awake_any w).mono ?_); rintro e u1 ⟨rfl, b1⟩; have B1 := Lib.hid b1; clear b1)
      | (go_at_call 13; (with_reducible refine (gfNew_any u1).mono ?_); rintro e u2 ⟨rfl, f2, b2⟩; have F2 := Lib.hid f2; have B2 := Lib.hid (B1.out.next b2); clear f2 b2; generalize u1.heap.size = b at *)
      | (go_at_call 28; (with_reducible refine (HROOTS.out u2 b F2.out (HR.out.step B2.out)).mono ?_); rintro e u3 ⟨⟨v3, rfl, a3, c3, rfl, hc3, l3⟩, b3⟩; have HRP := Lib.hid l3; have HC3 := Lib.hid hc3; have B3 := Lib.hid (B2.out.next b3); have HFR := Lib.hid (F2.out.step b3); clear l3 b3 hc3))
    have HDE : Hid (∀ u : World, Lies u u.heap.size a3 (u8s P) → Calls Try.prog 26 #[.pointer (some ⟨b, 0, none⟩), .slice a3 P.length c3] u fun e w' => (∃ v, e = .returned v ∧ Reads w' v (beh (dl P))) ∧ Below u.heap.size u w') := Lib.hid fun u hl => derive_any b a3 c3 P u HP8.out (by rw [HPL.out]; omega) hl
    have hDl : (beh (dl P)).length ≤ 31 := by have h1 := beh_le (dl P); have h2 := dl_le P; have h3 := HPL.out; omega
    have hD8 := (dl_by HP8.out).beh
    have HE40 : ∀ (u : World) (a4 : Option Addr) (c4 : Nat), Fld u b → Lies u u.heap.size a4 (u8s (beh (dl P))) → Calls Try.prog 24 #[.pointer (some ⟨b, 0, none⟩), .slice a4 (beh (dl P)).length c4, .int .u8 (x : Int)] u fun e w' => e = .returned (.int .u8 (ev (beh (dl P)) x : Int)) ∧ Below u.heap.size u w' := fun u a4 c4 hf hl => eval_any b a4 c4 (beh (dl P)) x u hf hD8 HX.out (by omega) hl
    rw [HDEV.out] at HE40
    obtain ⟨D, hD⟩ : ∃ D, beh (dl P) = D := ⟨_, rfl⟩
    rw [hD] at HDE HE40 hDl
    have HE4 := Lib.hid HE40
    have HE5 : Hid (∀ u : World, Fld u b → Lies u u.heap.size a3 (u8s P) → Calls Try.prog 24 #[.pointer (some ⟨b, 0, none⟩), .slice a3 P.length c3, .int .u8 (x : Int)] u fun e w' => e = .returned (.int .u8 (v0 : Int)) ∧ Below u.heap.size u w') := Lib.hid fun u hf hl => by rw [← HV0.out]; exact eval_any b a3 c3 P x u hf HP8.out HX.out (by rw [HPL.out]; omega) hl
    have HDG : Hid (∀ u : World, Lies u u.heap.size a3 (u8s P) → Calls Try.prog 21 #[.slice a3 P.length c3] u fun e w' => e = .returned (.int .i64 (l.length : Int)) ∧ u = w') := Lib.hid fun u hl => by
      have h := degree_any a3 c3 P u (by rw [HPL.out]; omega) HC3.out hl
      have e : ((beh P).length : Int) - 1 = (l.length : Int) := by rw [HPC.out.beh, HPL.out]; omega
      rw [e] at h
      exact h
    clear HE40 hDl hD8 hD HDEV HROOTS HC3 HP8 HPL HPC HV0 F2 B1 B2
    go_loop [7, 22] (fun c i => ∃ k : Nat, k ≤ l.length ∧ i = .int .i64 k ∧ c = .int .i64 (ct (l.take k) x : Int)) (fun _ i => l.length - (intOf i).toNat)
    case atStart => exact ⟨0, Nat.zero_le _, rfl, rfl⟩
    case round =>
      obtain ⟨k, hk, rfl, rfl⟩ := hrel
      by_cases hlt : k < l.length
      · have hk1 : (k : Int) < l.length := by omega
        obtain ⟨b2, off, rfl, hbb, hcl⟩ := HR.out (by rw [u8s_length]; omega)
        have hcell : u3.cell? ⟨b2, off + k, none⟩ = some (.int .u8 (l[k] : Int)) := (B3.out.cell (p := ⟨b2, off + k, none⟩) hbb).trans (hcl k _ (u8s_get l k hlt))
        have hst : ct (l.take (k + 1)) x = if l[k] = x then ct (l.take k) x + 1 else ct (l.take k) x := by rw [take_snoc l k hlt, ct_snoc]
        have hcb := ct_le (l.take k) x
        rw [List.length_take] at hcb
        obtain ⟨c, hc⟩ : ∃ c, ct (l.take k) x = c := ⟨_, rfl⟩
        obtain ⟨y, hy⟩ : ∃ y, l[k] = y := ⟨_, rfl⟩
        rw [hc, hy] at hst
        rw [hc] at hcb ⊢
        rw [hy] at hcell
        have hcb2 : (c : Int) ≤ 30 := by omega
        by_cases e : y = x
        · rw [if_pos e] at hst
          have HS := Lib.hid hst
          have e1 : (y : Int) = (x : Int) := by omega
          subst e
          clear hst hc hy hcl hbb hcb
          go_wp2
          go_round
          case rel => exact ⟨k + 1, by omega, by go_num, by rw [HS.out]; go_num⟩
          case measure => simp [intOf]; omega
        · rw [if_neg e] at hst
          have HS := Lib.hid hst
          have e1 : ¬ (y : Int) = (x : Int) := by omega
          clear hst hc hy hcl hbb hcb e
          go_wp2
          go_round
          case rel => exact ⟨k + 1, by omega, by go_num, by rw [HS.out]⟩
          case measure => simp [intOf]; omega
      · have ek : k = l.length := by omega
        rw [ek, List.take_of_length_le (Nat.le_refl _)]
        clear ek hlt hk
        obtain ⟨c, hc⟩ : ∃ c, ct l x = c := ⟨_, rfl⟩
        rw [hc] at HZ HZ2 HZ1 HCT
        rw [hc]
        clear hc
        have hcb : (c : Int) ≤ 30 := by have := HCT.out; omega
        have hcase : c = 0 ∨ c = 1 ∨ 2 ≤ c := by omega
        rcases hcase with hc0 | hc0 | hc0
        · have hv : v0 ≠ 0 := fun e => by have := HZ.out.1 e; omega
          have hvi : ¬ (v0 : Int) = 0 := by omega
          have hvb : ((v0 : Int) == 0) = false := beq_false_of_ne hvi
          subst hc0
          clear hv
          go_wp2_with (first
            | (go_at_call 26; (with_reducible refine (HDE.out u3 (HRP.out)).mono ?_); rintro e u4 ⟨⟨v4, rfl, a4, c4, rfl, _, l4⟩, b4⟩; have L4 := Lib.hid l4; have B4 := Lib.hid b4; clear l4 b4)
            | (go_at_call 24; (with_reducible refine (HE4.out u4 a4 c4 (HFR.out.step B4.out) L4.out).mono ?_); rintro e u5 ⟨rfl, b5⟩; have B5 := Lib.hid (B4.out.next b5); clear b5)
            | (go_at_call 21; (with_reducible refine (HDG.out u5 (HRP.out.step B5.out)).mono ?_); rintro e u6 ⟨rfl, rfl⟩)
            | (go_at_call 24; (with_reducible refine (HE5.out u5 (HFR.out.step B5.out) (HRP.out.step B5.out)).mono ?_); rintro e u7 ⟨rfl, b7⟩; have B7 := Lib.hid b7; clear b7))
          go_ret
          exact ⟨rfl, (B3.out.next B5.out).next B7.out⟩
        · have hv : v0 = 0 := HZ.out.2 (by omega)
          have hd : d0 ≠ 0 := HZ1.out hc0
          have hdi : ¬ (d0 : Int) = 0 := by omega
          have hdb : ((d0 : Int) == 0) = false := beq_false_of_ne hdi
          have hdc : ((d0 : Int) != 0) = true := by rw [bne, hdb]; rfl
          subst hc0 hv
          clear hd
          go_wp2_with (first
            | (go_at_call 26; (with_reducible refine (HDE.out u3 (HRP.out)).mono ?_); rintro e u4 ⟨⟨v4, rfl, a4, c4, rfl, _, l4⟩, b4⟩; have L4 := Lib.hid l4; have B4 := Lib.hid b4; clear l4 b4)
            | (go_at_call 24; (with_reducible refine (HE4.out u4 a4 c4 (HFR.out.step B4.out) L4.out).mono ?_); rintro e u5 ⟨rfl, b5⟩; have B5 := Lib.hid (B4.out.next b5); clear b5)
            | (go_at_call 21; (with_reducible refine (HDG.out u5 (HRP.out.step B5.out)).mono ?_); rintro e u6 ⟨rfl, rfl⟩)
            | (go_at_call 24; (with_reducible refine (HE5.out u5 (HFR.out.step B5.out) (HRP.out.step B5.out)).mono ?_); rintro e u7 ⟨rfl, b7⟩; have B7 := Lib.hid b7; clear b7))
          go_ret
          exact ⟨rfl, (B3.out.next B5.out).next B7.out⟩
        · have hv : v0 = 0 := HZ.out.2 (by omega)
          have hd : d0 = 0 := HZ2.out hc0
          have hci : (2 : Int) ≤ c := by omega
          have hcj : ¬ (c : Int) = 1 := by omega
          have hck : ((c : Int) != 1) = true := by rw [bne, beq_false_of_ne hcj]; rfl
          have hcp : 0 < (c : Int) := by omega
          subst hv hd
          go_wp2_with (first
            | (go_at_call 26; (with_reducible refine (HDE.out u3 (HRP.out)).mono ?_); rintro e u4 ⟨⟨v4, rfl, a4, c4, rfl, _, l4⟩, b4⟩; have L4 := Lib.hid l4; have B4 := Lib.hid b4; clear l4 b4)
            | (go_at_call 24; (with_reducible refine (HE4.out u4 a4 c4 (HFR.out.step B4.out) L4.out).mono ?_); rintro e u5 ⟨rfl, b5⟩; have B5 := Lib.hid (B4.out.next b5); clear b5)
            | (go_at_call 21; (with_reducible refine (HDG.out u5 (HRP.out.step B5.out)).mono ?_); rintro e u6 ⟨rfl, rfl⟩)
            | (go_at_call 24; (with_reducible refine (HE5.out u5 (HFR.out.step B5.out) (HRP.out.step B5.out)).mono ?_); rintro e u7 ⟨rfl, b7⟩; have B7 := Lib.hid b7; clear b7))
          go_ret
          exact ⟨rfl, (B3.out.next B5.out).next B7.out⟩

end Go.Proofs.Ytligaipkdabmoaa
