/- Contract of the document's fits. -/
import Derived.Test.YtmphjmbnfaimiaaDoorShaX
namespace Go.Proofs.YtmphjmbnfaimiaaDoor
open Go.RowKit ShaMath

theorem parts_one : Parts [1] := by intro x hx; simp at hx; omega
/-- mul of a list whose length is a letter's. -/
theorem rmul_at (G g cap N N4 : Nat) (l : List Nat) (n : Nat) (w : World) (hG : w.heap.size = G) (hN : l.length = N) (h4 : N + 4 = N4) (hp : Parts l) (hl : N ≤ 100) (hn : Big (n < 281474976710656)) (hr : Lies w w.heap.size (some ⟨g, 0, none⟩) (sha_nats l)) :
    Calls Tryd.prog 31 #[.slice (some ⟨g, 0, none⟩) N cap, .int .i64 (n : Int)] w fun e w' => ∃ r, e = .returned (.slice (some ⟨G, 0, none⟩) N4 N4) ∧ r.length = N4 ∧ Parts r ∧ val r = val l * n ∧ Row w' G 3 (sha_nats r) ∧ Below w.heap.size w w' := by
  subst hN h4 hG
  exact sha_rmul_any _ cap l n w hp hl hn hr
theorem Row.lies {w : World} {g : Nat} {t : TypeId} {l : List Value} (h : Row w g t l) : Lies w w.heap.size (some ⟨g, 0, none⟩) l := fun _ => ⟨g, 0, rfl, h.lt, fun j u hu => by rw [Nat.zero_add, h.cell]; exact hu⟩

set_option maxRecDepth 100000 in
set_option maxHeartbeats 2000000 in
theorem fits_two (x p : Nat) (w : World) (hx : x ≤ 2 ^ 36) (hp : p < 1000000) :
    Calls Tryd.prog 28 #[.int .i64 (x : Int), .int .i64 (p : Int), .bool true] w fun e w' => e = .returned (.bool (fitN true p x)) ∧ Below w.heap.size w w' := by
  have HX : Big (x < 281474976710656) := ⟨by omega⟩
  have HP : Big (p < 1000000) := ⟨hp⟩
  have hfit : fitN true p x = decide (x * x ≤ p * 65536 ^ 4) := rfl
  have HF := Lib.hid hfit
  clear hfit hx hp
  go_enter Tryd.func28, Tryd.ntmps28
  go_wp2_with (first
    | (go_at_call 31; (with_reducible refine (rmul_at (w.heap.size + 1) w.heap.size 1 1 5 [1] x (w.alloc (.cells #[.int .i64 1] 3)) (by simp) rfl rfl parts_one (by omega) HX (Lies.new _ _ _)).mono ?_); rintro e u1 ⟨r1, rfl, l1, p1, v1, k1, b1⟩; have L1 := Lib.hid l1; have P1 := Lib.hid p1; have V1 := Lib.hid v1; have K1 := Lib.hid k1; have B1 : Hid (Below w.heap.size w u1) := Lib.hid ((alloc_below _ _).next b1); clear l1 p1 v1 k1 b1)
    | (go_at_call 31; (with_reducible refine (rmul_at u1.heap.size _ 5 5 9 r1 x u1 rfl L1.out rfl P1.out (by omega) HX (K1.out.lies)).mono ?_); rintro e u2 ⟨r2, rfl, l2, p2, v2, k2, b2⟩; have L2 := Lib.hid l2; have P2 := Lib.hid p2; have V2 := Lib.hid v2; have K2 := Lib.hid k2; have B2 : Hid (Below w.heap.size w u2) := Lib.hid (B1.out.next b2); clear l2 p2 v2 k2 b2))
  have hval : val r2 = x * x := by rw [V2.out, V1.out]; show val [1] * x * x = _; simp [val]
  rw [← hval] at HF
  have HL := L2
  have HPR := P2
  have HK := K2
  have HB := B2
  obtain ⟨u, hu⟩ : ∃ u, u = u2 := ⟨_, rfl⟩
  obtain ⟨r, hr⟩ : ∃ r, r = r2 := ⟨_, rfl⟩
  obtain ⟨g, hg⟩ : ∃ g, g = u1.heap.size := ⟨_, rfl⟩
  rw [← hg] at HK ⊢
  rw [← hu] at HK HB ⊢
  rw [← hr] at HK HL HPR HF
  clear L1 P1 V1 K1 B1 L2 P2 V2 K2 B2  hval hu hr hg HX
  go_loop [9, 10] (fun h i => ∃ (k H : Nat), 4 ≤ k ∧ k ≤ 9 ∧ i = .int .i64 ((k : Int) - 1) ∧ h = .int .i64 (H : Int) ∧ val (r.drop k) = H ∧ Big (H < 1099511627776)) (fun _ i => (intOf i).toNat)
  case atStart => exact ⟨9, 0, by omega, by omega, rfl, rfl, by rw [List.drop_of_length_le (by rw [HL.out]; omega)]; rfl, ⟨by omega⟩⟩
  case round =>
    obtain ⟨k, H, hk1, hk2, rfl, rfl, hH, hHb⟩ := hrel
    by_cases hlt : 4 < k
    · by_cases hbig : 1000000 < H
      · have hno := fits_high r 4 p H HP.out k (by omega) (by rw [HL.out]; omega) hH hbig
        have HR : Hid (fitN true p x = false) := Lib.hid (by rw [HF.out]; exact decide_eq_false hno)
        have hd : decide ((1000000 : Int) < (H : Int)) = true := by simp; omega
        have hki : (4 : Int) ≤ (k : Int) - 1 := by omega
        have HB2 := Lib.hid HB.out
        clear hno hbig hH HB
        go_wp2
        go_ret
        exact ⟨ret_bool HR.out.symm, HB2.out⟩
      · obtain ⟨j, rfl⟩ : ∃ j, k = j + 1 := ⟨k - 1, by omega⟩
        have hjr : j < r.length := by rw [HL.out]; omega
        have hstep := val_drop r j hjr
        rw [hH] at hstep
        have hd5 := HPR.out.get j hjr
        have hcell : u.cell? ⟨g, j, none⟩ = some (.int .i64 (r[j] : Int)) := by rw [HK.out.cell, sha_nats_get _ _ hjr]
        obtain ⟨d, hde⟩ : ∃ d, r[j] = d := ⟨_, rfl⟩
        rw [hde] at hstep hd5 hcell
        obtain ⟨H2, h2⟩ : ∃ H2, 65536 * H = H2 := ⟨_, rfl⟩
        obtain ⟨H3, h3⟩ : ∃ H3, H2 + d = H3 := ⟨_, rfl⟩
        rw [h2, h3] at hstep
        have f1 : (65536 : Int) * (H : Int) = (H2 : Int) := by omega
        have f2 : (H2 : Int) + (d : Int) = (H3 : Int) := by omega
        have f3 : IntKind.i64.wrap (H2 : Int) = (H2 : Int) := IntWalk.i64_in _ (by omega)
        have f4 : IntKind.i64.wrap (H3 : Int) = (H3 : Int) := IntWalk.i64_in _ (by omega)
        have HH3 : Big (H3 < 1099511627776) := ⟨by omega⟩
        have HST := Lib.hid hstep
        have hd : decide ((1000000 : Int) < (H : Int)) = false := by simp; omega
        have ej : ((j + 1 : Nat) : Int) - 1 = (j : Int) := by omega
        rw [ej]
        have hki : (4 : Int) ≤ (j : Int) := by omega
        have hkj : (j : Int) < 9 := by omega
        clear hbig hH hstep hde h2 h3 hd5 hHb hjr
        go_wp2
        go_round
        case rel => exact ⟨j, H3, by omega, by omega, rfl, rfl, HST.out, HH3⟩
        case measure => simp [intOf]; omega
    · have ek : k = 4 := by omega
      subst ek
      have hat : 4 ≤ r.length := by rw [HL.out]; omega
      have e3 : ((4 : Nat) : Int) - 1 = 3 := rfl
      rw [e3]
      clear e3 hlt hk1 hk2 hHb
      by_cases hHp : H = p
      · subst hHp
        have hnn : ((H : Int) != (H : Int)) = false := by simp
        clear hnn
        have HH := Lib.hid hH
        clear hH
        go_wp2
        go_loop [11] (fun i => ∃ j : Nat, j ≤ 4 ∧ i = .int .i64 j ∧ ∀ i (h : i < r.length), i < j → r[i] = 0) (fun i => 4 - (intOf i).toNat)
        case atStart => exact ⟨0, by omega, rfl, fun i _ hi => absurd hi (by omega)⟩
        case round =>
          obtain ⟨j, hj, rfl, hz⟩ := hrel
          by_cases hj4 : j < 4
          · have hjr : j < r.length := by rw [HL.out]; omega
            have hcell : u.cell? ⟨g, j, none⟩ = some (.int .i64 (r[j] : Int)) := by rw [HK.out.cell, sha_nats_get _ _ hjr]
            by_cases hd0 : r[j] = 0
            · have HZ : Hid (∀ i (h : i < r.length), i < j + 1 → r[i] = 0) := Lib.hid fun i h hi => by
                by_cases e : i = j
                · subst e; exact hd0
                · exact hz i h (by omega)
              rw [hd0] at hcell
              have hj1 : (j : Int) < 4 := by omega
              have hj0 : 0 ≤ (j : Int) := by omega
              clear hz hd0 hat hjr
              go_wp2
              go_round
              case rel => exact ⟨j + 1, by omega, by go_num, HZ.out⟩
              case measure => simp [intOf]; omega
            · have hno := fits_some r 4 H j hat HH.out hj4 hjr hd0
              have HR : Hid (fitN true H x = false) := Lib.hid (by rw [HF.out]; exact decide_eq_false hno)
              obtain ⟨d, hde⟩ : ∃ d, r[j] = d := ⟨_, rfl⟩
              rw [hde] at hcell hd0
              have hd1 : ¬ (d : Int) = 0 := by omega
              have hj1 : (j : Int) < 4 := by omega
              have hj0 : 0 ≤ (j : Int) := by omega
              have HB2 := Lib.hid HB.out
              clear hz hno hde hat hjr HB
              go_wp2
              go_ret
              exact ⟨ret_bool HR.out.symm, HB2.out⟩
          · have ej : j = 4 := by omega
            subst ej
            have HR : Hid (fitN true H x = true) := Lib.hid (by rw [HF.out]; exact decide_eq_true (fits_all r 4 H hat HH.out hz))
            have HB2 := Lib.hid HB.out
            clear hz hat HB hj4 hj
            go_wp2
            go_ret
            exact ⟨ret_bool HR.out.symm, HB2.out⟩
      · have hnot := fits_not r 4 p HPR.out hat (by rw [hH]; exact hHp)
        rw [hH] at hnot
        have HR : Hid (fitN true p x = decide (H < p)) := Lib.hid (by rw [HF.out]; exact decide_eq_decide.2 hnot)
        have hne : ¬ (H : Int) = (p : Int) := by omega
        have HB2 := Lib.hid HB.out
        clear hnot hHp hH hat HB
        go_wp2
        go_ret
        exact ⟨ret_bool HR.out.symm, HB2.out⟩

set_option maxRecDepth 100000 in
set_option maxHeartbeats 2000000 in
theorem fits_three (x p : Nat) (w : World) (hx : x ≤ 2 ^ 36) (hp : p < 1000000) :
    Calls Tryd.prog 28 #[.int .i64 (x : Int), .int .i64 (p : Int), .bool false] w fun e w' => e = .returned (.bool (fitN false p x)) ∧ Below w.heap.size w w' := by
  have HX : Big (x < 281474976710656) := ⟨by omega⟩
  have HP : Big (p < 1000000) := ⟨hp⟩
  have hfit : fitN false p x = decide (x * x * x ≤ p * 65536 ^ 6) := rfl
  have HF := Lib.hid hfit
  clear hfit hx hp
  go_enter Tryd.func28, Tryd.ntmps28
  go_wp2_with (first
    | (go_at_call 31; (with_reducible refine (rmul_at (w.heap.size + 1) w.heap.size 1 1 5 [1] x (w.alloc (.cells #[.int .i64 1] 3)) (by simp) rfl rfl parts_one (by omega) HX (Lies.new _ _ _)).mono ?_); rintro e u1 ⟨r1, rfl, l1, p1, v1, k1, b1⟩; have L1 := Lib.hid l1; have P1 := Lib.hid p1; have V1 := Lib.hid v1; have K1 := Lib.hid k1; have B1 : Hid (Below w.heap.size w u1) := Lib.hid ((alloc_below _ _).next b1); clear l1 p1 v1 k1 b1)
    | (go_at_call 31; (with_reducible refine (rmul_at u1.heap.size _ 5 5 9 r1 x u1 rfl L1.out rfl P1.out (by omega) HX (K1.out.lies)).mono ?_); rintro e u2 ⟨r2, rfl, l2, p2, v2, k2, b2⟩; have L2 := Lib.hid l2; have P2 := Lib.hid p2; have V2 := Lib.hid v2; have K2 := Lib.hid k2; have B2 : Hid (Below w.heap.size w u2) := Lib.hid (B1.out.next b2); clear l2 p2 v2 k2 b2)
    | (go_at_call 31; (with_reducible refine (rmul_at u2.heap.size _ 9 9 13 r2 x u2 rfl L2.out rfl P2.out (by omega) HX (K2.out.lies)).mono ?_); rintro e u3 ⟨r3, rfl, l3, p3, v3, k3, b3⟩; have L3 := Lib.hid l3; have P3 := Lib.hid p3; have V3 := Lib.hid v3; have K3 := Lib.hid k3; have B3 : Hid (Below w.heap.size w u3) := Lib.hid (B2.out.next b3); clear l3 p3 v3 k3 b3))
  have hval : val r3 = x * x * x := by rw [V3.out, V2.out, V1.out]; show val [1] * x * x * x = _; simp [val]
  rw [← hval] at HF
  have HL := L3
  have HPR := P3
  have HK := K3
  have HB := B3
  obtain ⟨u, hu⟩ : ∃ u, u = u3 := ⟨_, rfl⟩
  obtain ⟨r, hr⟩ : ∃ r, r = r3 := ⟨_, rfl⟩
  obtain ⟨g, hg⟩ : ∃ g, g = u2.heap.size := ⟨_, rfl⟩
  rw [← hg] at HK ⊢
  rw [← hu] at HK HB ⊢
  rw [← hr] at HK HL HPR HF
  clear L1 P1 V1 K1 B1 L2 P2 V2 K2 B2 L3 P3 V3 K3 B3 hval hu hr hg HX
  go_loop [9, 10] (fun h i => ∃ (k H : Nat), 6 ≤ k ∧ k ≤ 13 ∧ i = .int .i64 ((k : Int) - 1) ∧ h = .int .i64 (H : Int) ∧ val (r.drop k) = H ∧ Big (H < 1099511627776)) (fun _ i => (intOf i).toNat)
  case atStart => exact ⟨13, 0, by omega, by omega, rfl, rfl, by rw [List.drop_of_length_le (by rw [HL.out]; omega)]; rfl, ⟨by omega⟩⟩
  case round =>
    obtain ⟨k, H, hk1, hk2, rfl, rfl, hH, hHb⟩ := hrel
    by_cases hlt : 6 < k
    · by_cases hbig : 1000000 < H
      · have hno := fits_high r 6 p H HP.out k (by omega) (by rw [HL.out]; omega) hH hbig
        have HR : Hid (fitN false p x = false) := Lib.hid (by rw [HF.out]; exact decide_eq_false hno)
        have hd : decide ((1000000 : Int) < (H : Int)) = true := by simp; omega
        have hki : (6 : Int) ≤ (k : Int) - 1 := by omega
        have HB2 := Lib.hid HB.out
        clear hno hbig hH HB
        go_wp2
        go_ret
        exact ⟨ret_bool HR.out.symm, HB2.out⟩
      · obtain ⟨j, rfl⟩ : ∃ j, k = j + 1 := ⟨k - 1, by omega⟩
        have hjr : j < r.length := by rw [HL.out]; omega
        have hstep := val_drop r j hjr
        rw [hH] at hstep
        have hd5 := HPR.out.get j hjr
        have hcell : u.cell? ⟨g, j, none⟩ = some (.int .i64 (r[j] : Int)) := by rw [HK.out.cell, sha_nats_get _ _ hjr]
        obtain ⟨d, hde⟩ : ∃ d, r[j] = d := ⟨_, rfl⟩
        rw [hde] at hstep hd5 hcell
        obtain ⟨H2, h2⟩ : ∃ H2, 65536 * H = H2 := ⟨_, rfl⟩
        obtain ⟨H3, h3⟩ : ∃ H3, H2 + d = H3 := ⟨_, rfl⟩
        rw [h2, h3] at hstep
        have f1 : (65536 : Int) * (H : Int) = (H2 : Int) := by omega
        have f2 : (H2 : Int) + (d : Int) = (H3 : Int) := by omega
        have f3 : IntKind.i64.wrap (H2 : Int) = (H2 : Int) := IntWalk.i64_in _ (by omega)
        have f4 : IntKind.i64.wrap (H3 : Int) = (H3 : Int) := IntWalk.i64_in _ (by omega)
        have HH3 : Big (H3 < 1099511627776) := ⟨by omega⟩
        have HST := Lib.hid hstep
        have hd : decide ((1000000 : Int) < (H : Int)) = false := by simp; omega
        have ej : ((j + 1 : Nat) : Int) - 1 = (j : Int) := by omega
        rw [ej]
        have hki : (6 : Int) ≤ (j : Int) := by omega
        have hkj : (j : Int) < 13 := by omega
        clear hbig hH hstep hde h2 h3 hd5 hHb hjr
        go_wp2
        go_round
        case rel => exact ⟨j, H3, by omega, by omega, rfl, rfl, HST.out, HH3⟩
        case measure => simp [intOf]; omega
    · have ek : k = 6 := by omega
      subst ek
      have hat : 6 ≤ r.length := by rw [HL.out]; omega
      have e3 : ((6 : Nat) : Int) - 1 = 5 := rfl
      rw [e3]
      clear e3 hlt hk1 hk2 hHb
      by_cases hHp : H = p
      · subst hHp
        have hnn : ((H : Int) != (H : Int)) = false := by simp
        clear hnn
        have HH := Lib.hid hH
        clear hH
        go_wp2
        go_loop [11] (fun i => ∃ j : Nat, j ≤ 6 ∧ i = .int .i64 j ∧ ∀ i (h : i < r.length), i < j → r[i] = 0) (fun i => 6 - (intOf i).toNat)
        case atStart => exact ⟨0, by omega, rfl, fun i _ hi => absurd hi (by omega)⟩
        case round =>
          obtain ⟨j, hj, rfl, hz⟩ := hrel
          by_cases hj4 : j < 6
          · have hjr : j < r.length := by rw [HL.out]; omega
            have hcell : u.cell? ⟨g, j, none⟩ = some (.int .i64 (r[j] : Int)) := by rw [HK.out.cell, sha_nats_get _ _ hjr]
            by_cases hd0 : r[j] = 0
            · have HZ : Hid (∀ i (h : i < r.length), i < j + 1 → r[i] = 0) := Lib.hid fun i h hi => by
                by_cases e : i = j
                · subst e; exact hd0
                · exact hz i h (by omega)
              rw [hd0] at hcell
              have hj1 : (j : Int) < 6 := by omega
              have hj0 : 0 ≤ (j : Int) := by omega
              clear hz hd0 hat hjr
              go_wp2
              go_round
              case rel => exact ⟨j + 1, by omega, by go_num, HZ.out⟩
              case measure => simp [intOf]; omega
            · have hno := fits_some r 6 H j hat HH.out hj4 hjr hd0
              have HR : Hid (fitN false H x = false) := Lib.hid (by rw [HF.out]; exact decide_eq_false hno)
              obtain ⟨d, hde⟩ : ∃ d, r[j] = d := ⟨_, rfl⟩
              rw [hde] at hcell hd0
              have hd1 : ¬ (d : Int) = 0 := by omega
              have hj1 : (j : Int) < 6 := by omega
              have hj0 : 0 ≤ (j : Int) := by omega
              have HB2 := Lib.hid HB.out
              clear hz hno hde hat hjr HB
              go_wp2
              go_ret
              exact ⟨ret_bool HR.out.symm, HB2.out⟩
          · have ej : j = 6 := by omega
            subst ej
            have HR : Hid (fitN false H x = true) := Lib.hid (by rw [HF.out]; exact decide_eq_true (fits_all r 6 H hat HH.out hz))
            have HB2 := Lib.hid HB.out
            clear hz hat HB hj4 hj
            go_wp2
            go_ret
            exact ⟨ret_bool HR.out.symm, HB2.out⟩
      · have hnot := fits_not r 6 p HPR.out hat (by rw [hH]; exact hHp)
        rw [hH] at hnot
        have HR : Hid (fitN false p x = decide (H < p)) := Lib.hid (by rw [HF.out]; exact decide_eq_decide.2 hnot)
        have hne : ¬ (H : Int) = (p : Int) := by omega
        have HB2 := Lib.hid HB.out
        clear hnot hHp hH hat HB
        go_wp2
        go_ret
        exact ⟨ret_bool HR.out.symm, HB2.out⟩

theorem sha_fits_any (two : Bool) (p : Nat) (hp : p < 1000000) : Hid (∀ (u : World) (y : Nat), y ≤ 2 ^ 36 → Calls Tryd.prog 28 #[.int .i64 (y : Int), .int .i64 (p : Int), .bool two] u fun e u' => e = .returned (.bool (fitN two p y)) ∧ Below u.heap.size u u') := Lib.hid fun u y hy => by
  cases two
  · exact fits_three y p u hy hp
  · exact fits_two y p u hy hp

end Go.Proofs.YtmphjmbnfaimiaaDoor
