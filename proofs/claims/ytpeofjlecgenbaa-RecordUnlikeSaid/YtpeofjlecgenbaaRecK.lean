/- RecordUnlike (gen_rec_k.py). -/
import Derived.Test.YtpeofjlecgenbaaRecI
namespace Go.Proofs.Ytpeofjlecgenbaa
open Go.RowKit CrcMath NumMath
set_option linter.unusedVariables false
set_option maxRecDepth 100000

theorem TabAt.drew {w : World} {b : Nat} (h : TabAt w b) : TabAt w.drew b := ⟨h.lt, h.tab⟩
/-- What is left of a page of which a byte is turned. -/
theorem turned_get {k s n v : Int} (ho : rOk k s n v = true) (i : Nat) (hi : i < 16) (y : UInt8) :
    (isP ((pageB k s n v).set i ((pageB k s n v).getD i 0 ^^^ y)) = decide (y = 0)) ∧ (y = 0 → getV ((pageB k s n v).set i ((pageB k s n v).getD i 0 ^^^ y)) = rcv k s n v) ∧ (y ≠ 0 → getV ((pageB k s n v).set i ((pageB k s n v).getD i 0 ^^^ y)) = rcv 0 0 0 0) := by
  by_cases hy : y = 0
  · have e : (pageB k s n v).set i ((pageB k s n v).getD i 0 ^^^ y) = pageB k s n v := by
      refine ext_getD (by simp) fun j => ?_
      rw [getD_set _ _ _ _ (by rw [pageB_length]; exact hi)]
      split
      · rename_i h; rw [h, hy, UInt8.xor_zero]
      · rfl
    obtain ⟨e1, e2, e3, e4⟩ := p_page ho
    rw [e]
    refine ⟨by rw [page_is ho]; simp [hy], fun _ => ?_, fun h => absurd hy h⟩
    rw [getV, page_is ho, if_pos rfl, e1, e2, e3, e4]
  · have h := turned_page ho i hi y hy
    refine ⟨by rw [h]; simp [hy], fun h => absurd h hy, fun _ => ?_⟩
    rw [getV, h, if_neg (by decide)]

set_option maxHeartbeats 4000000 in
theorem recordUnlike_walk (k s n v k2 s2 n2 v2 : Int) (x y : UInt8) (w : World) :
    Calls Try.prog 6 #[.agg (rcv k s n v).toArray, .agg (rcv k2 s2 n2 v2).toArray, .agg #[.int .u8 (x.toNat : Int), .int .u8 (y.toNat : Int)]] w fun e w' => e = .returned (.bool true) ∧ Below w.heap.size w w' := by
  obtain ⟨ok1, hok1⟩ : ∃ x, rOk k s n v = x := ⟨_, rfl⟩
  obtain ⟨ok2, hok2⟩ : ∃ x, rOk k2 s2 n2 v2 = x := ⟨_, rfl⟩
  have HR1 : Hid (∀ u, Calls Try.prog 10 #[.agg (rcv k s n v).toArray] u fun e u' => e = .returned (.bool ok1) ∧ Below u.heap.size u u') := Lib.hid fun u => by rw [← hok1]; exact rref_right_any k s n v u
  have HR2 : Hid (∀ u, Calls Try.prog 10 #[.agg (rcv k2 s2 n2 v2).toArray] u fun e u' => e = .returned (.bool ok2) ∧ Below u.heap.size u u') := Lib.hid fun u => by rw [← hok2]; exact rref_right_any k2 s2 n2 v2 u
  cases ok1 with
  | false =>
    obtain ⟨E2, T2, hP2⟩ : ∃ E2 T2, putE k2 s2 n2 v2 = (T2, E2) := ⟨_, _, rfl⟩
    have HP1 : Hid (∀ u b, TabAt u b → Calls Try.prog 9 #[.pointer (some ⟨b, 0, none⟩), .agg (rcv k s n v).toArray] u fun e u' => e = .returned (.tuple #[.string ByteArray.empty, .int .i64 1]) ∧ Below u.heap.size u u') := Lib.hid fun u b h => rec_put_no b k s n v u hok1
    have HP2 : Hid (∀ u b, TabAt u b → Calls Try.prog 9 #[.pointer (some ⟨b, 0, none⟩), .agg (rcv k2 s2 n2 v2).toArray] u fun e u' => e = .returned (.tuple #[.string T2, .int .i64 E2]) ∧ Below u.heap.size u u') := Lib.hid fun u b h => rec_put_any b k2 s2 n2 v2 u h.tab h.lt T2 E2 hP2
    obtain ⟨V, hV⟩ : ∃ V, rcv k s n v = V := ⟨_, rfl⟩
    obtain ⟨V2, hV2⟩ : ∃ V, rcv k2 s2 n2 v2 = V := ⟨_, rfl⟩
    have LV : Hid (V.length = 4) := Lib.hid (by rw [← hV]; rfl)
    have LV2 : Hid (V2.length = 4) := Lib.hid (by rw [← hV2]; rfl)
    rw [hV] at HP1 HR1 ⊢
    rw [hV2] at HP2 HR2 ⊢
    clear hok1 hok2 hV hV2 hP2
    go_enter Try.func6, Try.ntmps6
    go_wp2_with (first
      | ((with_reducible refine wpBoxK (w := w) (V) 23 ?_ ?_); rfl; intro u1 r_ b_ s_; have G_r : Hid (w.heap.size ≤ w.heap.size) := Lib.hid (Nat.le_refl _); have B_1 : Hid (Below w.heap.size w u1) := Lib.hid (b_); have Tr_1 := Lib.hid r_; clear r_ b_ s_)
      | ((with_reducible refine wpBoxK (w := u1) (V2) 23 ?_ ?_); rfl; intro u2 r_ b_ s_; have N_r_q : Hid (w.heap.size ≠ u1.heap.size) := Lib.hid (by have := Tr_1.out.lt; omega); have G_q : Hid (w.heap.size ≤ u1.heap.size) := Lib.hid (B_1.out.size); have Tr_2 := Lib.hid (Tr_1.out.step b_); have B_2 : Hid (Below w.heap.size w u2) := Lib.hid (B_1.out.next b_); have Tq_2 := Lib.hid r_; clear r_ b_ s_ Tr_1 B_1)
      | ((with_reducible refine wpBoxK (w := u2) ([Value.int .u8 (x.toNat : Int), Value.int .u8 (y.toNat : Int)]) 57 ?_ ?_); rfl; intro u3 r_ b_ s_; have N_r_t : Hid (w.heap.size ≠ u2.heap.size) := Lib.hid (by have := Tr_2.out.lt; omega); have N_q_t : Hid (u1.heap.size ≠ u2.heap.size) := Lib.hid (by have := Tq_2.out.lt; omega); have G_t : Hid (w.heap.size ≤ u2.heap.size) := Lib.hid (B_2.out.size); have Tr_3 := Lib.hid (Tr_2.out.step b_); have Tq_3 := Lib.hid (Tq_2.out.step b_); have B_3 : Hid (Below w.heap.size w u3) := Lib.hid (B_2.out.next b_); have Tt_3 := Lib.hid r_; clear r_ b_ s_ Tr_2 Tq_2 B_2)
      | (go_at_call 7; (with_reducible refine (rec_awake_any u3).mono ?_); rintro e u4 ⟨rfl, b_⟩; have Tr_4 := Lib.hid (Tr_3.out.step b_); have Tq_4 := Lib.hid (Tq_3.out.step b_); have Tt_4 := Lib.hid (Tt_3.out.step b_); have B_4 : Hid (Below w.heap.size w u4) := Lib.hid (B_3.out.next b_); clear b_ Tr_3 Tq_3 Tt_3 B_3)
      | (go_at_call 8; (with_reducible refine (tab_new u4).mono ?_); rintro e u5 ⟨bb, rfl, tt, b_⟩; have Tr_5 := Lib.hid (Tr_4.out.step b_); have Tq_5 := Lib.hid (Tq_4.out.step b_); have Tt_5 := Lib.hid (Tt_4.out.step b_); have B_5 : Hid (Below w.heap.size w u5) := Lib.hid (B_4.out.next b_); have Ttab_5 := Lib.hid tt; clear b_ Tr_4 Tq_4 Tt_4 B_4 tt)
      | ((with_reducible refine Tr_5.out.wpLoadK 23 fits_rec (LV.out) ?_ ?_); rfl)
      | (go_at_call 9; (with_reducible refine (HP1.out u5 bb Ttab_5.out).mono ?_); rintro e u6 ⟨rfl, b_⟩; have Tr_6 := Lib.hid (Tr_5.out.step b_); have Tq_6 := Lib.hid (Tq_5.out.step b_); have Tt_6 := Lib.hid (Tt_5.out.step b_); have Ttab_6 := Lib.hid (Ttab_5.out.step b_); have B_6 : Hid (Below w.heap.size w u6) := Lib.hid (B_5.out.next b_); clear b_ Tr_5 Tq_5 Tt_5 Ttab_5 B_5)
      | ((with_reducible refine Tq_6.out.wpLoadK 23 fits_rec (LV2.out) ?_ ?_); rfl)
      | (go_at_call 9; (with_reducible refine (HP2.out u6 bb Ttab_6.out).mono ?_); rintro e u7 ⟨rfl, b_⟩; have Tr_7 := Lib.hid (Tr_6.out.step b_); have Tq_7 := Lib.hid (Tq_6.out.step b_); have Tt_7 := Lib.hid (Tt_6.out.step b_); have Ttab_7 := Lib.hid (Ttab_6.out.step b_); have B_7 : Hid (Below w.heap.size w u7) := Lib.hid (B_6.out.next b_); clear b_ Tr_6 Tq_6 Tt_6 Ttab_6 B_6)
      | ((with_reducible refine Tr_7.out.wpLoadK 23 fits_rec (LV.out) ?_ ?_); rfl)
      | (go_at_call 10; (with_reducible refine (HR1.out u7).mono ?_); rintro e u8 ⟨rfl, b_⟩; have Tr_8 := Lib.hid (Tr_7.out.step b_); have Tq_8 := Lib.hid (Tq_7.out.step b_); have Tt_8 := Lib.hid (Tt_7.out.step b_); have Ttab_8 := Lib.hid (Ttab_7.out.step b_); have B_8 : Hid (Below w.heap.size w u8) := Lib.hid (B_7.out.next b_); clear b_ Tr_7 Tq_7 Tt_7 Ttab_7 B_7))
    go_ret
    exact ⟨rfl, B_8.out⟩
  | true =>
    have HP1 : Hid (∀ u b, TabAt u b → Calls Try.prog 9 #[.pointer (some ⟨b, 0, none⟩), .agg (rcv k s n v).toArray] u fun e u' => e = .returned (.tuple #[.string (str (pageB k s n v)), .int .i64 0]) ∧ Below u.heap.size u u') := Lib.hid fun u b h => rec_put_yes b k s n v u h.tab h.lt hok1
    cases ok2 with
    | false =>
      have HP2 : Hid (∀ u b, TabAt u b → Calls Try.prog 9 #[.pointer (some ⟨b, 0, none⟩), .agg (rcv k2 s2 n2 v2).toArray] u fun e u' => e = .returned (.tuple #[.string ByteArray.empty, .int .i64 1]) ∧ Below u.heap.size u u') := Lib.hid fun u b h => rec_put_no b k2 s2 n2 v2 u hok2
      obtain ⟨T1, hT1⟩ : ∃ T1, str (pageB k s n v) = T1 := ⟨_, rfl⟩
      obtain ⟨V, hV⟩ : ∃ V, rcv k s n v = V := ⟨_, rfl⟩
      obtain ⟨V2, hV2⟩ : ∃ V, rcv k2 s2 n2 v2 = V := ⟨_, rfl⟩
      have LV : Hid (V.length = 4) := Lib.hid (by rw [← hV]; rfl)
      have LV2 : Hid (V2.length = 4) := Lib.hid (by rw [← hV2]; rfl)
      rw [hT1] at HP1
      rw [hV] at HP1 HR1 ⊢
      rw [hV2] at HP2 HR2 ⊢
      clear hok1 hok2 hV hV2 hT1
      go_enter Try.func6, Try.ntmps6
      go_wp2_with (first
        | ((with_reducible refine wpBoxK (w := w) (V) 23 ?_ ?_); rfl; intro u1 r_ b_ s_; have G_r : Hid (w.heap.size ≤ w.heap.size) := Lib.hid (Nat.le_refl _); have B_1 : Hid (Below w.heap.size w u1) := Lib.hid (b_); have Tr_1 := Lib.hid r_; clear r_ b_ s_)
        | ((with_reducible refine wpBoxK (w := u1) (V2) 23 ?_ ?_); rfl; intro u2 r_ b_ s_; have N_r_q : Hid (w.heap.size ≠ u1.heap.size) := Lib.hid (by have := Tr_1.out.lt; omega); have G_q : Hid (w.heap.size ≤ u1.heap.size) := Lib.hid (B_1.out.size); have Tr_2 := Lib.hid (Tr_1.out.step b_); have B_2 : Hid (Below w.heap.size w u2) := Lib.hid (B_1.out.next b_); have Tq_2 := Lib.hid r_; clear r_ b_ s_ Tr_1 B_1)
        | ((with_reducible refine wpBoxK (w := u2) ([Value.int .u8 (x.toNat : Int), Value.int .u8 (y.toNat : Int)]) 57 ?_ ?_); rfl; intro u3 r_ b_ s_; have N_r_t : Hid (w.heap.size ≠ u2.heap.size) := Lib.hid (by have := Tr_2.out.lt; omega); have N_q_t : Hid (u1.heap.size ≠ u2.heap.size) := Lib.hid (by have := Tq_2.out.lt; omega); have G_t : Hid (w.heap.size ≤ u2.heap.size) := Lib.hid (B_2.out.size); have Tr_3 := Lib.hid (Tr_2.out.step b_); have Tq_3 := Lib.hid (Tq_2.out.step b_); have B_3 : Hid (Below w.heap.size w u3) := Lib.hid (B_2.out.next b_); have Tt_3 := Lib.hid r_; clear r_ b_ s_ Tr_2 Tq_2 B_2)
        | (go_at_call 7; (with_reducible refine (rec_awake_any u3).mono ?_); rintro e u4 ⟨rfl, b_⟩; have Tr_4 := Lib.hid (Tr_3.out.step b_); have Tq_4 := Lib.hid (Tq_3.out.step b_); have Tt_4 := Lib.hid (Tt_3.out.step b_); have B_4 : Hid (Below w.heap.size w u4) := Lib.hid (B_3.out.next b_); clear b_ Tr_3 Tq_3 Tt_3 B_3)
        | (go_at_call 8; (with_reducible refine (tab_new u4).mono ?_); rintro e u5 ⟨bb, rfl, tt, b_⟩; have Tr_5 := Lib.hid (Tr_4.out.step b_); have Tq_5 := Lib.hid (Tq_4.out.step b_); have Tt_5 := Lib.hid (Tt_4.out.step b_); have B_5 : Hid (Below w.heap.size w u5) := Lib.hid (B_4.out.next b_); have Ttab_5 := Lib.hid tt; clear b_ Tr_4 Tq_4 Tt_4 B_4 tt)
        | ((with_reducible refine Tr_5.out.wpLoadK 23 fits_rec (LV.out) ?_ ?_); rfl)
        | (go_at_call 9; (with_reducible refine (HP1.out u5 bb Ttab_5.out).mono ?_); rintro e u6 ⟨rfl, b_⟩; have Tr_6 := Lib.hid (Tr_5.out.step b_); have Tq_6 := Lib.hid (Tq_5.out.step b_); have Tt_6 := Lib.hid (Tt_5.out.step b_); have Ttab_6 := Lib.hid (Ttab_5.out.step b_); have B_6 : Hid (Below w.heap.size w u6) := Lib.hid (B_5.out.next b_); clear b_ Tr_5 Tq_5 Tt_5 Ttab_5 B_5)
        | ((with_reducible refine Tq_6.out.wpLoadK 23 fits_rec (LV2.out) ?_ ?_); rfl)
        | (go_at_call 9; (with_reducible refine (HP2.out u6 bb Ttab_6.out).mono ?_); rintro e u7 ⟨rfl, b_⟩; have Tr_7 := Lib.hid (Tr_6.out.step b_); have Tq_7 := Lib.hid (Tq_6.out.step b_); have Tt_7 := Lib.hid (Tt_6.out.step b_); have Ttab_7 := Lib.hid (Ttab_6.out.step b_); have B_7 : Hid (Below w.heap.size w u7) := Lib.hid (B_6.out.next b_); clear b_ Tr_6 Tq_6 Tt_6 Ttab_6 B_6)
        | ((with_reducible refine Tr_7.out.wpLoadK 23 fits_rec (LV.out) ?_ ?_); rfl)
        | (go_at_call 10; (with_reducible refine (HR1.out u7).mono ?_); rintro e u8 ⟨rfl, b_⟩; have Tr_8 := Lib.hid (Tr_7.out.step b_); have Tq_8 := Lib.hid (Tq_7.out.step b_); have Tt_8 := Lib.hid (Tt_7.out.step b_); have Ttab_8 := Lib.hid (Ttab_7.out.step b_); have B_8 : Hid (Below w.heap.size w u8) := Lib.hid (B_7.out.next b_); clear b_ Tr_7 Tq_7 Tt_7 Ttab_7 B_7)
        | ((with_reducible refine Tq_8.out.wpLoadG 23 fits_rec (LV2.out) ?_ ?_); rfl)
        | (go_at_call 10; (with_reducible refine (HR2.out u8).mono ?_); rintro e u9 ⟨rfl, b_⟩; have Tr_9 := Lib.hid (Tr_8.out.step b_); have Tq_9 := Lib.hid (Tq_8.out.step b_); have Tt_9 := Lib.hid (Tt_8.out.step b_); have Ttab_9 := Lib.hid (Ttab_8.out.step b_); have B_9 : Hid (Below w.heap.size w u9) := Lib.hid (B_8.out.next b_); clear b_ Tr_8 Tq_8 Tt_8 Ttab_8 B_8))
      go_ret
      exact ⟨rfl, B_9.out⟩
    | true =>
      have HP2 : Hid (∀ u b, TabAt u b → Calls Try.prog 9 #[.pointer (some ⟨b, 0, none⟩), .agg (rcv k2 s2 n2 v2).toArray] u fun e u' => e = .returned (.tuple #[.string (str (pageB k2 s2 n2 v2)), .int .i64 0]) ∧ Below u.heap.size u u') := Lib.hid fun u b h => rec_put_yes b k2 s2 n2 v2 u h.tab h.lt hok2
      obtain ⟨i, hi⟩ : ∃ i, x.toNat % 16 = i := ⟨_, rfl⟩
      have hi16 : i < 16 := by omega
      obtain ⟨P, hP⟩ : ∃ P, pageB k s n v = P := ⟨_, rfl⟩
      obtain ⟨z, hz⟩ : ∃ z, P.getD i 0 ^^^ y = z := ⟨_, rfl⟩
      obtain ⟨T1, hT1⟩ : ∃ T1, str P = T1 := ⟨_, rfl⟩
      obtain ⟨T2, hT2⟩ : ∃ T2, str (pageB k2 s2 n2 v2) = T2 := ⟨_, rfl⟩
      obtain ⟨D, hD⟩ : ∃ D, P.set i z = D := ⟨_, rfl⟩
      obtain ⟨TD, hTD⟩ : ∃ T, str D = T := ⟨_, rfl⟩
      obtain ⟨g1, g2, g3⟩ := turned_get hok1 i hi16 y
      rw [hP, hz, hD] at g1 g2 g3
      have lP : P.length = 16 := by rw [← hP, pageB_length]
      have HPL : Hid (P.length = 16) := Lib.hid lP
      have HDL : Hid (D.length = 16) := Lib.hid (by rw [← hD]; simp [lP])
      have HTP : Hid (T1.data.toList = P) := Lib.hid (by rw [← hT1, str_list])
      have HSD : Hid (P.set i z = D) := Lib.hid hD
      have HZ : Hid (P.getD i 0 ^^^ y = z) := Lib.hid hz
      have zT1 : T1.size = 16 := by rw [← hT1, str_size, lP]
      obtain ⟨r, hr⟩ : ∃ r, decide (k = k2 ∧ s = s2 ∧ n = n2 ∧ v = v2) = r := ⟨_, rfl⟩
      have HEQ12 : Hid (∀ u : World, (Op.equalIn 10000 23 (.agg (rcv k s n v).toArray) (.agg (rcv k2 s2 n2 v2).toArray)).run Try.prog u = .ok r u) := Lib.hid fun u => eq_rec_any _ _ _ _ _ _ _ _ r hr u
      have HEQ11 : Hid (∀ u : World, (Op.equalIn 10000 23 (.agg (rcv k s n v).toArray) (.agg (rcv k s n v).toArray)).run Try.prog u = .ok true u) := Lib.hid fun u => eq_rec_any _ _ _ _ _ _ _ _ true (by simp) u
      have hTT : (T1.toList == T2.toList) = r := by
        by_cases he : k = k2 ∧ s = s2 ∧ n = n2 ∧ v = v2
        · rw [← hr, decide_eq_true he]
          obtain ⟨rfl, rfl, rfl, rfl⟩ := he
          exact beq_yes (by rw [← hT1, ← hT2, hP])
        · rw [← hr, decide_eq_false he]
          refine beq_no fun e => he ?_
          rw [← hT1, ← hT2, ← hP] at e
          exact page_inj hok1 hok2 (str_inj e)
      rw [hP, hT1] at HP1
      rw [hT2] at HP2
      have HG : Hid (∀ u b, TabAt u b → Calls Try.prog 12 #[.pointer (some ⟨b, 0, none⟩), .string TD] u fun e u' => e = .returned (.tuple #[.agg (getV D).toArray, .bool (decide (y = 0))]) ∧ Below u.heap.size u u') := Lib.hid fun u b h => by
        have := rec_get_any b TD u h.tab h.lt (by rw [← hTD, str_size, HDL.out]; omega)
        rw [← hTD, str_list, g1] at this
        rw [← hTD]
        exact this
      have HCV : Hid (∀ u g cap, Bytes u g D → (convert 58 9 (.slice (some ⟨g, 0, none⟩) 16 cap)).run Try.prog u = .ok (.string TD) u) := Lib.hid fun u g cap h => by rw [← hTD]; exact h.conv HDL.out
      have hxm : (x.toNat : Int) % 16 = (i : Int) := by omega
      have hxt : (x.toNat : Int).tmod 16 = (i : Int) := by rw [Int.tmod_eq_emod_of_nonneg (by omega)]; exact hxm
      have HX : Hid (∀ c : UInt8, P.getD i 0 = c → bits .xor .u8 (c.toNat : Int) (y.toNat : Int) = (z.toNat : Int)) := Lib.hid fun c hc => by
        rw [← hz, hc, u8_xor_nat _ _ (by have := c.toNat_lt; omega) (by have := y.toNat_lt; omega), UInt8.toNat_xor]
      obtain ⟨V, hV⟩ : ∃ V, rcv k s n v = V := ⟨_, rfl⟩
      obtain ⟨V2, hV2⟩ : ∃ V, rcv k2 s2 n2 v2 = V := ⟨_, rfl⟩
      have LV : Hid (V.length = 4) := Lib.hid (by rw [← hV]; rfl)
      have LV2 : Hid (V2.length = 4) := Lib.hid (by rw [← hV2]; rfl)
      obtain ⟨W, hW⟩ : ∃ W, getV D = W := ⟨_, rfl⟩
      have LW : Hid (W.length = 4) := Lib.hid (by rw [← hW]; obtain ⟨a, b, c, d, e⟩ := getV_form D; rw [e]; rfl)
      have W1 : Hid (W.all (·.oneCell') = true) := Lib.hid (by rw [← hW]; obtain ⟨a, b, c, d, e⟩ := getV_form D; rw [e]; rfl)
      have HWY : Hid (y = 0 → W = V) := Lib.hid fun h => by rw [← hW, g2 h, hV]
      rw [hV] at HP1 HR1 HEQ12 HEQ11 ⊢
      rw [hV2] at HP2 HR2 HEQ12 ⊢
      rw [hW] at HG
      obtain ⟨c, hc⟩ : ∃ c, P.getD i 0 = c := ⟨_, rfl⟩
      have hxor := HX.out c hc
      have HCC : Hid (∀ h : i < P.length, P[i] = c) := Lib.hid fun h => by rw [← hc, List.getD_eq_getElem?_getD, List.getElem?_eq_getElem h]; rfl
      have hxl : x.toNat < 256 := x.toNat_lt
      have hyl : y.toNat < 256 := y.toNat_lt
      have hcl : c.toNat < 256 := c.toNat_lt
      have hi0 : 0 ≤ (i : Int) := by omega
      have hi1 : (i : Int) < 16 := by omega
      clear hok1 hok2 hi hP hz hT1 hT2 hD hTD g1 g2 g3 lP hr hV hV2 hW hc HX HR1 HR2
      have hrr : (r == r) = true := beq_self_eq_true _
      go_enter Try.func6, Try.ntmps6
      go_wp2_with (first
        | ((with_reducible refine wpBoxK (w := w) (V) 23 ?_ ?_); rfl; intro u1 r_ b_ s_; have G_r : Hid (w.heap.size ≤ w.heap.size) := Lib.hid (Nat.le_refl _); have B_1 : Hid (Below w.heap.size w u1) := Lib.hid (b_); have Tr_1 := Lib.hid r_; clear r_ b_ s_)
        | ((with_reducible refine wpBoxK (w := u1) (V2) 23 ?_ ?_); rfl; intro u2 r_ b_ s_; have N_r_q : Hid (w.heap.size ≠ u1.heap.size) := Lib.hid (by have := Tr_1.out.lt; omega); have G_q : Hid (w.heap.size ≤ u1.heap.size) := Lib.hid (B_1.out.size); have Tr_2 := Lib.hid (Tr_1.out.step b_); have B_2 : Hid (Below w.heap.size w u2) := Lib.hid (B_1.out.next b_); have Tq_2 := Lib.hid r_; clear r_ b_ s_ Tr_1 B_1)
        | ((with_reducible refine wpBoxK (w := u2) ([Value.int .u8 (x.toNat : Int), Value.int .u8 (y.toNat : Int)]) 57 ?_ ?_); rfl; intro u3 r_ b_ s_; have N_r_t : Hid (w.heap.size ≠ u2.heap.size) := Lib.hid (by have := Tr_2.out.lt; omega); have N_q_t : Hid (u1.heap.size ≠ u2.heap.size) := Lib.hid (by have := Tq_2.out.lt; omega); have G_t : Hid (w.heap.size ≤ u2.heap.size) := Lib.hid (B_2.out.size); have Tr_3 := Lib.hid (Tr_2.out.step b_); have Tq_3 := Lib.hid (Tq_2.out.step b_); have B_3 : Hid (Below w.heap.size w u3) := Lib.hid (B_2.out.next b_); have Tt_3 := Lib.hid r_; clear r_ b_ s_ Tr_2 Tq_2 B_2)
        | (go_at_call 7; (with_reducible refine (rec_awake_any u3).mono ?_); rintro e u4 ⟨rfl, b_⟩; have Tr_4 := Lib.hid (Tr_3.out.step b_); have Tq_4 := Lib.hid (Tq_3.out.step b_); have Tt_4 := Lib.hid (Tt_3.out.step b_); have B_4 : Hid (Below w.heap.size w u4) := Lib.hid (B_3.out.next b_); clear b_ Tr_3 Tq_3 Tt_3 B_3)
        | (go_at_call 8; (with_reducible refine (tab_new u4).mono ?_); rintro e u5 ⟨bb, rfl, tt, b_⟩; have Tr_5 := Lib.hid (Tr_4.out.step b_); have Tq_5 := Lib.hid (Tq_4.out.step b_); have Tt_5 := Lib.hid (Tt_4.out.step b_); have B_5 : Hid (Below w.heap.size w u5) := Lib.hid (B_4.out.next b_); have Ttab_5 := Lib.hid tt; clear b_ Tr_4 Tq_4 Tt_4 B_4 tt)
        | ((with_reducible refine Tr_5.out.wpLoadK 23 fits_rec (LV.out) ?_ ?_); rfl)
        | (go_at_call 9; (with_reducible refine (HP1.out u5 bb Ttab_5.out).mono ?_); rintro e u6 ⟨rfl, b_⟩; have Tr_6 := Lib.hid (Tr_5.out.step b_); have Tq_6 := Lib.hid (Tq_5.out.step b_); have Tt_6 := Lib.hid (Tt_5.out.step b_); have Ttab_6 := Lib.hid (Ttab_5.out.step b_); have B_6 : Hid (Below w.heap.size w u6) := Lib.hid (B_5.out.next b_); clear b_ Tr_5 Tq_5 Tt_5 Ttab_5 B_5)
        | ((with_reducible refine Tq_6.out.wpLoadK 23 fits_rec (LV2.out) ?_ ?_); rfl)
        | (go_at_call 9; (with_reducible refine (HP2.out u6 bb Ttab_6.out).mono ?_); rintro e u7 ⟨rfl, b_⟩; have Tr_7 := Lib.hid (Tr_6.out.step b_); have Tq_7 := Lib.hid (Tq_6.out.step b_); have Tt_7 := Lib.hid (Tt_6.out.step b_); have Ttab_7 := Lib.hid (Ttab_6.out.step b_); have B_7 : Hid (Below w.heap.size w u7) := Lib.hid (B_6.out.next b_); obtain ⟨uc, cap, hconv, hrow, hbc⟩ := conv_new T1 u7; obtain ⟨g, hg⟩ : ∃ g, g = u7.heap.size := ⟨_, rfl⟩; rw [← hg] at hconv hrow; have HG0 := Lib.hid hg; have HROW := Lib.hid hrow; have HBC := Lib.hid hbc; clear hg hrow hbc; have c0 : uc.cell? ⟨u2.heap.size, 0, none⟩ = some (.int .u8 (x.toNat : Int)) := (Tt_7.out.step HBC.out).cell 0; have c1 : uc.cell? ⟨u2.heap.size, 1, none⟩ = some (.int .u8 (y.toNat : Int)) := (Tt_7.out.step HBC.out).cell 1; rw [HTP.out] at HROW; have hcell := HROW.out.cell i (by rw [HPL.out]; exact hi16); rw [HCC.out] at hcell; have hfz := HROW.out.frozen i (by rw [HPL.out]; exact hi16); clear b_ Tr_6 Tq_6 Tt_6 Ttab_6 B_6))
      have HO : Hid (Only g uc ((uc.setCell ⟨g, i, none⟩ (.int .u8 (z.toNat : Int))).drew)) := Lib.hid (((Only.refl g uc).drew).setCell _ _ (.inl rfl))
      have Nr : Hid (w.heap.size ≠ g) := Lib.hid (by have := Tr_7.out.lt; rw [HG0.out]; omega)
      have Nq : Hid (u1.heap.size ≠ g) := Lib.hid (by have := Tq_7.out.lt; rw [HG0.out]; omega)
      have Nt : Hid (u2.heap.size ≠ g) := Lib.hid (by have := Tt_7.out.lt; rw [HG0.out]; omega)
      have Ntab : Hid (bb ≠ g) := Lib.hid (by have := Ttab_7.out.lt; rw [HG0.out]; omega)
      have Sr := Lib.hid ((Tr_7.out.step HBC.out).only HO.out Nr.out)
      have Sq := Lib.hid ((Tq_7.out.step HBC.out).only HO.out Nq.out)
      have St := Lib.hid ((Tt_7.out.step HBC.out).only HO.out Nt.out)
      have Stab := Lib.hid ((Ttab_7.out.step HBC.out).only HO.out Ntab.out)
      have SB : Hid (Bytes ((uc.setCell ⟨g, i, none⟩ (.int .u8 (z.toNat : Int))).drew) g D) := Lib.hid (by have := HROW.out.drew.set i z (by rw [HPL.out]; exact hi16); rw [HSD.out] at this; exact this)
      have BB : Hid (Below w.heap.size w ((uc.setCell ⟨g, i, none⟩ (.int .u8 (z.toNat : Int))).drew)) := Lib.hid (((B_7.out.next HBC.out).drew).setCell (p := ⟨g, i, none⟩) (by rw [HG0.out]; exact B_7.out.size) _)
      obtain ⟨v0, HU⟩ : ∃ v0, Hid (v0 = (uc.setCell ⟨g, i, none⟩ (.int .u8 (z.toNat : Int))).drew) := ⟨_, Lib.hid rfl⟩
      rw [← HU.out] at Sr Sq St Stab SB BB
      have d1 : v0.cell? ⟨u2.heap.size, 1, none⟩ = some (.int .u8 (y.toNat : Int)) := St.out.cell 1
      clear HO HBC HROW Tr_7 Tq_7 Tt_7 Ttab_7 B_7
      have hcv := HCV.out v0 g cap SB.out
      go_still_tail 10, (by kernel_rfl)
      change wpList _ _ _ _ _ uc.drew
      go_wp2_with (rw [← HU.out])
      by_cases hy : y = 0
      · have heq := HEQ12.out
        have heq2 := HEQ11.out
        obtain rfl := HWY.out hy
        have hyz : (y.toNat : Int) = 0 := by rw [hy]; rfl
        have hyd : decide (y = 0) = true := by simpa using hy
        rw [hyd] at HG
        clear hy
        go_wp2_with (first
          | (go_at_call 12; (with_reducible refine (HG.out v0 bb Stab.out).mono ?_); rintro e v1 ⟨rfl, b_⟩; have Tr_1 := Lib.hid (Sr.out.step b_); have Tq_1 := Lib.hid (Sq.out.step b_); have Tt_1 := Lib.hid (St.out.step b_); have Ttab_1 := Lib.hid (Stab.out.step b_); have B_1 : Hid (Below w.heap.size w v1) := Lib.hid (BB.out.next b_); clear b_ Sr Sq St Stab BB)
          | ((with_reducible refine wpAllocK (w := v1) (rcv 0 0 0 0) 23 zero_rec ?_ ?_); rfl; intro v2 r_ b_ s_; have N_r_x : Hid (w.heap.size ≠ v1.heap.size) := Lib.hid (by have := Tr_1.out.lt; omega); have N_q_x : Hid (u1.heap.size ≠ v1.heap.size) := Lib.hid (by have := Tq_1.out.lt; omega); have N_t_x : Hid (u2.heap.size ≠ v1.heap.size) := Lib.hid (by have := Tt_1.out.lt; omega); have N_tab_x : Hid (bb ≠ v1.heap.size) := Lib.hid (by have := Ttab_1.out.lt; omega); have G_x : Hid (w.heap.size ≤ v1.heap.size) := Lib.hid (B_1.out.size); have Tr_2 := Lib.hid (Tr_1.out.step b_); have Tq_2 := Lib.hid (Tq_1.out.step b_); have Tt_2 := Lib.hid (Tt_1.out.step b_); have Ttab_2 := Lib.hid (Ttab_1.out.step b_); have B_2 : Hid (Below w.heap.size w v2) := Lib.hid (B_1.out.next b_); have Tx_2 := Lib.hid r_; clear r_ b_ s_ Tr_1 Tq_1 Tt_1 Ttab_1 B_1)
          | ((with_reducible refine Tx_2.out.wpStoreK 23 (W) fits_rec (rfl) (LW.out) (W1.out) ?_ ?_); rfl; intro v3 r_ o_ s_; have Tr_3 := Lib.hid (Tr_2.out.only o_ N_r_x.out); have Tq_3 := Lib.hid (Tq_2.out.only o_ N_q_x.out); have Tt_3 := Lib.hid (Tt_2.out.only o_ N_t_x.out); have Ttab_3 := Lib.hid (Ttab_2.out.only o_ N_tab_x.out); have Tx_3 := Lib.hid r_; have B_3 : Hid (Below w.heap.size w v3) := Lib.hid (B_2.out.trans (o_.below G_x.out B_2.out.size)); have d2 : v3.cell? ⟨u2.heap.size, 1, none⟩ = some (.int .u8 (y.toNat : Int)) := Tt_3.out.cell 1; clear r_ o_ s_ Tx_2 B_2 Tr_2 Tq_2 Tt_2 Ttab_2)
          | ((with_reducible refine Tr_3.out.wpLoadK 23 fits_rec (LV.out) ?_ ?_); rfl)
          | ((with_reducible refine Tq_3.out.wpLoadK 23 fits_rec (LV2.out) ?_ ?_); rfl)
          | ((with_reducible refine Tx_3.out.wpLoadG 23 fits_rec (LW.out) ?_ ?_); rfl)
          | ((with_reducible refine Tr_3.out.wpLoadG 23 fits_rec (LV.out) ?_ ?_); rfl))
        go_ret
        exact ⟨rfl, B_3.out⟩
      · have heq := HEQ12.out
        have hyd : decide (y = 0) = false := by simpa using hy
        have hyz : ((y.toNat : Int) == 0) = false := by
          have : y.toNat ≠ 0 := fun h => hy (UInt8.toNat_inj.1 h)
          simpa using (show ¬ (y.toNat : Int) = 0 by omega)
        rw [hyd] at HG
        clear hy
        go_wp2_with (first
          | (go_at_call 12; (with_reducible refine (HG.out v0 bb Stab.out).mono ?_); rintro e v1 ⟨rfl, b_⟩; have Tr_1 := Lib.hid (Sr.out.step b_); have Tq_1 := Lib.hid (Sq.out.step b_); have Tt_1 := Lib.hid (St.out.step b_); have Ttab_1 := Lib.hid (Stab.out.step b_); have B_1 : Hid (Below w.heap.size w v1) := Lib.hid (BB.out.next b_); clear b_ Sr Sq St Stab BB)
          | ((with_reducible refine wpAllocK (w := v1) (rcv 0 0 0 0) 23 zero_rec ?_ ?_); rfl; intro v2 r_ b_ s_; have N_r_x : Hid (w.heap.size ≠ v1.heap.size) := Lib.hid (by have := Tr_1.out.lt; omega); have N_q_x : Hid (u1.heap.size ≠ v1.heap.size) := Lib.hid (by have := Tq_1.out.lt; omega); have N_t_x : Hid (u2.heap.size ≠ v1.heap.size) := Lib.hid (by have := Tt_1.out.lt; omega); have N_tab_x : Hid (bb ≠ v1.heap.size) := Lib.hid (by have := Ttab_1.out.lt; omega); have G_x : Hid (w.heap.size ≤ v1.heap.size) := Lib.hid (B_1.out.size); have Tr_2 := Lib.hid (Tr_1.out.step b_); have Tq_2 := Lib.hid (Tq_1.out.step b_); have Tt_2 := Lib.hid (Tt_1.out.step b_); have Ttab_2 := Lib.hid (Ttab_1.out.step b_); have B_2 : Hid (Below w.heap.size w v2) := Lib.hid (B_1.out.next b_); have Tx_2 := Lib.hid r_; clear r_ b_ s_ Tr_1 Tq_1 Tt_1 Ttab_1 B_1)
          | ((with_reducible refine Tx_2.out.wpStoreK 23 (W) fits_rec (rfl) (LW.out) (W1.out) ?_ ?_); rfl; intro v3 r_ o_ s_; have Tr_3 := Lib.hid (Tr_2.out.only o_ N_r_x.out); have Tq_3 := Lib.hid (Tq_2.out.only o_ N_q_x.out); have Tt_3 := Lib.hid (Tt_2.out.only o_ N_t_x.out); have Ttab_3 := Lib.hid (Ttab_2.out.only o_ N_tab_x.out); have Tx_3 := Lib.hid r_; have B_3 : Hid (Below w.heap.size w v3) := Lib.hid (B_2.out.trans (o_.below G_x.out B_2.out.size)); have d2 : v3.cell? ⟨u2.heap.size, 1, none⟩ = some (.int .u8 (y.toNat : Int)) := Tt_3.out.cell 1; clear r_ o_ s_ Tx_2 B_2 Tr_2 Tq_2 Tt_2 Ttab_2)
          | ((with_reducible refine Tr_3.out.wpLoadK 23 fits_rec (LV.out) ?_ ?_); rfl)
          | ((with_reducible refine Tq_3.out.wpLoadK 23 fits_rec (LV2.out) ?_ ?_); rfl)
          | ((with_reducible refine Tx_3.out.wpLoadG 23 fits_rec (LW.out) ?_ ?_); rfl)
          | ((with_reducible refine Tr_3.out.wpLoadG 23 fits_rec (LV.out) ?_ ?_); rfl))
        go_ret
        exact ⟨rfl, B_3.out⟩
end Go.Proofs.Ytpeofjlecgenbaa
