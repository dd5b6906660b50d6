/- RecordTorn (gen_rec_j.py). -/
import Derived.Test.YtpeofjlecgenbaaRecI
import Derived.Test.YtpeofjlecgenbaaB2
namespace Go.Proofs.Ytpeofjlecgenbaa
open Go.RowKit CrcMath NumMath FlaMath
set_option linter.unusedVariables false
set_option maxRecDepth 100000

theorem TabAt.onl {w w' : World} {b : Nat} {S : List Nat} (h : TabAt w b) (ho : Onl S w w') (hne : b ∉ S) : TabAt w' b := by
  refine ⟨Nat.lt_of_lt_of_le h.lt ho.size, fun j hj => ?_⟩
  have h1 := h.tab j hj
  have h2 : w'.heap[b]? = w.heap[b]? := ho.2.2.2.2 b h.lt hne
  simp only [World.cell?, h2] at h1 ⊢
  exact h1
theorem and_full (x : UInt8) : (255 : UInt8) &&& x = x := by
  apply UInt8.toNat_inj.1
  rw [UInt8.toNat_and, Nat.and_comm, show (255 : UInt8).toNat = 2 ^ 8 - 1 from rfl, Nat.and_two_pow_sub_one_eq_mod, Nat.mod_eq_of_lt x.toNat_lt]
/-- What is left, behind power: its bytes up to some place, and blank ones behind it. -/
theorem left_page (fb : Int) (fm : UInt8) (l : List UInt8) (hl : l.length = 16) :
    ∃ (Q : List UInt8) (m : Nat), readS (programD ((D0 1).fuse 0 fb fm) 16 l).on 16 16 = Q ∧ readE (programD ((D0 1).fuse 0 fb fm) 16 l).on 16 16 = 0 ∧ Q.length = 16 ∧ (∀ i, i < m → i < 16 → Q.getD i 0 = l.getD i 0) ∧ (∀ i, m < i → i < 16 → Q.getD i 0 = 255) := by
  have hb := fuse_burns (D0 1) fb fm
  have hL : ((D0 1).fuse 0 fb fm).L = List.replicate 1 false := rfl
  have hdn : ((D0 1).fuse 0 fb fm).dn = false := rfl
  have hcl : ((D0 1).fuse 0 fb fm).C.length = 64 := by show (List.replicate 64 (255 : UInt8)).length = 64; simp
  have hB : programB ((D0 1).fuse 0 fb fm) 16 l = true := by rw [programB, hL, hdn, hcl, hl]; decide
  obtain ⟨r, hr, hC⟩ := workD_C ((D0 1).fuse 0 fb fm) 16 16 (fP l) (gP l ((D0 1).fuse 0 fb fm).fm)
  have hC3 : (programD ((D0 1).fuse 0 fb fm) 16 l).C = FlaMath.work (List.replicate 64 255) 16 16 r (fP l) (gP l fm) := by rw [programD, if_pos hB]; exact hC
  obtain ⟨C', hC'⟩ : ∃ C', (programD ((D0 1).fuse 0 fb fm) 16 l).C = C' := ⟨_, rfl⟩
  rw [hC'] at hC3
  have lC : C'.length = 64 := by rw [hC3, work_length]; simp
  have hE : readE (programD ((D0 1).fuse 0 fb fm) 16 l).on 16 16 = 0 := by
    have e : (programD ((D0 1).fuse 0 fb fm) 16 l).on.C = C' := hC'
    have e2 : (programD ((D0 1).fuse 0 fb fm) 16 l).on.dn = false := rfl
    rw [readE, e, e2, lC]
    decide
  have hS : readS (programD ((D0 1).fuse 0 fb fm) 16 l).on 16 16 = (C'.drop 16).take 16 := by
    have e : (programD ((D0 1).fuse 0 fb fm) 16 l).on.C = C' := hC'
    rw [readS, if_pos hE, e]
    rfl
  have hg : ∀ i, i < 16 → ((C'.drop 16).take 16).getD i 0 = C'.getD (16 + i) 0 := fun i hi => by
    rw [List.getD_eq_getElem?_getD, List.getElem?_take_of_lt hi, List.getElem?_drop, List.getD_eq_getElem?_getD]
  have h255 : ∀ j, j < 64 → (List.replicate 64 (255 : UInt8)).getD j 0 = 255 := fun j hj => by
    rw [List.getD_eq_getElem?_getD, List.getElem?_replicate, if_pos hj]; rfl
  refine ⟨_, r, hS, hE, by simp [lC], fun i h1 h2 => ?_, fun i h1 h2 => ?_⟩
  · rw [hg i h2, hC3, work_getD _ _ _ _ _ _ _ (by simp; omega), if_pos (by omega), h255 _ (by omega), fP, and_full]
    congr 1
    omega
  · rw [hg i h2, hC3, work_getD _ _ _ _ _ _ _ (by simp; omega), if_neg (by omega), if_neg (by omega), h255 _ (by omega)]

set_option maxHeartbeats 4000000 in
theorem recordTorn_walk (k s n v fb : Int) (fm : UInt8) (w : World) :
    Calls Try.prog 4 #[.agg (rcv k s n v).toArray, .agg #[.int .i64 fb, .int .u8 (fm.toNat : Int)]] w fun e w' => e = .returned (.bool true) ∧ Below w.heap.size w w' := by
  obtain ⟨ok1, hok1⟩ : ∃ x, rOk k s n v = x := ⟨_, rfl⟩
  cases ok1 with
  | false =>
    have HR1 : Hid (∀ u, Calls Try.prog 10 #[.agg (rcv k s n v).toArray] u fun e u' => e = .returned (.bool false) ∧ Below u.heap.size u u') := Lib.hid fun u => by rw [← hok1]; exact rref_right_any k s n v u
    have HP1 : Hid (∀ u b, TabAt u b → Calls Try.prog 9 #[.pointer (some ⟨b, 0, none⟩), .agg (rcv k s n v).toArray] u fun e u' => e = .returned (.tuple #[.string ByteArray.empty, .int .i64 1]) ∧ Below u.heap.size u u') := Lib.hid fun u b h => rec_put_no b k s n v u hok1
    obtain ⟨V, hV⟩ : ∃ V, rcv k s n v = V := ⟨_, rfl⟩
    have LV : Hid (V.length = 4) := Lib.hid (by rw [← hV]; rfl)
    rw [hV] at HP1 HR1 ⊢
    clear hok1 hV
    go_enter Try.func4, Try.ntmps4
    go_wp2_with (first
      | ((with_reducible refine wpBoxK (w := w) (V) 23 ?_ ?_); rfl; intro u1 r_ b_ s_; have G_r : Hid (w.heap.size ≤ w.heap.size) := Lib.hid (Nat.le_refl _); have B_1 : Hid (Below w.heap.size w u1) := Lib.hid (b_); have Tr_1 := Lib.hid r_; clear r_ b_ s_)
      | ((with_reducible refine wpBoxK (w := u1) ([Value.int .i64 fb, Value.int .u8 (fm.toNat : Int)]) 42 ?_ ?_); rfl; intro u2 r_ b_ s_; have N_r_t : Hid (w.heap.size ≠ u1.heap.size) := Lib.hid (by have := Tr_1.out.lt; omega); have G_t : Hid (w.heap.size ≤ u1.heap.size) := Lib.hid (B_1.out.size); have Tr_2 := Lib.hid (Tr_1.out.step b_); have B_2 : Hid (Below w.heap.size w u2) := Lib.hid (B_1.out.next b_); have Tt_2 := Lib.hid r_; clear r_ b_ s_ Tr_1 B_1)
      | (go_at_call 7; (with_reducible refine (rec_awake_any u2).mono ?_); rintro e u3 ⟨rfl, b_⟩; have Tr_3 := Lib.hid (Tr_2.out.step b_); have Tt_3 := Lib.hid (Tt_2.out.step b_); have B_3 : Hid (Below w.heap.size w u3) := Lib.hid (B_2.out.next b_); clear b_ Tr_2 Tt_2 B_2)
      | (go_at_call 8; (with_reducible refine (tab_new u3).mono ?_); rintro e u4 ⟨bb, rfl, tt, b_⟩; have Tr_4 := Lib.hid (Tr_3.out.step b_); have Tt_4 := Lib.hid (Tt_3.out.step b_); have B_4 : Hid (Below w.heap.size w u4) := Lib.hid (B_3.out.next b_); have Ttab_4 := Lib.hid tt; clear b_ Tr_3 Tt_3 B_3 tt)
      | ((with_reducible refine Tr_4.out.wpLoadK 23 fits_rec (LV.out) ?_ ?_); rfl)
      | (go_at_call 9; (with_reducible refine (HP1.out u4 bb Ttab_4.out).mono ?_); rintro e u5 ⟨rfl, b_⟩; have Tr_5 := Lib.hid (Tr_4.out.step b_); have Tt_5 := Lib.hid (Tt_4.out.step b_); have Ttab_5 := Lib.hid (Ttab_4.out.step b_); have B_5 : Hid (Below w.heap.size w u5) := Lib.hid (B_4.out.next b_); clear b_ Tr_4 Tt_4 Ttab_4 B_4)
      | ((with_reducible refine Tr_5.out.wpLoadK 23 fits_rec (LV.out) ?_ ?_); rfl)
      | (go_at_call 10; (with_reducible refine (HR1.out u5).mono ?_); rintro e u6 ⟨rfl, b_⟩; have Tr_6 := Lib.hid (Tr_5.out.step b_); have Tt_6 := Lib.hid (Tt_5.out.step b_); have Ttab_6 := Lib.hid (Ttab_5.out.step b_); have B_6 : Hid (Below w.heap.size w u6) := Lib.hid (B_5.out.next b_); clear b_ Tr_5 Tt_5 Ttab_5 B_5))
    go_ret
    exact ⟨rfl, B_6.out⟩
  | true =>
    have HNW : Hid (∀ u : World, Calls Try.prog 17 #[.int .i64 1] u fun e w' => ∃ s : Sh, e = .returned (.tuple #[.pointer (some ⟨s.b, 0, none⟩), .int .i64 0]) ∧ Dev w' s (D0 1) ∧ (∀ k ∈ s.S, u.heap.size ≤ k) ∧ Below u.heap.size u w') := Lib.hid fun u => flnew_any 1 u (by omega) (by omega)
    obtain ⟨P, hP⟩ : ∃ P, pageB k s n v = P := ⟨_, rfl⟩
    have lP : P.length = 16 := by rw [← hP, pageB_length]
    obtain ⟨Q, m, hQ, hQE, lQ, hm1, hm2⟩ := left_page fb fm P lP
    have HP1 : Hid (∀ u b, TabAt u b → Calls Try.prog 9 #[.pointer (some ⟨b, 0, none⟩), .agg (rcv k s n v).toArray] u fun e u' => e = .returned (.tuple #[.string (str (pageB k s n v)), .int .i64 0]) ∧ Below u.heap.size u u') := Lib.hid fun u b h => rec_put_yes b k s n v u h.tab h.lt hok1
    obtain ⟨T, hT⟩ : ∃ T, str P = T := ⟨_, rfl⟩
    obtain ⟨TQ, hTQ⟩ : ∃ T, str Q = T := ⟨_, rfl⟩
    have hTP : T.data.toList = P := by rw [← hT, str_list]
    have HPG : Hid (∀ u (S : Sh), Dev u S ((D0 1).fuse 0 fb fm) → Calls Try.prog 19 #[.pointer (some ⟨S.b, 0, none⟩), .int .i64 16, .string T] u fun e w' => e = .returned (.int .i64 (programE ((D0 1).fuse 0 fb fm) 16 P)) ∧ Dev w' S (programD ((D0 1).fuse 0 fb fm) 16 P) ∧ Onl S.S u w') := Lib.hid fun u S h => by
      have := program_any S _ 16 T u h (by omega) (by rw [← hT, str_size, lP]; omega)
      rw [hTP] at this
      exact this
    have HRD : Hid (∀ u (S : Sh), Dev u S (programD ((D0 1).fuse 0 fb fm) 16 P).on → Calls Try.prog 21 #[.pointer (some ⟨S.b, 0, none⟩), .int .i64 16, .int .i64 16] u fun e w' => e = .returned (.tuple #[.string TQ, .int .i64 0]) ∧ Dev w' S ((programD ((D0 1).fuse 0 fb fm) 16 P).on.readD 16 16 (wrap64 ((programD ((D0 1).fuse 0 fb fm) 16 P).on.ops + 1))) ∧ Onl S.S u w') := Lib.hid fun u S h => by
      have := read_any S _ 16 16 u h (by omega)
      rw [hQ, hQE, hTQ] at this
      exact this
    obtain ⟨q, hq⟩ : ∃ q, isP Q = q := ⟨_, rfl⟩
    have HG : Hid (∀ u b, TabAt u b → Calls Try.prog 12 #[.pointer (some ⟨b, 0, none⟩), .string TQ] u fun e u' => e = .returned (.tuple #[.agg (getV Q).toArray, .bool q]) ∧ Below u.heap.size u u') := Lib.hid fun u b h => by
      have := rec_get_any b TQ u h.tab h.lt (by rw [← hTQ, str_size, lQ]; omega)
      rw [← hTQ, str_list, hq] at this
      rw [← hTQ]
      exact this
    have HYES : Hid (Q = P → q = true ∧ getV Q = rcv k s n v) := Lib.hid fun h => by
      rw [h, ← hP] at hq
      obtain ⟨e1, e2, e3, e4⟩ := p_page hok1
      refine ⟨by rw [← hq, page_is hok1], ?_⟩
      rw [h, ← hP, getV, page_is hok1, if_pos rfl, e1, e2, e3, e4]
    have HNO : Hid (Q ≠ P → q = false) := Lib.hid fun h => by
      cases q with
      | false => rfl
      | true => exact absurd (by rw [← hP] at hm1 ⊢; exact torn_page hok1 lQ m hm1 hm2 hq) h
    have HEQ : Hid (∀ u : World, (Op.equalIn 10000 23 (.agg (rcv k s n v).toArray) (.agg (rcv k s n v).toArray)).run Try.prog u = .ok true u) := Lib.hid fun u => eq_rec_any _ _ _ _ _ _ _ _ true (by simp) u
    have HTT : Hid (Q = P → (TQ.toList == T.toList) = true) := Lib.hid fun h => beq_yes (by rw [← hT, ← hTQ, h])
    have HTN : Hid (Q ≠ P → (TQ.toList == T.toList) = false) := Lib.hid fun h => beq_no fun e => h (str_inj (by rw [hTQ, hT, e]))
    rw [hP, hT] at HP1
    obtain ⟨V, hV⟩ : ∃ V, rcv k s n v = V := ⟨_, rfl⟩
    have LV : Hid (V.length = 4) := Lib.hid (by rw [← hV]; rfl)
    obtain ⟨W, hW⟩ : ∃ W, getV Q = W := ⟨_, rfl⟩
    have LW : Hid (W.length = 4) := Lib.hid (by rw [← hW]; obtain ⟨a, b, c, d, e⟩ := getV_form Q; rw [e]; rfl)
    have W1 : Hid (W.all (·.oneCell') = true) := Lib.hid (by rw [← hW]; obtain ⟨a, b, c, d, e⟩ := getV_form Q; rw [e]; rfl)
    rw [hV] at HP1 HYES HEQ ⊢
    rw [hW] at HG HYES
    have hzT : T.size = 16 := by rw [← hT, str_size, lP]
    clear hok1 hP lP hQ hQE lQ hm1 hm2 hT hTQ hTP hq hV hW hzT
    by_cases hQP : Q = P
    · obtain ⟨rfl, hWV⟩ := HYES.out hQP
      obtain rfl := hWV.symm
      have heq := HEQ.out
      have htt := HTT.out hQP
      clear hQP HYES HNO HEQ HTT HTN
      go_enter Try.func4, Try.ntmps4
      go_wp2_with (first
        | ((with_reducible refine wpBoxK (w := w) (V) 23 ?_ ?_); rfl; intro u1 r_ b_ s_; have G_r : Hid (w.heap.size ≤ w.heap.size) := Lib.hid (Nat.le_refl _); have B_1 : Hid (Below w.heap.size w u1) := Lib.hid (b_); have Tr_1 := Lib.hid r_; clear r_ b_ s_)
        | ((with_reducible refine wpBoxK (w := u1) ([Value.int .i64 fb, Value.int .u8 (fm.toNat : Int)]) 42 ?_ ?_); rfl; intro u2 r_ b_ s_; have N_r_t : Hid (w.heap.size ≠ u1.heap.size) := Lib.hid (by have := Tr_1.out.lt; omega); have G_t : Hid (w.heap.size ≤ u1.heap.size) := Lib.hid (B_1.out.size); have Tr_2 := Lib.hid (Tr_1.out.step b_); have B_2 : Hid (Below w.heap.size w u2) := Lib.hid (B_1.out.next b_); have Tt_2 := Lib.hid r_; clear r_ b_ s_ Tr_1 B_1)
        | (go_at_call 7; (with_reducible refine (rec_awake_any u2).mono ?_); rintro e u3 ⟨rfl, b_⟩; have Tr_3 := Lib.hid (Tr_2.out.step b_); have Tt_3 := Lib.hid (Tt_2.out.step b_); have B_3 : Hid (Below w.heap.size w u3) := Lib.hid (B_2.out.next b_); clear b_ Tr_2 Tt_2 B_2)
        | (go_at_call 8; (with_reducible refine (tab_new u3).mono ?_); rintro e u4 ⟨bb, rfl, tt, b_⟩; have Tr_4 := Lib.hid (Tr_3.out.step b_); have Tt_4 := Lib.hid (Tt_3.out.step b_); have B_4 : Hid (Below w.heap.size w u4) := Lib.hid (B_3.out.next b_); have Ttab_4 := Lib.hid tt; clear b_ Tr_3 Tt_3 B_3 tt)
        | ((with_reducible refine Tr_4.out.wpLoadK 23 fits_rec (LV.out) ?_ ?_); rfl)
        | (go_at_call 9; (with_reducible refine (HP1.out u4 bb Ttab_4.out).mono ?_); rintro e u5 ⟨rfl, b_⟩; have Tr_5 := Lib.hid (Tr_4.out.step b_); have Tt_5 := Lib.hid (Tt_4.out.step b_); have Ttab_5 := Lib.hid (Ttab_4.out.step b_); have B_5 : Hid (Below w.heap.size w u5) := Lib.hid (B_4.out.next b_); clear b_ Tr_4 Tt_4 Ttab_4 B_4)
        | (go_at_call 17; (with_reducible refine (HNW.out u5).mono ?_); rintro e u6 ⟨S, rfl, hd_, hge, b_⟩; have NS_d_r : Hid (w.heap.size ∉ S.S) := Lib.hid (fun h => by have := hge _ h; have := Tr_5.out.lt; omega); have NS_d_t : Hid (u1.heap.size ∉ S.S) := Lib.hid (fun h => by have := hge _ h; have := Tt_5.out.lt; omega); have NS_d_tab : Hid (bb ∉ S.S) := Lib.hid (fun h => by have := hge _ h; have := Ttab_5.out.lt; omega); have GS_d : Hid (∀ k ∈ S.S, w.heap.size ≤ k) := Lib.hid (fun k hk => Nat.le_trans B_5.out.size (hge k hk)); have Tr_6 := Lib.hid (Tr_5.out.step b_); have Tt_6 := Lib.hid (Tt_5.out.step b_); have Ttab_6 := Lib.hid (Ttab_5.out.step b_); have B_6 : Hid (Below w.heap.size w u6) := Lib.hid (B_5.out.next b_); have Td_6 := Lib.hid hd_; clear b_ Tr_5 Tt_5 Ttab_5 B_5 hd_ hge)
        | ((with_reducible refine Tt_6.out.wpLoadK 42 fits_torn (rfl) ?_ ?_); rfl)
        | (go_at_call 18; (with_reducible refine (fuse_any S _ 0 fb fm u6 Td_6.out).mono ?_); rintro e u7 ⟨rfl, hd_, o_⟩; have Tr_7 := Lib.hid (Tr_6.out.onl o_ NS_d_r.out); have Tt_7 := Lib.hid (Tt_6.out.onl o_ NS_d_t.out); have Ttab_7 := Lib.hid (Ttab_6.out.onl o_ NS_d_tab.out); have Td_7 := Lib.hid hd_; have B_7 : Hid (Below w.heap.size w u7) := Lib.hid (B_6.out.trans (o_.below GS_d.out B_6.out.size)); clear hd_ o_ Tr_6 Tt_6 Ttab_6 Td_6 B_6)
        | (go_at_call 19; (with_reducible refine (HPG.out u7 S Td_7.out).mono ?_); rintro e u8 ⟨rfl, hd_, o_⟩; have Tr_8 := Lib.hid (Tr_7.out.onl o_ NS_d_r.out); have Tt_8 := Lib.hid (Tt_7.out.onl o_ NS_d_t.out); have Ttab_8 := Lib.hid (Ttab_7.out.onl o_ NS_d_tab.out); have Td_8 := Lib.hid hd_; have B_8 : Hid (Below w.heap.size w u8) := Lib.hid (B_7.out.trans (o_.below GS_d.out B_7.out.size)); clear hd_ o_ Tr_7 Tt_7 Ttab_7 Td_7 B_7)
        | (go_at_call 20; (with_reducible refine (poweron_any S _ u8 Td_8.out).mono ?_); rintro e u9 ⟨rfl, hd_, o_⟩; have Tr_9 := Lib.hid (Tr_8.out.onl o_ NS_d_r.out); have Tt_9 := Lib.hid (Tt_8.out.onl o_ NS_d_t.out); have Ttab_9 := Lib.hid (Ttab_8.out.onl o_ NS_d_tab.out); have Td_9 := Lib.hid hd_; have B_9 : Hid (Below w.heap.size w u9) := Lib.hid (B_8.out.trans (o_.below GS_d.out B_8.out.size)); clear hd_ o_ Tr_8 Tt_8 Ttab_8 Td_8 B_8)
        | (go_at_call 21; (with_reducible refine (HRD.out u9 S Td_9.out).mono ?_); rintro e u10 ⟨rfl, hd_, o_⟩; have Tr_10 := Lib.hid (Tr_9.out.onl o_ NS_d_r.out); have Tt_10 := Lib.hid (Tt_9.out.onl o_ NS_d_t.out); have Ttab_10 := Lib.hid (Ttab_9.out.onl o_ NS_d_tab.out); have Td_10 := Lib.hid hd_; have B_10 : Hid (Below w.heap.size w u10) := Lib.hid (B_9.out.trans (o_.below GS_d.out B_9.out.size)); clear hd_ o_ Tr_9 Tt_9 Ttab_9 Td_9 B_9)
        | (go_at_call 12; (with_reducible refine (HG.out u10 bb Ttab_10.out).mono ?_); rintro e u11 ⟨rfl, b_⟩; have Tr_11 := Lib.hid (Tr_10.out.step b_); have Tt_11 := Lib.hid (Tt_10.out.step b_); have Ttab_11 := Lib.hid (Ttab_10.out.step b_); have B_11 : Hid (Below w.heap.size w u11) := Lib.hid (B_10.out.next b_); clear b_ Tr_10 Tt_10 Ttab_10 B_10)
        | ((with_reducible refine wpAllocK (w := u11) (rcv 0 0 0 0) 23 zero_rec ?_ ?_); rfl; intro u12 r_ b_ s_; have N_r_x : Hid (w.heap.size ≠ u11.heap.size) := Lib.hid (by have := Tr_11.out.lt; omega); have N_t_x : Hid (u1.heap.size ≠ u11.heap.size) := Lib.hid (by have := Tt_11.out.lt; omega); have N_tab_x : Hid (bb ≠ u11.heap.size) := Lib.hid (by have := Ttab_11.out.lt; omega); have G_x : Hid (w.heap.size ≤ u11.heap.size) := Lib.hid (B_11.out.size); have Tr_12 := Lib.hid (Tr_11.out.step b_); have Tt_12 := Lib.hid (Tt_11.out.step b_); have Ttab_12 := Lib.hid (Ttab_11.out.step b_); have B_12 : Hid (Below w.heap.size w u12) := Lib.hid (B_11.out.next b_); have Tx_12 := Lib.hid r_; clear r_ b_ s_ Tr_11 Tt_11 Ttab_11 B_11)
        | ((with_reducible refine Tx_12.out.wpStoreK 23 (V) fits_rec (rfl) (LW.out) (W1.out) ?_ ?_); rfl; intro u13 r_ o_ s_; have Tr_13 := Lib.hid (Tr_12.out.only o_ N_r_x.out); have Tt_13 := Lib.hid (Tt_12.out.only o_ N_t_x.out); have Ttab_13 := Lib.hid (Ttab_12.out.only o_ N_tab_x.out); have Tx_13 := Lib.hid r_; have B_13 : Hid (Below w.heap.size w u13) := Lib.hid (B_12.out.trans (o_.below G_x.out B_12.out.size)); clear r_ o_ s_ Tx_12 B_12 Tr_12 Tt_12 Ttab_12)
        | ((with_reducible refine Tx_13.out.wpLoadG 23 fits_rec (LW.out) ?_ ?_); rfl)
        | ((with_reducible refine Tr_13.out.wpLoadG 23 fits_rec (LV.out) ?_ ?_); rfl))
      go_ret
      exact ⟨rfl, B_13.out⟩
    · obtain rfl := HNO.out hQP
      have htt := HTN.out hQP
      clear hQP HYES HNO HEQ HTT HTN
      go_enter Try.func4, Try.ntmps4
      go_wp2_with (first
        | ((with_reducible refine wpBoxK (w := w) (V) 23 ?_ ?_); rfl; intro u1 r_ b_ s_; have G_r : Hid (w.heap.size ≤ w.heap.size) := Lib.hid (Nat.le_refl _); have B_1 : Hid (Below w.heap.size w u1) := Lib.hid (b_); have Tr_1 := Lib.hid r_; clear r_ b_ s_)
        | ((with_reducible refine wpBoxK (w := u1) ([Value.int .i64 fb, Value.int .u8 (fm.toNat : Int)]) 42 ?_ ?_); rfl; intro u2 r_ b_ s_; have N_r_t : Hid (w.heap.size ≠ u1.heap.size) := Lib.hid (by have := Tr_1.out.lt; omega); have G_t : Hid (w.heap.size ≤ u1.heap.size) := Lib.hid (B_1.out.size); have Tr_2 := Lib.hid (Tr_1.out.step b_); have B_2 : Hid (Below w.heap.size w u2) := Lib.hid (B_1.out.next b_); have Tt_2 := Lib.hid r_; clear r_ b_ s_ Tr_1 B_1)
        | (go_at_call 7; (with_reducible refine (rec_awake_any u2).mono ?_); rintro e u3 ⟨rfl, b_⟩; have Tr_3 := Lib.hid (Tr_2.out.step b_); have Tt_3 := Lib.hid (Tt_2.out.step b_); have B_3 : Hid (Below w.heap.size w u3) := Lib.hid (B_2.out.next b_); clear b_ Tr_2 Tt_2 B_2)
        | (go_at_call 8; (with_reducible refine (tab_new u3).mono ?_); rintro e u4 ⟨bb, rfl, tt, b_⟩; have Tr_4 := Lib.hid (Tr_3.out.step b_); have Tt_4 := Lib.hid (Tt_3.out.step b_); have B_4 : Hid (Below w.heap.size w u4) := Lib.hid (B_3.out.next b_); have Ttab_4 := Lib.hid tt; clear b_ Tr_3 Tt_3 B_3 tt)
        | ((with_reducible refine Tr_4.out.wpLoadK 23 fits_rec (LV.out) ?_ ?_); rfl)
        | (go_at_call 9; (with_reducible refine (HP1.out u4 bb Ttab_4.out).mono ?_); rintro e u5 ⟨rfl, b_⟩; have Tr_5 := Lib.hid (Tr_4.out.step b_); have Tt_5 := Lib.hid (Tt_4.out.step b_); have Ttab_5 := Lib.hid (Ttab_4.out.step b_); have B_5 : Hid (Below w.heap.size w u5) := Lib.hid (B_4.out.next b_); clear b_ Tr_4 Tt_4 Ttab_4 B_4)
        | (go_at_call 17; (with_reducible refine (HNW.out u5).mono ?_); rintro e u6 ⟨S, rfl, hd_, hge, b_⟩; have NS_d_r : Hid (w.heap.size ∉ S.S) := Lib.hid (fun h => by have := hge _ h; have := Tr_5.out.lt; omega); have NS_d_t : Hid (u1.heap.size ∉ S.S) := Lib.hid (fun h => by have := hge _ h; have := Tt_5.out.lt; omega); have NS_d_tab : Hid (bb ∉ S.S) := Lib.hid (fun h => by have := hge _ h; have := Ttab_5.out.lt; omega); have GS_d : Hid (∀ k ∈ S.S, w.heap.size ≤ k) := Lib.hid (fun k hk => Nat.le_trans B_5.out.size (hge k hk)); have Tr_6 := Lib.hid (Tr_5.out.step b_); have Tt_6 := Lib.hid (Tt_5.out.step b_); have Ttab_6 := Lib.hid (Ttab_5.out.step b_); have B_6 : Hid (Below w.heap.size w u6) := Lib.hid (B_5.out.next b_); have Td_6 := Lib.hid hd_; clear b_ Tr_5 Tt_5 Ttab_5 B_5 hd_ hge)
        | ((with_reducible refine Tt_6.out.wpLoadK 42 fits_torn (rfl) ?_ ?_); rfl)
        | (go_at_call 18; (with_reducible refine (fuse_any S _ 0 fb fm u6 Td_6.out).mono ?_); rintro e u7 ⟨rfl, hd_, o_⟩; have Tr_7 := Lib.hid (Tr_6.out.onl o_ NS_d_r.out); have Tt_7 := Lib.hid (Tt_6.out.onl o_ NS_d_t.out); have Ttab_7 := Lib.hid (Ttab_6.out.onl o_ NS_d_tab.out); have Td_7 := Lib.hid hd_; have B_7 : Hid (Below w.heap.size w u7) := Lib.hid (B_6.out.trans (o_.below GS_d.out B_6.out.size)); clear hd_ o_ Tr_6 Tt_6 Ttab_6 Td_6 B_6)
        | (go_at_call 19; (with_reducible refine (HPG.out u7 S Td_7.out).mono ?_); rintro e u8 ⟨rfl, hd_, o_⟩; have Tr_8 := Lib.hid (Tr_7.out.onl o_ NS_d_r.out); have Tt_8 := Lib.hid (Tt_7.out.onl o_ NS_d_t.out); have Ttab_8 := Lib.hid (Ttab_7.out.onl o_ NS_d_tab.out); have Td_8 := Lib.hid hd_; have B_8 : Hid (Below w.heap.size w u8) := Lib.hid (B_7.out.trans (o_.below GS_d.out B_7.out.size)); clear hd_ o_ Tr_7 Tt_7 Ttab_7 Td_7 B_7)
        | (go_at_call 20; (with_reducible refine (poweron_any S _ u8 Td_8.out).mono ?_); rintro e u9 ⟨rfl, hd_, o_⟩; have Tr_9 := Lib.hid (Tr_8.out.onl o_ NS_d_r.out); have Tt_9 := Lib.hid (Tt_8.out.onl o_ NS_d_t.out); have Ttab_9 := Lib.hid (Ttab_8.out.onl o_ NS_d_tab.out); have Td_9 := Lib.hid hd_; have B_9 : Hid (Below w.heap.size w u9) := Lib.hid (B_8.out.trans (o_.below GS_d.out B_8.out.size)); clear hd_ o_ Tr_8 Tt_8 Ttab_8 Td_8 B_8)
        | (go_at_call 21; (with_reducible refine (HRD.out u9 S Td_9.out).mono ?_); rintro e u10 ⟨rfl, hd_, o_⟩; have Tr_10 := Lib.hid (Tr_9.out.onl o_ NS_d_r.out); have Tt_10 := Lib.hid (Tt_9.out.onl o_ NS_d_t.out); have Ttab_10 := Lib.hid (Ttab_9.out.onl o_ NS_d_tab.out); have Td_10 := Lib.hid hd_; have B_10 : Hid (Below w.heap.size w u10) := Lib.hid (B_9.out.trans (o_.below GS_d.out B_9.out.size)); clear hd_ o_ Tr_9 Tt_9 Ttab_9 Td_9 B_9)
        | (go_at_call 12; (with_reducible refine (HG.out u10 bb Ttab_10.out).mono ?_); rintro e u11 ⟨rfl, b_⟩; have Tr_11 := Lib.hid (Tr_10.out.step b_); have Tt_11 := Lib.hid (Tt_10.out.step b_); have Ttab_11 := Lib.hid (Ttab_10.out.step b_); have B_11 : Hid (Below w.heap.size w u11) := Lib.hid (B_10.out.next b_); clear b_ Tr_10 Tt_10 Ttab_10 B_10)
        | ((with_reducible refine wpAllocK (w := u11) (rcv 0 0 0 0) 23 zero_rec ?_ ?_); rfl; intro u12 r_ b_ s_; have N_r_x : Hid (w.heap.size ≠ u11.heap.size) := Lib.hid (by have := Tr_11.out.lt; omega); have N_t_x : Hid (u1.heap.size ≠ u11.heap.size) := Lib.hid (by have := Tt_11.out.lt; omega); have N_tab_x : Hid (bb ≠ u11.heap.size) := Lib.hid (by have := Ttab_11.out.lt; omega); have G_x : Hid (w.heap.size ≤ u11.heap.size) := Lib.hid (B_11.out.size); have Tr_12 := Lib.hid (Tr_11.out.step b_); have Tt_12 := Lib.hid (Tt_11.out.step b_); have Ttab_12 := Lib.hid (Ttab_11.out.step b_); have B_12 : Hid (Below w.heap.size w u12) := Lib.hid (B_11.out.next b_); have Tx_12 := Lib.hid r_; clear r_ b_ s_ Tr_11 Tt_11 Ttab_11 B_11)
        | ((with_reducible refine Tx_12.out.wpStoreK 23 (W) fits_rec (rfl) (LW.out) (W1.out) ?_ ?_); rfl; intro u13 r_ o_ s_; have Tr_13 := Lib.hid (Tr_12.out.only o_ N_r_x.out); have Tt_13 := Lib.hid (Tt_12.out.only o_ N_t_x.out); have Ttab_13 := Lib.hid (Ttab_12.out.only o_ N_tab_x.out); have Tx_13 := Lib.hid r_; have B_13 : Hid (Below w.heap.size w u13) := Lib.hid (B_12.out.trans (o_.below G_x.out B_12.out.size)); clear r_ o_ s_ Tx_12 B_12 Tr_12 Tt_12 Ttab_12)
        | ((with_reducible refine Tx_13.out.wpLoadG 23 fits_rec (LW.out) ?_ ?_); rfl)
        | ((with_reducible refine Tr_13.out.wpLoadG 23 fits_rec (LV.out) ?_ ?_); rfl))
      go_ret
      exact ⟨rfl, B_13.out⟩
end Go.Proofs.Ytpeofjlecgenbaa
