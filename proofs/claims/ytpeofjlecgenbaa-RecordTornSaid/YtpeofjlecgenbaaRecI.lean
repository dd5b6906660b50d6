/- RecordPuts (gen_rec_i.py). -/
import Derived.Test.YtpeofjlecgenbaaRecD
import Derived.Test.YtpeofjlecgenbaaRecH
import Derived.Test.YtpeofjlecgenbaaEq
namespace Go.Proofs.Ytpeofjlecgenbaa
open Go.RowKit CrcMath NumMath
set_option linter.unusedVariables false
set_option maxRecDepth 100000

/-- A summer's table, in a block. -/
structure TabAt (w : World) (b : Nat) : Prop where
  lt : b < w.heap.size
  tab : Tab w b 0
theorem TabAt.step {w w' : World} {b : Nat} (h : TabAt w b) (hb : Below w.heap.size w w') : TabAt w' b := ⟨Nat.lt_of_lt_of_le h.lt hb.size, h.tab.below hb h.lt⟩
theorem TabAt.only {w w' : World} {b g : Nat} (h : TabAt w b) (ho : Only g w w') (hne : b ≠ g) : TabAt w' b := by
  refine ⟨Nat.lt_of_lt_of_le h.lt ho.size, fun j hj => ?_⟩
  have h1 := h.tab j hj
  have h2 : w'.heap[b]? = w.heap[b]? := ho.2.2.2.2 b h.lt hne
  simp only [World.cell?, h2] at h1 ⊢
  exact h1
theorem tab_new (w : World) : Calls Try.prog 8 #[] w fun e w' => ∃ b, e = .returned (.pointer (some ⟨b, 0, none⟩)) ∧ TabAt w' b ∧ Below w.heap.size w w' :=
  (crc_new_any w).mono fun e w' ⟨b, h1, h2, h3, h4⟩ => ⟨b, h1, ⟨h2, h3⟩, h4⟩
theorem rec_iagg : ∀ w : World, (isAgg 3).run Try.prog w = .ok false w := fun w => Try.isAgg3 w
theorem four_fields {l : List Field} (h : l.map (fun f => (f.name, f.type, f.offset)) = [("Kind", 3, 0), ("Slot", 3, 1), ("No", 3, 2), ("Value", 3, 3)]) : ∃ f0 f1 f2 f3 : Field, l = [f0, f1, f2, f3] ∧ (f0.name ≠ "_" ∧ f1.name ≠ "_" ∧ f2.name ≠ "_" ∧ f3.name ≠ "_") ∧ (f0.type = 3 ∧ f1.type = 3 ∧ f2.type = 3 ∧ f3.type = 3) ∧ f0.offset = 0 ∧ f1.offset = 1 ∧ f2.offset = 2 ∧ f3.offset = 3 := by
  have hl : l.length = 4 := by simpa using congrArg List.length h
  match l, hl, h with
  | [f0, f1, f2, f3], _, h =>
    simp only [List.map_cons, List.map_nil, List.cons.injEq, Prod.mk.injEq, and_true] at h
    obtain ⟨⟨a1, a2, a3⟩, ⟨b1, b2, b3⟩, ⟨c1, c2, c3⟩, d1, d2, d3⟩ := h
    exact ⟨f0, f1, f2, f3, rfl, ⟨by rw [a1]; simp, by rw [b1]; simp, by rw [c1]; simp, by rw [d1]; simp⟩, ⟨a2, b2, c2, d2⟩, a3, b3, c3, d3⟩
theorem four_ints (t : TypeId) (hst : Try.prog.underlying t = some (.struct (Try.prog.fieldsOf t))) (hp : Try.prog.stoodInHeld t = false) (h : (Try.prog.fieldsOf t).toList.map (fun f => (f.name, f.type, f.offset)) = [("Kind", 3, 0), ("Slot", 3, 1), ("No", 3, 2), ("Value", 3, 3)])
    (a b c d a' b' c' d' : Int) (u : World) : (Op.equalIn 10000 t (.agg (rcv a b c d).toArray) (.agg (rcv a' b' c' d').toArray)).run Try.prog u = .ok (decide (a = a' ∧ b = b' ∧ c = c' ∧ d = d')) u := by
  refine (run_equalIn_struct u 9999 t _ _ hst hp).trans ?_
  obtain ⟨f0, f1, f2, f3, hf, ⟨n0, n1, n2, n3⟩, ⟨t0, t1, t2, t3⟩, o0, o1, o2, o3⟩ := four_fields h
  rw [hf]
  have p0 : ∀ k s n v : Int, (part 3 (rcv k s n v).toArray 0).run Try.prog u = .ok (.int .i64 k) u := fun k s n v => run_part_int rec_iagg _ 0 _ (by rfl) u
  have p1 : ∀ k s n v : Int, (part 3 (rcv k s n v).toArray 1).run Try.prog u = .ok (.int .i64 s) u := fun k s n v => run_part_int rec_iagg _ 1 _ (by rfl) u
  have p2 : ∀ k s n v : Int, (part 3 (rcv k s n v).toArray 2).run Try.prog u = .ok (.int .i64 n) u := fun k s n v => run_part_int rec_iagg _ 2 _ (by rfl) u
  have p3 : ∀ k s n v : Int, (part 3 (rcv k s n v).toArray 3).run Try.prog u = .ok (.int .i64 v) u := fun k s n v => run_part_int rec_iagg _ 3 _ (by rfl) u
  have e0 : ∀ x y : Int, (Op.equalIn 9999 3 (.int .i64 x) (.int .i64 y)).run Try.prog u = .ok (x == y) u := fun x y => run_equalIn_int u 9998 3 .i64 .i64 x y Try.underlying3
  generalize 9999 = D at *
  simp only [Op.eqFields, n0, n1, n2, n3, ne_eq, not_false_eq_true, if_true, t0, t1, t2, t3, o0, o1, o2, o3, Sem.run_bind, p0, Result.andThen_ok, e0]
  by_cases h0 : a = a'
  · by_cases h1 : b = b'
    · by_cases h2 : c = c'
      · by_cases h3 : d = d' <;> simp [h0, h1, h2, h3, p1, p2, p3, e0]
      · simp [h0, h1, h2, p1, p2, e0]
    · simp [h0, h1, p1, e0]
  · simp [h0]
theorem eq_rec_any (a b c d a' b' c' d' : Int) (r : Bool) (h : decide (a = a' ∧ b = b' ∧ c = c' ∧ d = d') = r) (u : World) : (Op.equalIn 10000 23 (.agg (rcv a b c d).toArray) (.agg (rcv a' b' c' d').toArray)).run Try.prog u = .ok r u := by
  rw [← h]
  exact four_ints 23 (by kernel_rfl) (by kernel_rfl) (by kernel_rfl) a b c d a' b' c' d' u
theorem eq_rrec_any (a b c d a' b' c' d' : Int) (r : Bool) (h : decide (a = a' ∧ b = b' ∧ c = c' ∧ d = d') = r) (u : World) : (Op.equalIn 10000 27 (.agg (rcv a b c d).toArray) (.agg (rcv a' b' c' d').toArray)).run Try.prog u = .ok r u := by
  rw [← h]
  exact four_ints 27 (by kernel_rfl) (by kernel_rfl) (by kernel_rfl) a b c d a' b' c' d' u

theorem getV_form (L : List UInt8) : ∃ a b c d, getV L = rcv a b c d := by
  unfold getV
  split
  · exact ⟨_, _, _, _, rfl⟩
  · exact ⟨_, _, _, _, rfl⟩
theorem page_blank {k s n v : Int} (h : pageB k s n v = List.replicate 16 255) : False := by
  have := (page_noughts k s n v).1
  rw [h] at this
  exact absurd this (by decide)

set_option maxHeartbeats 4000000 in
theorem recordPuts_walk (k s n v : Int) (p : ByteArray) (w : World) (hp : p.size ≤ 140737488351232) :
    Calls Try.prog 3 #[.agg (rcv k s n v).toArray, .string p] w fun e w' => e = .returned (.bool true) ∧ Below w.heap.size w w' := by
  obtain ⟨ok, hok⟩ : ∃ x, rOk k s n v = x := ⟨_, rfl⟩
  obtain ⟨T, E, hTE⟩ : ∃ T E, putE k s n v = (T, E) := ⟨_, _, rfl⟩
  obtain ⟨L, hL⟩ : ∃ L, p.data.toList = L := ⟨_, rfl⟩
  obtain ⟨q, hq⟩ : ∃ q, isP L = q := ⟨_, rfl⟩
  obtain ⟨y0, y1, y2, y3, hy⟩ := getV_form L
  obtain ⟨bl, hbl⟩ : ∃ x, (p.toList == blankP.toList) = x := ⟨_, rfl⟩
  have HPUT : Hid (∀ u b, TabAt u b → Calls Try.prog 9 #[.pointer (some ⟨b, 0, none⟩), .agg (rcv k s n v).toArray] u fun e u' => e = .returned (.tuple #[.string T, .int .i64 E]) ∧ Below u.heap.size u u') := Lib.hid fun u b h => rec_put_any b k s n v u h.tab h.lt T E hTE
  have HPN : Hid (∀ u, Calls Try.prog 9 #[.pointer none, .agg (rcv k s n v).toArray] u fun e u' => e = .returned (.tuple #[.string ByteArray.empty, .int .i64 1]) ∧ Below u.heap.size u u') := Lib.hid fun u => rec_put_nil k s n v u
  have HRR : Hid (∀ u, Calls Try.prog 10 #[.agg (rcv k s n v).toArray] u fun e u' => e = .returned (.bool ok) ∧ Below u.heap.size u u') := Lib.hid fun u => by rw [← hok]; exact rref_right_any k s n v u
  have HR : Hid (∀ u, Calls Try.prog 11 #[.agg (rcv k s n v).toArray] u fun e u' => e = .returned (.bool ok) ∧ Below u.heap.size u u') := Lib.hid fun u => by rw [← hok]; exact rec_right_any k s n v u
  have HG1 : Hid (ok = true → ∀ u b, TabAt u b → Calls Try.prog 12 #[.pointer (some ⟨b, 0, none⟩), .string T] u fun e u' => e = .returned (.tuple #[.agg (rcv k s n v).toArray, .bool true]) ∧ Below u.heap.size u u') := Lib.hid fun h u b ht => by
    have ho := hok.trans h
    unfold putE at hTE
    rw [ho, if_pos rfl] at hTE
    obtain ⟨rfl, rfl⟩ := Prod.mk.inj hTE
    have := rec_get_any b (str (pageB k s n v)) u ht.tab ht.lt (by rw [str_size, pageB_length]; omega)
    obtain ⟨e1, e2, e3, e4⟩ := p_page ho
    rw [str_list, getV, page_is ho, if_pos rfl, e1, e2, e3, e4] at this
    exact this
  have HRP : Hid (ok = true → ∀ u, Calls Try.prog 13 #[.agg (rcv k s n v).toArray] u fun e u' => e = .returned (.string T) ∧ Below u.heap.size u u') := Lib.hid fun h u => by
    have ho := hok.trans h
    unfold putE at hTE
    rw [ho, if_pos rfl] at hTE
    obtain ⟨rfl, rfl⟩ := Prod.mk.inj hTE
    exact rref_put_any k s n v u ho
  have HB1 : Hid (ok = true → ∀ u, Calls Try.prog 14 #[.string T] u fun e u' => e = .returned (.bool false) ∧ Below u.heap.size u u') := Lib.hid fun h u => by
    have ho := hok.trans h
    unfold putE at hTE
    rw [ho, if_pos rfl] at hTE
    obtain ⟨rfl, rfl⟩ := Prod.mk.inj hTE
    have hne : ((str (pageB k s n v)).toList == blankP.toList) = false := beq_no fun e => page_blank (str_inj e)
    have := rec_blank_any (str (pageB k s n v)) u
    rw [hne] at this
    exact this
  have HE : Hid ((ok = true → E = 0) ∧ (ok = false → E = 1 ∧ T = ByteArray.empty)) := Lib.hid (by
    constructor
    · intro h
      unfold putE at hTE
      rw [hok.trans h, if_pos rfl] at hTE
      exact (Prod.mk.inj hTE).2.symm
    · intro h
      unfold putE at hTE
      rw [hok.trans h, if_neg (by decide)] at hTE
      exact ⟨(Prod.mk.inj hTE).2.symm, (Prod.mk.inj hTE).1.symm⟩)
  have HG2 : Hid (∀ u b, TabAt u b → Calls Try.prog 12 #[.pointer (some ⟨b, 0, none⟩), .string p] u fun e u' => e = .returned (.tuple #[.agg (rcv y0 y1 y2 y3).toArray, .bool q]) ∧ Below u.heap.size u u') := Lib.hid fun u b ht => by
    have := rec_get_any b p u ht.tab ht.lt (by omega)
    rw [hL, hq, hy] at this
    exact this
  have HG3 : Hid (∀ u, Calls Try.prog 15 #[.string p] u fun e u' => e = .returned (.tuple #[.agg (rcv y0 y1 y2 y3).toArray, .bool q]) ∧ Below u.heap.size u u') := Lib.hid fun u => by
    have := rref_get_any p u
    rw [hL, hq, hy] at this
    exact this
  have HB2 : Hid (∀ u, Calls Try.prog 14 #[.string p] u fun e u' => e = .returned (.bool bl) ∧ Below u.heap.size u u') := Lib.hid fun u => by rw [← hbl]; exact rec_blank_any p u
  have HREP : Hid (∀ u, Calls Try.prog 16 #[.string { data := #[255] }, .int .i64 16] u fun e u' => e = .returned (.string blankP) ∧ Below u.heap.size u u') := Lib.hid rec_rep
  obtain ⟨BP, hBP⟩ : ∃ x, blankP = x := ⟨_, rfl⟩
  rw [hBP] at HREP hbl
  have HQ1 : Hid (∀ u : World, (Op.equalIn 10000 23 (.agg (rcv k s n v).toArray) (.agg (rcv k s n v).toArray)).run Try.prog u = .ok true u) := Lib.hid fun u => eq_rec_any _ _ _ _ _ _ _ _ true (by simp) u
  have HQ2 : Hid (∀ u : World, (Op.equalIn 10000 27 (.agg (rcv y0 y1 y2 y3).toArray) (.agg (rcv y0 y1 y2 y3).toArray)).run Try.prog u = .ok true u) := Lib.hid fun u => eq_rrec_any _ _ _ _ _ _ _ _ true (by simp) u
  obtain ⟨V, hV⟩ : ∃ V, rcv k s n v = V := ⟨_, rfl⟩
  obtain ⟨Y, hY⟩ : ∃ V, rcv y0 y1 y2 y3 = V := ⟨_, rfl⟩
  have LV : Hid (V.length = 4) := Lib.hid (by rw [← hV]; rfl)
  have V1 : Hid (V.all (·.oneCell') = true) := Lib.hid (by rw [← hV]; rfl)
  have LY : Hid (Y.length = 4) := Lib.hid (by rw [← hY]; rfl)
  have Y1 : Hid (Y.all (·.oneCell') = true) := Lib.hid (by rw [← hY]; rfl)
  rw [hV] at HPUT HPN HRR HR HG1 HRP HQ1 ⊢
  rw [hY] at HG2 HG3 HQ2
  have hqq : (q == q) = true := beq_self_eq_true _
  have hbb2 : (bl == (p.toList == BP.toList)) = true := by rw [← hbl]; exact beq_self_eq_true _
  clear hok hTE hL hq hy hV hY hBP hbl
  by_cases h100 : 100 < p.size
  · have h1 : (100 : Int) < (p.size : Int) := by omega
    go_enter Try.func3, Try.ntmps3
    go_wp2_with (first
      | ((with_reducible refine wpBoxK (w := w) (V) 23 ?_ ?_); rfl; intro u1 r_ b_ s_; have G_r : Hid (w.heap.size ≤ w.heap.size) := Lib.hid (Nat.le_refl _); have B_1 : Hid (Below w.heap.size w u1) := Lib.hid (b_); have Tr_1 := Lib.hid r_; clear r_ b_ s_)
      | (go_at_call 7; (with_reducible refine (rec_awake_any u1).mono ?_); rintro e u2 ⟨rfl, b_⟩; have Tr_2 := Lib.hid (Tr_1.out.step b_); have B_2 : Hid (Below w.heap.size w u2) := Lib.hid (B_1.out.next b_); clear b_ Tr_1 B_1))
    go_ret
    exact ⟨rfl, B_2.out⟩
  · have h1 : ¬ (100 : Int) < (p.size : Int) := by omega
    clear h100 hp
    cases ok with
    | true =>
      obtain rfl := HE.out.1 rfl
      have HG1' := Lib.hid (HG1.out rfl)
      have HRP' := Lib.hid (HRP.out rfl)
      have HB1' := Lib.hid (HB1.out rfl)
      have heq1 := HQ1.out
      have heq2 := HQ2.out
      have hTT : (T.toList == T.toList) = true := beq_self_eq_true _
      clear HG1 HRP HB1 HE HQ1 HQ2
      go_enter Try.func3, Try.ntmps3
      go_wp2_with (first
        | ((with_reducible refine wpBoxK (w := w) (V) 23 ?_ ?_); rfl; intro u1 r_ b_ s_; have G_r : Hid (w.heap.size ≤ w.heap.size) := Lib.hid (Nat.le_refl _); have B_1 : Hid (Below w.heap.size w u1) := Lib.hid (b_); have Tr_1 := Lib.hid r_; clear r_ b_ s_)
        | (go_at_call 7; (with_reducible refine (rec_awake_any u1).mono ?_); rintro e u2 ⟨rfl, b_⟩; have Tr_2 := Lib.hid (Tr_1.out.step b_); have B_2 : Hid (Below w.heap.size w u2) := Lib.hid (B_1.out.next b_); clear b_ Tr_1 B_1)
        | (go_at_call 8; (with_reducible refine (tab_new u2).mono ?_); rintro e u3 ⟨bb, rfl, tt, b_⟩; have Tr_3 := Lib.hid (Tr_2.out.step b_); have B_3 : Hid (Below w.heap.size w u3) := Lib.hid (B_2.out.next b_); have Ttab_3 := Lib.hid tt; clear b_ Tr_2 B_2 tt)
        | ((with_reducible refine Tr_3.out.wpLoadK 23 fits_rec (LV.out) ?_ ?_); rfl)
        | ((with_reducible refine wpAllocK (w := u3) (rcv 0 0 0 0) 27 zero_rrec ?_ ?_); rfl; intro u4 r_ b_ s_; have N_r_x : Hid (w.heap.size ≠ u3.heap.size) := Lib.hid (by have := Tr_3.out.lt; omega); have N_tab_x : Hid (bb ≠ u3.heap.size) := Lib.hid (by have := Ttab_3.out.lt; omega); have G_x : Hid (w.heap.size ≤ u3.heap.size) := Lib.hid (B_3.out.size); have Tr_4 := Lib.hid (Tr_3.out.step b_); have Ttab_4 := Lib.hid (Ttab_3.out.step b_); have B_4 : Hid (Below w.heap.size w u4) := Lib.hid (B_3.out.next b_); have Tx_4 := Lib.hid r_; clear r_ b_ s_ Tr_3 Ttab_3 B_3)
        | ((with_reducible refine Tx_4.out.wpStoreK 27 (V) fits_rrec (rfl) (LV.out) (V1.out) ?_ ?_); rfl; intro u5 r_ o_ s_; have Tr_5 := Lib.hid (Tr_4.out.only o_ N_r_x.out); have Ttab_5 := Lib.hid (Ttab_4.out.only o_ N_tab_x.out); have Tx_5 := Lib.hid r_; have B_5 : Hid (Below w.heap.size w u5) := Lib.hid (B_4.out.trans (o_.below G_x.out B_4.out.size)); clear r_ o_ s_ Tx_4 B_4 Tr_4 Ttab_4)
        | ((with_reducible refine Tr_5.out.wpLoadK 23 fits_rec (LV.out) ?_ ?_); rfl)
        | (go_at_call 9; (with_reducible refine (HPUT.out u5 bb Ttab_5.out).mono ?_); rintro e u6 ⟨rfl, b_⟩; have Tr_6 := Lib.hid (Tr_5.out.step b_); have Ttab_6 := Lib.hid (Ttab_5.out.step b_); have Tx_6 := Lib.hid (Tx_5.out.step b_); have B_6 : Hid (Below w.heap.size w u6) := Lib.hid (B_5.out.next b_); clear b_ Tr_5 Ttab_5 Tx_5 B_5)
        | ((with_reducible refine Tx_6.out.wpLoadK 27 fits_rrec (LV.out) ?_ ?_); rfl)
        | (go_at_call 10; (with_reducible refine (HRR.out u6).mono ?_); rintro e u7 ⟨rfl, b_⟩; have Tr_7 := Lib.hid (Tr_6.out.step b_); have Ttab_7 := Lib.hid (Ttab_6.out.step b_); have Tx_7 := Lib.hid (Tx_6.out.step b_); have B_7 : Hid (Below w.heap.size w u7) := Lib.hid (B_6.out.next b_); clear b_ Tr_6 Ttab_6 Tx_6 B_6)
        | ((with_reducible refine Tr_7.out.wpLoadK 23 fits_rec (LV.out) ?_ ?_); rfl)
        | (go_at_call 11; (with_reducible refine (HR.out u7).mono ?_); rintro e u8 ⟨rfl, b_⟩; have Tr_8 := Lib.hid (Tr_7.out.step b_); have Ttab_8 := Lib.hid (Ttab_7.out.step b_); have Tx_8 := Lib.hid (Tx_7.out.step b_); have B_8 : Hid (Below w.heap.size w u8) := Lib.hid (B_7.out.next b_); clear b_ Tr_7 Ttab_7 Tx_7 B_7)
        | (go_at_call 12; (with_reducible refine (HG1'.out u8 bb Ttab_8.out).mono ?_); rintro e u9 ⟨rfl, b_⟩; have Tr_9 := Lib.hid (Tr_8.out.step b_); have Ttab_9 := Lib.hid (Ttab_8.out.step b_); have Tx_9 := Lib.hid (Tx_8.out.step b_); have B_9 : Hid (Below w.heap.size w u9) := Lib.hid (B_8.out.next b_); clear b_ Tr_8 Ttab_8 Tx_8 B_8)
        | ((with_reducible refine wpAllocK (w := u9) (rcv 0 0 0 0) 23 zero_rec ?_ ?_); rfl; intro u10 r_ b_ s_; have N_r_g : Hid (w.heap.size ≠ u9.heap.size) := Lib.hid (by have := Tr_9.out.lt; omega); have N_tab_g : Hid (bb ≠ u9.heap.size) := Lib.hid (by have := Ttab_9.out.lt; omega); have N_x_g : Hid (u3.heap.size ≠ u9.heap.size) := Lib.hid (by have := Tx_9.out.lt; omega); have G_g : Hid (w.heap.size ≤ u9.heap.size) := Lib.hid (B_9.out.size); have Tr_10 := Lib.hid (Tr_9.out.step b_); have Ttab_10 := Lib.hid (Ttab_9.out.step b_); have Tx_10 := Lib.hid (Tx_9.out.step b_); have B_10 : Hid (Below w.heap.size w u10) := Lib.hid (B_9.out.next b_); have Tg_10 := Lib.hid r_; clear r_ b_ s_ Tr_9 Ttab_9 Tx_9 B_9)
        | ((with_reducible refine Tg_10.out.wpStoreK 23 (V) fits_rec (rfl) (LV.out) (V1.out) ?_ ?_); rfl; intro u11 r_ o_ s_; have Tr_11 := Lib.hid (Tr_10.out.only o_ N_r_g.out); have Ttab_11 := Lib.hid (Ttab_10.out.only o_ N_tab_g.out); have Tx_11 := Lib.hid (Tx_10.out.only o_ N_x_g.out); have Tg_11 := Lib.hid r_; have B_11 : Hid (Below w.heap.size w u11) := Lib.hid (B_10.out.trans (o_.below G_g.out B_10.out.size)); clear r_ o_ s_ Tg_10 B_10 Tr_10 Ttab_10 Tx_10)
        | ((with_reducible refine Tx_11.out.wpLoadK 27 fits_rrec (LV.out) ?_ ?_); rfl)
        | (go_at_call 13; (with_reducible refine (HRP'.out u11).mono ?_); rintro e u12 ⟨rfl, b_⟩; have Tr_12 := Lib.hid (Tr_11.out.step b_); have Ttab_12 := Lib.hid (Ttab_11.out.step b_); have Tx_12 := Lib.hid (Tx_11.out.step b_); have Tg_12 := Lib.hid (Tg_11.out.step b_); have B_12 : Hid (Below w.heap.size w u12) := Lib.hid (B_11.out.next b_); clear b_ Tr_11 Ttab_11 Tx_11 Tg_11 B_11)
        | ((with_reducible refine Tg_12.out.wpLoadG 23 fits_rec (LV.out) ?_ ?_); rfl)
        | ((with_reducible refine Tr_12.out.wpLoadG 23 fits_rec (LV.out) ?_ ?_); rfl)
        | (go_at_call 14; (with_reducible refine (HB1'.out u12).mono ?_); rintro e u13 ⟨rfl, b_⟩; have Tr_13 := Lib.hid (Tr_12.out.step b_); have Ttab_13 := Lib.hid (Ttab_12.out.step b_); have Tx_13 := Lib.hid (Tx_12.out.step b_); have Tg_13 := Lib.hid (Tg_12.out.step b_); have B_13 : Hid (Below w.heap.size w u13) := Lib.hid (B_12.out.next b_); clear b_ Tr_12 Ttab_12 Tx_12 Tg_12 B_12)
        | (go_at_call 12; (with_reducible refine (HG2.out u13 bb Ttab_13.out).mono ?_); rintro e u14 ⟨rfl, b_⟩; have Tr_14 := Lib.hid (Tr_13.out.step b_); have Ttab_14 := Lib.hid (Ttab_13.out.step b_); have Tx_14 := Lib.hid (Tx_13.out.step b_); have Tg_14 := Lib.hid (Tg_13.out.step b_); have B_14 : Hid (Below w.heap.size w u14) := Lib.hid (B_13.out.next b_); clear b_ Tr_13 Ttab_13 Tx_13 Tg_13 B_13)
        | ((with_reducible refine wpAllocK (w := u14) (rcv 0 0 0 0) 23 zero_rec ?_ ?_); rfl; intro u15 r_ b_ s_; have N_r_y : Hid (w.heap.size ≠ u14.heap.size) := Lib.hid (by have := Tr_14.out.lt; omega); have N_tab_y : Hid (bb ≠ u14.heap.size) := Lib.hid (by have := Ttab_14.out.lt; omega); have N_x_y : Hid (u3.heap.size ≠ u14.heap.size) := Lib.hid (by have := Tx_14.out.lt; omega); have N_g_y : Hid (u9.heap.size ≠ u14.heap.size) := Lib.hid (by have := Tg_14.out.lt; omega); have G_y : Hid (w.heap.size ≤ u14.heap.size) := Lib.hid (B_14.out.size); have Tr_15 := Lib.hid (Tr_14.out.step b_); have Ttab_15 := Lib.hid (Ttab_14.out.step b_); have Tx_15 := Lib.hid (Tx_14.out.step b_); have Tg_15 := Lib.hid (Tg_14.out.step b_); have B_15 : Hid (Below w.heap.size w u15) := Lib.hid (B_14.out.next b_); have Ty_15 := Lib.hid r_; clear r_ b_ s_ Tr_14 Ttab_14 Tx_14 Tg_14 B_14)
        | ((with_reducible refine Ty_15.out.wpStoreK 23 (Y) fits_rec (rfl) (LY.out) (Y1.out) ?_ ?_); rfl; intro u16 r_ o_ s_; have Tr_16 := Lib.hid (Tr_15.out.only o_ N_r_y.out); have Ttab_16 := Lib.hid (Ttab_15.out.only o_ N_tab_y.out); have Tx_16 := Lib.hid (Tx_15.out.only o_ N_x_y.out); have Tg_16 := Lib.hid (Tg_15.out.only o_ N_g_y.out); have Ty_16 := Lib.hid r_; have B_16 : Hid (Below w.heap.size w u16) := Lib.hid (B_15.out.trans (o_.below G_y.out B_15.out.size)); clear r_ o_ s_ Ty_15 B_15 Tr_15 Ttab_15 Tx_15 Tg_15)
        | (go_at_call 15; (with_reducible refine (HG3.out u16).mono ?_); rintro e u17 ⟨rfl, b_⟩; have Tr_17 := Lib.hid (Tr_16.out.step b_); have Ttab_17 := Lib.hid (Ttab_16.out.step b_); have Tx_17 := Lib.hid (Tx_16.out.step b_); have Tg_17 := Lib.hid (Tg_16.out.step b_); have Ty_17 := Lib.hid (Ty_16.out.step b_); have B_17 : Hid (Below w.heap.size w u17) := Lib.hid (B_16.out.next b_); clear b_ Tr_16 Ttab_16 Tx_16 Tg_16 Ty_16 B_16)
        | ((with_reducible refine wpAllocK (w := u17) (rcv 0 0 0 0) 27 zero_rrec ?_ ?_); rfl; intro u18 r_ b_ s_; have N_r_z : Hid (w.heap.size ≠ u17.heap.size) := Lib.hid (by have := Tr_17.out.lt; omega); have N_tab_z : Hid (bb ≠ u17.heap.size) := Lib.hid (by have := Ttab_17.out.lt; omega); have N_x_z : Hid (u3.heap.size ≠ u17.heap.size) := Lib.hid (by have := Tx_17.out.lt; omega); have N_g_z : Hid (u9.heap.size ≠ u17.heap.size) := Lib.hid (by have := Tg_17.out.lt; omega); have N_y_z : Hid (u14.heap.size ≠ u17.heap.size) := Lib.hid (by have := Ty_17.out.lt; omega); have G_z : Hid (w.heap.size ≤ u17.heap.size) := Lib.hid (B_17.out.size); have Tr_18 := Lib.hid (Tr_17.out.step b_); have Ttab_18 := Lib.hid (Ttab_17.out.step b_); have Tx_18 := Lib.hid (Tx_17.out.step b_); have Tg_18 := Lib.hid (Tg_17.out.step b_); have Ty_18 := Lib.hid (Ty_17.out.step b_); have B_18 : Hid (Below w.heap.size w u18) := Lib.hid (B_17.out.next b_); have Tz_18 := Lib.hid r_; clear r_ b_ s_ Tr_17 Ttab_17 Tx_17 Tg_17 Ty_17 B_17)
        | ((with_reducible refine Tz_18.out.wpStoreK 27 (Y) fits_rrec (rfl) (LY.out) (Y1.out) ?_ ?_); rfl; intro u19 r_ o_ s_; have Tr_19 := Lib.hid (Tr_18.out.only o_ N_r_z.out); have Ttab_19 := Lib.hid (Ttab_18.out.only o_ N_tab_z.out); have Tx_19 := Lib.hid (Tx_18.out.only o_ N_x_z.out); have Tg_19 := Lib.hid (Tg_18.out.only o_ N_g_z.out); have Ty_19 := Lib.hid (Ty_18.out.only o_ N_y_z.out); have Tz_19 := Lib.hid r_; have B_19 : Hid (Below w.heap.size w u19) := Lib.hid (B_18.out.trans (o_.below G_z.out B_18.out.size)); clear r_ o_ s_ Tz_18 B_18 Tr_18 Ttab_18 Tx_18 Tg_18 Ty_18)
        | ((with_reducible refine Tr_19.out.wpLoadK 23 fits_rec (LV.out) ?_ ?_); rfl)
        | (go_at_call 9; (with_reducible refine (HPN.out u19).mono ?_); rintro e u20 ⟨rfl, b_⟩; have Tr_20 := Lib.hid (Tr_19.out.step b_); have Ttab_20 := Lib.hid (Ttab_19.out.step b_); have Tx_20 := Lib.hid (Tx_19.out.step b_); have Tg_20 := Lib.hid (Tg_19.out.step b_); have Ty_20 := Lib.hid (Ty_19.out.step b_); have Tz_20 := Lib.hid (Tz_19.out.step b_); have B_20 : Hid (Below w.heap.size w u20) := Lib.hid (B_19.out.next b_); clear b_ Tr_19 Ttab_19 Tx_19 Tg_19 Ty_19 Tz_19 B_19)
        | ((with_reducible refine Ty_20.out.wpLoadK 23 fits_rec (LY.out) ?_ ?_); rfl)
        | ((with_reducible refine Tz_20.out.wpLoadK 27 fits_rrec (LY.out) ?_ ?_); rfl)
        | (go_at_call 14; (with_reducible refine (HB2.out u20).mono ?_); rintro e u21 ⟨rfl, b_⟩; have Tr_21 := Lib.hid (Tr_20.out.step b_); have Ttab_21 := Lib.hid (Ttab_20.out.step b_); have Tx_21 := Lib.hid (Tx_20.out.step b_); have Tg_21 := Lib.hid (Tg_20.out.step b_); have Ty_21 := Lib.hid (Ty_20.out.step b_); have Tz_21 := Lib.hid (Tz_20.out.step b_); have B_21 : Hid (Below w.heap.size w u21) := Lib.hid (B_20.out.next b_); clear b_ Tr_20 Ttab_20 Tx_20 Tg_20 Ty_20 Tz_20 B_20)
        | (go_at_call 16; (with_reducible refine (HREP.out u21).mono ?_); rintro e u22 ⟨rfl, b_⟩; have Tr_22 := Lib.hid (Tr_21.out.step b_); have Ttab_22 := Lib.hid (Ttab_21.out.step b_); have Tx_22 := Lib.hid (Tx_21.out.step b_); have Tg_22 := Lib.hid (Tg_21.out.step b_); have Ty_22 := Lib.hid (Ty_21.out.step b_); have Tz_22 := Lib.hid (Tz_21.out.step b_); have B_22 : Hid (Below w.heap.size w u22) := Lib.hid (B_21.out.next b_); clear b_ Tr_21 Ttab_21 Tx_21 Tg_21 Ty_21 Tz_21 B_21))
      go_ret
      exact ⟨rfl, B_22.out⟩
    | false =>
      obtain ⟨rfl, rfl⟩ := HE.out.2 rfl
      have heq2 := HQ2.out
      clear HG1 HRP HB1 HE HQ1 HQ2
      go_enter Try.func3, Try.ntmps3
      go_wp2_with (first
        | ((with_reducible refine wpBoxK (w := w) (V) 23 ?_ ?_); rfl; intro u1 r_ b_ s_; have G_r : Hid (w.heap.size ≤ w.heap.size) := Lib.hid (Nat.le_refl _); have B_1 : Hid (Below w.heap.size w u1) := Lib.hid (b_); have Tr_1 := Lib.hid r_; clear r_ b_ s_)
        | (go_at_call 7; (with_reducible refine (rec_awake_any u1).mono ?_); rintro e u2 ⟨rfl, b_⟩; have Tr_2 := Lib.hid (Tr_1.out.step b_); have B_2 : Hid (Below w.heap.size w u2) := Lib.hid (B_1.out.next b_); clear b_ Tr_1 B_1)
        | (go_at_call 8; (with_reducible refine (tab_new u2).mono ?_); rintro e u3 ⟨bb, rfl, tt, b_⟩; have Tr_3 := Lib.hid (Tr_2.out.step b_); have B_3 : Hid (Below w.heap.size w u3) := Lib.hid (B_2.out.next b_); have Ttab_3 := Lib.hid tt; clear b_ Tr_2 B_2 tt)
        | ((with_reducible refine Tr_3.out.wpLoadK 23 fits_rec (LV.out) ?_ ?_); rfl)
        | ((with_reducible refine wpAllocK (w := u3) (rcv 0 0 0 0) 27 zero_rrec ?_ ?_); rfl; intro u4 r_ b_ s_; have N_r_x : Hid (w.heap.size ≠ u3.heap.size) := Lib.hid (by have := Tr_3.out.lt; omega); have N_tab_x : Hid (bb ≠ u3.heap.size) := Lib.hid (by have := Ttab_3.out.lt; omega); have G_x : Hid (w.heap.size ≤ u3.heap.size) := Lib.hid (B_3.out.size); have Tr_4 := Lib.hid (Tr_3.out.step b_); have Ttab_4 := Lib.hid (Ttab_3.out.step b_); have B_4 : Hid (Below w.heap.size w u4) := Lib.hid (B_3.out.next b_); have Tx_4 := Lib.hid r_; clear r_ b_ s_ Tr_3 Ttab_3 B_3)
        | ((with_reducible refine Tx_4.out.wpStoreK 27 (V) fits_rrec (rfl) (LV.out) (V1.out) ?_ ?_); rfl; intro u5 r_ o_ s_; have Tr_5 := Lib.hid (Tr_4.out.only o_ N_r_x.out); have Ttab_5 := Lib.hid (Ttab_4.out.only o_ N_tab_x.out); have Tx_5 := Lib.hid r_; have B_5 : Hid (Below w.heap.size w u5) := Lib.hid (B_4.out.trans (o_.below G_x.out B_4.out.size)); clear r_ o_ s_ Tx_4 B_4 Tr_4 Ttab_4)
        | ((with_reducible refine Tr_5.out.wpLoadK 23 fits_rec (LV.out) ?_ ?_); rfl)
        | (go_at_call 9; (with_reducible refine (HPUT.out u5 bb Ttab_5.out).mono ?_); rintro e u6 ⟨rfl, b_⟩; have Tr_6 := Lib.hid (Tr_5.out.step b_); have Ttab_6 := Lib.hid (Ttab_5.out.step b_); have Tx_6 := Lib.hid (Tx_5.out.step b_); have B_6 : Hid (Below w.heap.size w u6) := Lib.hid (B_5.out.next b_); clear b_ Tr_5 Ttab_5 Tx_5 B_5)
        | ((with_reducible refine Tx_6.out.wpLoadK 27 fits_rrec (LV.out) ?_ ?_); rfl)
        | (go_at_call 10; (with_reducible refine (HRR.out u6).mono ?_); rintro e u7 ⟨rfl, b_⟩; have Tr_7 := Lib.hid (Tr_6.out.step b_); have Ttab_7 := Lib.hid (Ttab_6.out.step b_); have Tx_7 := Lib.hid (Tx_6.out.step b_); have B_7 : Hid (Below w.heap.size w u7) := Lib.hid (B_6.out.next b_); clear b_ Tr_6 Ttab_6 Tx_6 B_6)
        | ((with_reducible refine Tr_7.out.wpLoadK 23 fits_rec (LV.out) ?_ ?_); rfl)
        | (go_at_call 11; (with_reducible refine (HR.out u7).mono ?_); rintro e u8 ⟨rfl, b_⟩; have Tr_8 := Lib.hid (Tr_7.out.step b_); have Ttab_8 := Lib.hid (Ttab_7.out.step b_); have Tx_8 := Lib.hid (Tx_7.out.step b_); have B_8 : Hid (Below w.heap.size w u8) := Lib.hid (B_7.out.next b_); clear b_ Tr_7 Ttab_7 Tx_7 B_7)
        | (go_at_call 12; (with_reducible refine (HG2.out u8 bb Ttab_8.out).mono ?_); rintro e u9 ⟨rfl, b_⟩; have Tr_9 := Lib.hid (Tr_8.out.step b_); have Ttab_9 := Lib.hid (Ttab_8.out.step b_); have Tx_9 := Lib.hid (Tx_8.out.step b_); have B_9 : Hid (Below w.heap.size w u9) := Lib.hid (B_8.out.next b_); clear b_ Tr_8 Ttab_8 Tx_8 B_8)
        | ((with_reducible refine wpAllocK (w := u9) (rcv 0 0 0 0) 23 zero_rec ?_ ?_); rfl; intro u10 r_ b_ s_; have N_r_y : Hid (w.heap.size ≠ u9.heap.size) := Lib.hid (by have := Tr_9.out.lt; omega); have N_tab_y : Hid (bb ≠ u9.heap.size) := Lib.hid (by have := Ttab_9.out.lt; omega); have N_x_y : Hid (u3.heap.size ≠ u9.heap.size) := Lib.hid (by have := Tx_9.out.lt; omega); have G_y : Hid (w.heap.size ≤ u9.heap.size) := Lib.hid (B_9.out.size); have Tr_10 := Lib.hid (Tr_9.out.step b_); have Ttab_10 := Lib.hid (Ttab_9.out.step b_); have Tx_10 := Lib.hid (Tx_9.out.step b_); have B_10 : Hid (Below w.heap.size w u10) := Lib.hid (B_9.out.next b_); have Ty_10 := Lib.hid r_; clear r_ b_ s_ Tr_9 Ttab_9 Tx_9 B_9)
        | ((with_reducible refine Ty_10.out.wpStoreK 23 (Y) fits_rec (rfl) (LY.out) (Y1.out) ?_ ?_); rfl; intro u11 r_ o_ s_; have Tr_11 := Lib.hid (Tr_10.out.only o_ N_r_y.out); have Ttab_11 := Lib.hid (Ttab_10.out.only o_ N_tab_y.out); have Tx_11 := Lib.hid (Tx_10.out.only o_ N_x_y.out); have Ty_11 := Lib.hid r_; have B_11 : Hid (Below w.heap.size w u11) := Lib.hid (B_10.out.trans (o_.below G_y.out B_10.out.size)); clear r_ o_ s_ Ty_10 B_10 Tr_10 Ttab_10 Tx_10)
        | (go_at_call 15; (with_reducible refine (HG3.out u11).mono ?_); rintro e u12 ⟨rfl, b_⟩; have Tr_12 := Lib.hid (Tr_11.out.step b_); have Ttab_12 := Lib.hid (Ttab_11.out.step b_); have Tx_12 := Lib.hid (Tx_11.out.step b_); have Ty_12 := Lib.hid (Ty_11.out.step b_); have B_12 : Hid (Below w.heap.size w u12) := Lib.hid (B_11.out.next b_); clear b_ Tr_11 Ttab_11 Tx_11 Ty_11 B_11)
        | ((with_reducible refine wpAllocK (w := u12) (rcv 0 0 0 0) 27 zero_rrec ?_ ?_); rfl; intro u13 r_ b_ s_; have N_r_z : Hid (w.heap.size ≠ u12.heap.size) := Lib.hid (by have := Tr_12.out.lt; omega); have N_tab_z : Hid (bb ≠ u12.heap.size) := Lib.hid (by have := Ttab_12.out.lt; omega); have N_x_z : Hid (u3.heap.size ≠ u12.heap.size) := Lib.hid (by have := Tx_12.out.lt; omega); have N_y_z : Hid (u9.heap.size ≠ u12.heap.size) := Lib.hid (by have := Ty_12.out.lt; omega); have G_z : Hid (w.heap.size ≤ u12.heap.size) := Lib.hid (B_12.out.size); have Tr_13 := Lib.hid (Tr_12.out.step b_); have Ttab_13 := Lib.hid (Ttab_12.out.step b_); have Tx_13 := Lib.hid (Tx_12.out.step b_); have Ty_13 := Lib.hid (Ty_12.out.step b_); have B_13 : Hid (Below w.heap.size w u13) := Lib.hid (B_12.out.next b_); have Tz_13 := Lib.hid r_; clear r_ b_ s_ Tr_12 Ttab_12 Tx_12 Ty_12 B_12)
        | ((with_reducible refine Tz_13.out.wpStoreK 27 (Y) fits_rrec (rfl) (LY.out) (Y1.out) ?_ ?_); rfl; intro u14 r_ o_ s_; have Tr_14 := Lib.hid (Tr_13.out.only o_ N_r_z.out); have Ttab_14 := Lib.hid (Ttab_13.out.only o_ N_tab_z.out); have Tx_14 := Lib.hid (Tx_13.out.only o_ N_x_z.out); have Ty_14 := Lib.hid (Ty_13.out.only o_ N_y_z.out); have Tz_14 := Lib.hid r_; have B_14 : Hid (Below w.heap.size w u14) := Lib.hid (B_13.out.trans (o_.below G_z.out B_13.out.size)); clear r_ o_ s_ Tz_13 B_13 Tr_13 Ttab_13 Tx_13 Ty_13)
        | ((with_reducible refine Tr_14.out.wpLoadK 23 fits_rec (LV.out) ?_ ?_); rfl)
        | (go_at_call 9; (with_reducible refine (HPN.out u14).mono ?_); rintro e u15 ⟨rfl, b_⟩; have Tr_15 := Lib.hid (Tr_14.out.step b_); have Ttab_15 := Lib.hid (Ttab_14.out.step b_); have Tx_15 := Lib.hid (Tx_14.out.step b_); have Ty_15 := Lib.hid (Ty_14.out.step b_); have Tz_15 := Lib.hid (Tz_14.out.step b_); have B_15 : Hid (Below w.heap.size w u15) := Lib.hid (B_14.out.next b_); clear b_ Tr_14 Ttab_14 Tx_14 Ty_14 Tz_14 B_14)
        | ((with_reducible refine Ty_15.out.wpLoadK 23 fits_rec (LY.out) ?_ ?_); rfl)
        | ((with_reducible refine Tz_15.out.wpLoadK 27 fits_rrec (LY.out) ?_ ?_); rfl)
        | (go_at_call 14; (with_reducible refine (HB2.out u15).mono ?_); rintro e u16 ⟨rfl, b_⟩; have Tr_16 := Lib.hid (Tr_15.out.step b_); have Ttab_16 := Lib.hid (Ttab_15.out.step b_); have Tx_16 := Lib.hid (Tx_15.out.step b_); have Ty_16 := Lib.hid (Ty_15.out.step b_); have Tz_16 := Lib.hid (Tz_15.out.step b_); have B_16 : Hid (Below w.heap.size w u16) := Lib.hid (B_15.out.next b_); clear b_ Tr_15 Ttab_15 Tx_15 Ty_15 Tz_15 B_15)
        | (go_at_call 16; (with_reducible refine (HREP.out u16).mono ?_); rintro e u17 ⟨rfl, b_⟩; have Tr_17 := Lib.hid (Tr_16.out.step b_); have Ttab_17 := Lib.hid (Ttab_16.out.step b_); have Tx_17 := Lib.hid (Tx_16.out.step b_); have Ty_17 := Lib.hid (Ty_16.out.step b_); have Tz_17 := Lib.hid (Tz_16.out.step b_); have B_17 : Hid (Below w.heap.size w u17) := Lib.hid (B_16.out.next b_); clear b_ Tr_16 Ttab_16 Tx_16 Ty_16 Tz_16 B_16))
      go_ret
      exact ⟨rfl, B_17.out⟩
end Go.Proofs.Ytpeofjlecgenbaa
