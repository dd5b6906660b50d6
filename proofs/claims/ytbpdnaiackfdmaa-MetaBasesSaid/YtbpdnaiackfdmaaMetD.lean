/- What the functions do that a rule makes. -/
import Derived.Test.YtbpdnaiackfdmaaMetC
namespace Go.Proofs.Ytbpdnaiackfdmaa
open Go.RowKit MetMath
set_option linter.unusedVariables false
set_option maxRecDepth 100000

/-- A function that a rule makes (nf, with the rule's variable caught) turns what is known into m'. -/
def Does (nf : Nat) (m : Mt) (k i n v : Int) (m' : Mt) : Prop := ∀ (w : World) (g vb : Nat), Row w g 55 (chg m k i n v) → w.cell? ⟨vb, 0, none⟩ = some (.pointer (some ⟨g, 0, none⟩)) → vb < w.heap.size → vb ≠ g →
    Calls Try.prog nf #[.pointer (some ⟨vb, 0, none⟩)] w fun e w' => e = .returned (.tuple #[]) ∧ Row w' g 55 (chg m' k i n v) ∧ Only g w w'
theorem cell_only {g b : Nat} {w w' : World} {x : Option Value} (ho : Only g w w') (hb : b < w.heap.size) (hn : b ≠ g) (h : w.cell? ⟨b, 0, none⟩ = x) : w'.cell? ⟨b, 0, none⟩ = x := (World.cell?_of_block (a := ⟨b, 0, none⟩) (ho.2.2.2.2 b hb hn)).trans h
theorem met_let_at (m : Mt) (k i n v a b c : Int) (g : Nat) (hi : isS i = true) (u : World) (h : Row u g 55 (chg m k i n v)) :
    Calls Try.prog 28 #[.pointer (some ⟨g, 0, none⟩), .agg #[.int .i64 a, .int .i64 b, .int .i64 c]] u fun e w' => e = .returned (.tuple #[]) ∧ Row w' g 55 (chg (m.put i ⟨a, b, c⟩) k i n v) ∧ Only g u w' := met_let_any m k i n v ⟨a, b, c⟩ g u h hi

theorem met_does_write (m : Mt) (k i n v : Int) (hi : isS i = true) : Does 27 m k i n v (m.put i ⟨1, 0, 0⟩) := by
  intro w g vb h hv hl hn
  have HL := Lib.hid (met_let_at m k i n v 1 0 0 g hi w h)
  clear h hi
  go_enter Try.func27, Try.ntmps27
  go_wp2_with (go_at_call 28; (with_reducible refine HL.out.mono ?_); rintro e u1 ⟨rfl, r1, o1⟩; have R1 := Lib.hid r1; have O1 := Lib.hid o1; clear r1 o1)
  go_end0
  exact ⟨rfl, R1.out, O1.out⟩

theorem met_does_clear (m : Mt) (k i n v : Int) (hi : isS i = true) : Does 35 m k i n v (m.put i ⟨0, 0, 0⟩) := by
  intro w g vb h hv hl hn
  have HL := Lib.hid (met_let_at m k i n v 0 0 0 g hi w h)
  clear h hi
  go_enter Try.func35, Try.ntmps35
  go_wp2_with (go_at_call 28; (with_reducible refine HL.out.mono ?_); rintro e u1 ⟨rfl, r1, o1⟩; have R1 := Lib.hid r1; have O1 := Lib.hid o1; clear r1 o1)
  go_end0
  exact ⟨rfl, R1.out, O1.out⟩

theorem met_does_stage (m : Mt) (k i n v : Int) (hi : isS i = true) : Does 30 m k i n v (m.put i ⟨2, v, 0⟩) := by
  intro w g vb h hv hl hn
  have HL := Lib.hid (met_let_at m k i n v 2 v 0 g hi w.drew h.drew)
  have O0 : Hid (Only g w w.drew) := Lib.hid (Only.refl g w).drew
  have q16 : w.drew.cell? ⟨g, 16, none⟩ = some (.int .i64 v) := h.cell 16
  have c0 : w.drew.cell? ⟨vb, 0, none⟩ = some (.pointer (some ⟨g, 0, none⟩)) := hv
  clear h hi hv
  go_enter Try.func30, Try.ntmps30
  go_wp2
  go_still_tail 7, (by kernel_rfl)
  change wpList _ _ _ _ _ w.drew
  generalize w.drew = wq at *
  go_wp2_with (go_at_call 28; (with_reducible refine HL.out.mono ?_); rintro e u1 ⟨rfl, r1, o1⟩; have R1 := Lib.hid r1; have O1 := Lib.hid (O0.out.trans o1); clear r1 o1)
  go_end0
  exact ⟨rfl, R1.out, O1.out⟩

theorem met_does_copy (m : Mt) (k i n v : Int) (hi : isS i = true) : Does 42 m k i n v (m.put i ⟨4, v, 0⟩) := by
  intro w g vb h hv hl hn
  have HL := Lib.hid (met_let_at m k i n v 4 v 0 g hi w.drew h.drew)
  have O0 : Hid (Only g w w.drew) := Lib.hid (Only.refl g w).drew
  have q16 : w.drew.cell? ⟨g, 16, none⟩ = some (.int .i64 v) := h.cell 16
  have c0 : w.drew.cell? ⟨vb, 0, none⟩ = some (.pointer (some ⟨g, 0, none⟩)) := hv
  clear h hi hv
  go_enter Try.func42, Try.ntmps42
  go_wp2
  go_still_tail 7, (by kernel_rfl)
  change wpList _ _ _ _ _ w.drew
  generalize w.drew = wq at *
  go_wp2_with (go_at_call 28; (with_reducible refine HL.out.mono ?_); rintro e u1 ⟨rfl, r1, o1⟩; have R1 := Lib.hid r1; have O1 := Lib.hid (O0.out.trans o1); clear r1 o1)
  go_end0
  exact ⟨rfl, R1.out, O1.out⟩

theorem met_does_floor (m : Mt) (k i n v : Int) : Does 38 m k i n v { m with flo := v } := by
  intro w g vb h hv hl hn
  have HM : Hid (Row w.drew g 55 (chg m k i n v)) := Lib.hid h.drew
  have O0 : Hid (Only g w w.drew) := Lib.hid (Only.refl g w).drew
  have q16 : w.drew.cell? ⟨g, 16, none⟩ = some (.int .i64 v) := h.cell 16
  have d10 : w.drew.cell? ⟨g, 10, none⟩ = some (.int .i64 m.flo) := h.cell 10
  have f0 := h.drew.frozen 10
  have c0 : w.drew.cell? ⟨vb, 0, none⟩ = some (.pointer (some ⟨g, 0, none⟩)) := hv
  clear h hv
  go_enter Try.func38, Try.ntmps38
  go_wp2
  go_still_tail 9, (by kernel_rfl)
  change wpList _ _ _ _ _ w.drew
  generalize w.drew = wq at *
  go_wp2
  go_end0
  exact ⟨rfl, HM.out.set 10 _, O0.out.setCell _ _ (Or.inl rfl)⟩

theorem met_does_cursor (m : Mt) (k i n v : Int) : Does 39 m k i n v { m with cur := v } := by
  intro w g vb h hv hl hn
  have HM : Hid (Row w.drew g 55 (chg m k i n v)) := Lib.hid h.drew
  have O0 : Hid (Only g w w.drew) := Lib.hid (Only.refl g w).drew
  have q16 : w.drew.cell? ⟨g, 16, none⟩ = some (.int .i64 v) := h.cell 16
  have d11 : w.drew.cell? ⟨g, 11, none⟩ = some (.int .i64 m.cur) := h.cell 11
  have f0 := h.drew.frozen 11
  have c0 : w.drew.cell? ⟨vb, 0, none⟩ = some (.pointer (some ⟨g, 0, none⟩)) := hv
  clear h hv
  go_enter Try.func39, Try.ntmps39
  go_wp2
  go_still_tail 9, (by kernel_rfl)
  change wpList _ _ _ _ _ w.drew
  generalize w.drew = wq at *
  go_wp2
  go_end0
  exact ⟨rfl, HM.out.set 11 _, O0.out.setCell _ _ (Or.inl rfl)⟩

theorem met_does_intent (m : Mt) (k i n v : Int) : Does 40 m k i n v { m with int := v } := by
  intro w g vb h hv hl hn
  have HM : Hid (Row w.drew g 55 (chg m k i n v)) := Lib.hid h.drew
  have O0 : Hid (Only g w w.drew) := Lib.hid (Only.refl g w).drew
  have q16 : w.drew.cell? ⟨g, 16, none⟩ = some (.int .i64 v) := h.cell 16
  have d12 : w.drew.cell? ⟨g, 12, none⟩ = some (.int .i64 m.int) := h.cell 12
  have f0 := h.drew.frozen 12
  have c0 : w.drew.cell? ⟨vb, 0, none⟩ = some (.pointer (some ⟨g, 0, none⟩)) := hv
  clear h hv
  go_enter Try.func40, Try.ntmps40
  go_wp2
  go_still_tail 9, (by kernel_rfl)
  change wpList _ _ _ _ _ w.drew
  generalize w.drew = wq at *
  go_wp2
  go_end0
  exact ⟨rfl, HM.out.set 12 _, O0.out.setCell _ _ (Or.inl rfl)⟩

theorem met_does_now (m : Mt) (k i n v : Int) : Does 46 m k i n v { m with act := i } := by
  intro w g vb h hv hl hn
  have HM : Hid (Row w.drew g 55 (chg m k i n v)) := Lib.hid h.drew
  have O0 : Hid (Only g w w.drew) := Lib.hid (Only.refl g w).drew
  have q14 : w.drew.cell? ⟨g, 14, none⟩ = some (.int .i64 i) := h.cell 14
  have d9 : w.drew.cell? ⟨g, 9, none⟩ = some (.int .i64 m.act) := h.cell 9
  have f0 := h.drew.frozen 9
  have c0 : w.drew.cell? ⟨vb, 0, none⟩ = some (.pointer (some ⟨g, 0, none⟩)) := hv
  clear h hv
  go_enter Try.func46, Try.ntmps46
  go_wp2
  go_still_tail 9, (by kernel_rfl)
  change wpList _ _ _ _ _ w.drew
  generalize w.drew = wq at *
  go_wp2
  go_end0
  exact ⟨rfl, HM.out.set 9 _, O0.out.setCell _ _ (Or.inl rfl)⟩

theorem met_does_done (m : Mt) (k i n v : Int) : Does 41 m k i n v { m with int := 0 } := by
  intro w g vb h hv hl hn
  have HM := Lib.hid h
  have d12 : w.cell? ⟨g, 12, none⟩ = some (.int .i64 m.int) := h.cell 12
  have f0 := h.frozen 12
  clear h
  go_enter Try.func41, Try.ntmps41
  go_wp2
  go_end0
  exact ⟨rfl, HM.out.set 12 _, (Only.refl g w).setCell _ _ (Or.inl rfl)⟩

theorem met_does_bad (m : Mt) (k i n v : Int) : Does 33 m k i n v (m.spoil i) := by
  intro w g vb h hv hl hn
  have HL := Lib.hid (met_spoil_any m k i n v i g w.drew h.drew)
  have O0 : Hid (Only g w w.drew) := Lib.hid (Only.refl g w).drew
  have q14 : w.drew.cell? ⟨g, 14, none⟩ = some (.int .i64 i) := h.cell 14
  have c0 : w.drew.cell? ⟨vb, 0, none⟩ = some (.pointer (some ⟨g, 0, none⟩)) := hv
  clear h hv
  go_enter Try.func33, Try.ntmps33
  go_wp2
  go_still_tail 6, (by kernel_rfl)
  change wpList _ _ _ _ _ w.drew
  generalize w.drew = wq at *
  go_wp2_with (go_at_call 34; (with_reducible refine HL.out.mono ?_); rintro e u1 ⟨rfl, r1, o1⟩; have R1 := Lib.hid r1; have O1 := Lib.hid (O0.out.trans o1); clear r1 o1)
  go_end0
  exact ⟨rfl, R1.out, O1.out⟩

theorem met_does_drop (m : Mt) (k i n v : Int) : Does 43 m k i n v { m.spoil m.act with act := i } := by
  intro w g vb h hv hl hn
  have HL := Lib.hid (met_spoil_any m k i n v m.act g w.drew h.drew)
  have O0 : Hid (Only g w w.drew) := Lib.hid (Only.refl g w).drew
  have HV := Lib.hid hl
  have HN := Lib.hid hn
  have HC := Lib.hid hv
  have q9 : w.drew.cell? ⟨g, 9, none⟩ = some (.int .i64 m.act) := h.cell 9
  have c0 : w.drew.cell? ⟨vb, 0, none⟩ = some (.pointer (some ⟨g, 0, none⟩)) := hv
  obtain ⟨M1, hM1⟩ : ∃ M1, m.spoil m.act = M1 := ⟨_, rfl⟩
  rw [hM1] at HL ⊢
  clear h hv hl hn hM1
  go_enter Try.func43, Try.ntmps43
  go_wp2
  go_still_tail 6, (by kernel_rfl)
  change wpList _ _ _ _ _ w.drew
  generalize w.drew = wq at *
  go_wp2_with (go_at_call 34; (with_reducible refine HL.out.mono ?_); rintro e u1 ⟨rfl, r1, o1⟩; have HM : Hid (Row u1.drew g 55 (chg (M1) k i n v)) := Lib.hid (Row.drew r1); have O1 : Hid (Only g w u1.drew) := Lib.hid (Only.drew (O0.out.trans o1)); have z14 : u1.drew.cell? ⟨g, 14, none⟩ = some (.int .i64 i) := Row.cell r1 14; have z9 : u1.drew.cell? ⟨g, 9, none⟩ = some (.int .i64 (M1).act) := Row.cell r1 9; have g9 := Row.frozen (Row.drew r1) 9; have c1 : u1.drew.cell? ⟨vb, 0, none⟩ = some (.pointer (some ⟨g, 0, none⟩)) := cell_only (O0.out.trans o1) HV.out HN.out HC.out; clear r1 o1)
  go_still_tail 9, (by kernel_rfl)
  change wpList _ _ _ _ _ u1.drew
  generalize u1.drew = wq at *
  go_wp2
  go_end0
  exact ⟨rfl, HM.out.set 9 _, O1.out.setCell _ _ (Or.inl rfl)⟩

theorem met_does_activate (m : Mt) (k i n v : Int) : Does 37 m k i n v { (if m.trial.2 = true then m.spoil m.trial.1 else m) with act := i } := by
  intro w g vb h hv hl hn
  have HM0 : Hid (Row w g 55 ([] ++ mcs m ++ rcv k i n v)) := Lib.hid h
  have HT := Lib.hid (met_trial_any m)
  have HLM : Hid ((mcs m).length = 13) := Lib.hid rfl
  have HV := Lib.hid hl
  have HN := Lib.hid hn
  have HC := Lib.hid hv
  obtain ⟨t, b, htb⟩ : ∃ t b, m.trial = (t, b) := ⟨_, _, rfl⟩
  rw [htb] at HT ⊢
  have HL : Hid (∀ u, Row u g 55 (chg m k i n v) → _) := Lib.hid fun u hu => met_spoil_any m k i n v t g u hu
  obtain ⟨X, hX⟩ : ∃ X, mcs m = X := ⟨_, rfl⟩
  have HR := Lib.hid h
  rw [hX] at HM0 HT HLM
  clear h hl hn hX htb
  cases b with
  | true =>
    show Calls _ _ _ _ fun e w' => e = _ ∧ Row w' g _ (chg { m.spoil t with act := i } k i n v) ∧ _
    obtain ⟨M1, hM1⟩ : ∃ M1, m.spoil t = M1 := ⟨_, rfl⟩
    rw [hM1] at HL ⊢
    clear hM1
    go_enter Try.func37, Try.ntmps37
    go_wp2_with (first
      | ((with_reducible refine HM0.out.wpLoadMidK 0 rfl 28 fits_meta HLM.out ?_ ?_); rfl)
      | (go_at_call 10; (with_reducible refine (HT.out w).mono ?_); rintro e u1 ⟨rfl, b1⟩; have R1 := Lib.hid (HR.out.step b1); have O1 := Lib.hid (Only.of_below (g := g) b1); have c1 := cell_only O1.out HV.out HN.out HC.out; clear b1)
      | (go_at_call 34; (with_reducible refine (HL.out u1 R1.out).mono ?_); rintro e u2 ⟨rfl, r2, o2⟩; have HM : Hid (Row u2.drew g 55 (chg (M1) k i n v)) := Lib.hid (Row.drew r2); have O2 : Hid (Only g w u2.drew) := Lib.hid (Only.drew (O1.out.trans o2)); have z14 : u2.drew.cell? ⟨g, 14, none⟩ = some (.int .i64 i) := Row.cell r2 14; have z9 : u2.drew.cell? ⟨g, 9, none⟩ = some (.int .i64 (M1).act) := Row.cell r2 9; have g9 := Row.frozen (Row.drew r2) 9; have c2 : u2.drew.cell? ⟨vb, 0, none⟩ = some (.pointer (some ⟨g, 0, none⟩)) := cell_only (O1.out.trans o2) HV.out HN.out HC.out; clear r2 o2))
    go_still_tail 9, (by kernel_rfl)
    change wpList _ _ _ _ _ u2.drew
    generalize u2.drew = wq at *
    go_wp2
    go_end0
    exact ⟨rfl, HM.out.set 9 _, O2.out.setCell _ _ (Or.inl rfl)⟩
  | false =>
    show Calls _ _ _ _ fun e w' => e = _ ∧ Row w' g _ (chg { m with act := i } k i n v) ∧ _
    go_enter Try.func37, Try.ntmps37
    go_wp2_with (first
      | ((with_reducible refine HM0.out.wpLoadMidK 0 rfl 28 fits_meta HLM.out ?_ ?_); rfl)
      | (go_at_call 10; (with_reducible refine (HT.out w).mono ?_); rintro e u1 ⟨rfl, b1⟩; have r1 := HR.out.step b1; have o1 : Only g w u1 := Only.of_below b1; have HM : Hid (Row u1.drew g 55 (chg (m) k i n v)) := Lib.hid (Row.drew r1); have O1 : Hid (Only g w u1.drew) := Lib.hid (Only.drew o1); have z14 : u1.drew.cell? ⟨g, 14, none⟩ = some (.int .i64 i) := Row.cell r1 14; have z9 : u1.drew.cell? ⟨g, 9, none⟩ = some (.int .i64 (m).act) := Row.cell r1 9; have g9 := Row.frozen (Row.drew r1) 9; have c1 : u1.drew.cell? ⟨vb, 0, none⟩ = some (.pointer (some ⟨g, 0, none⟩)) := cell_only o1 HV.out HN.out HC.out; clear b1 r1 o1))
    go_still_tail 9, (by kernel_rfl)
    change wpList _ _ _ _ _ u1.drew
    generalize u1.drew = wq at *
    go_wp2
    go_end0
    exact ⟨rfl, HM.out.set 9 _, O1.out.setCell _ _ (Or.inl rfl)⟩

theorem met_does_try (m : Mt) (k i n v : Int) (hi : isS i = true) : Does 31 m k i n v { m.put i ⟨3, (m.get i).v, v⟩ with act := i } := by
  intro w g vb h hv hl hn
  have O0 : Hid (Only g w w.drew) := Lib.hid (Only.refl g w).drew
  have HV := Lib.hid hl
  have HN := Lib.hid hn
  have HC := Lib.hid hv
  have c0 : w.drew.cell? ⟨vb, 0, none⟩ = some (.pointer (some ⟨g, 0, none⟩)) := hv
  have HR := Lib.hid h
  have hi' := isS_is.1 hi
  clear h hv hl hn hi
  rcases hi' with rfl | rfl | rfl
  · show Calls _ _ _ _ fun e w' => e = _ ∧ Row w' g _ (chg { m.put 0 ⟨3, m.a.v, v⟩ with act := 0 } k 0 n v) ∧ _
    have HL := Lib.hid (met_let_at m k 0 n v 3 m.a.v v g rfl w.drew HR.out.drew)
    have q14 : w.drew.cell? ⟨g, 14, none⟩ = some (.int .i64 0) := HR.out.cell 14
    have q16 : w.drew.cell? ⟨g, 16, none⟩ = some (.int .i64 v) := HR.out.cell 16
    have qv : w.drew.cell? ⟨g, 1, none⟩ = some (.int .i64 m.a.v) := HR.out.cell 1
    obtain ⟨M1, hM1⟩ : ∃ M1, m.put 0 ⟨3, m.a.v, v⟩ = M1 := ⟨_, rfl⟩
    rw [hM1] at HL ⊢
    clear hM1
    go_enter Try.func31, Try.ntmps31
    go_wp2
    go_still_tail 19, (by kernel_rfl)
    change wpList _ _ _ _ _ w.drew
    generalize w.drew = wq at *
    go_wp2_with (go_at_call 28; (with_reducible refine HL.out.mono ?_); rintro e u1 ⟨rfl, r1, o1⟩; have HM : Hid (Row u1.drew g 55 (chg (M1) k 0 n v)) := Lib.hid (Row.drew r1); have O1 : Hid (Only g w u1.drew) := Lib.hid (Only.drew (O0.out.trans o1)); have z14 : u1.drew.cell? ⟨g, 14, none⟩ = some (.int .i64 0) := Row.cell r1 14; have z9 : u1.drew.cell? ⟨g, 9, none⟩ = some (.int .i64 (M1).act) := Row.cell r1 9; have g9 := Row.frozen (Row.drew r1) 9; have c1 : u1.drew.cell? ⟨vb, 0, none⟩ = some (.pointer (some ⟨g, 0, none⟩)) := cell_only (O0.out.trans o1) HV.out HN.out HC.out; clear r1 o1)
    go_still_tail 9, (by kernel_rfl)
    change wpList _ _ _ _ _ u1.drew
    generalize u1.drew = wq at *
    go_wp2
    go_end0
    exact ⟨rfl, HM.out.set 9 _, O1.out.setCell _ _ (Or.inl rfl)⟩
  · show Calls _ _ _ _ fun e w' => e = _ ∧ Row w' g _ (chg { m.put 1 ⟨3, m.b.v, v⟩ with act := 1 } k 1 n v) ∧ _
    have HL := Lib.hid (met_let_at m k 1 n v 3 m.b.v v g rfl w.drew HR.out.drew)
    have q14 : w.drew.cell? ⟨g, 14, none⟩ = some (.int .i64 1) := HR.out.cell 14
    have q16 : w.drew.cell? ⟨g, 16, none⟩ = some (.int .i64 v) := HR.out.cell 16
    have qv : w.drew.cell? ⟨g, 4, none⟩ = some (.int .i64 m.b.v) := HR.out.cell 4
    obtain ⟨M1, hM1⟩ : ∃ M1, m.put 1 ⟨3, m.b.v, v⟩ = M1 := ⟨_, rfl⟩
    rw [hM1] at HL ⊢
    clear hM1
    go_enter Try.func31, Try.ntmps31
    go_wp2
    go_still_tail 19, (by kernel_rfl)
    change wpList _ _ _ _ _ w.drew
    generalize w.drew = wq at *
    go_wp2_with (go_at_call 28; (with_reducible refine HL.out.mono ?_); rintro e u1 ⟨rfl, r1, o1⟩; have HM : Hid (Row u1.drew g 55 (chg (M1) k 1 n v)) := Lib.hid (Row.drew r1); have O1 : Hid (Only g w u1.drew) := Lib.hid (Only.drew (O0.out.trans o1)); have z14 : u1.drew.cell? ⟨g, 14, none⟩ = some (.int .i64 1) := Row.cell r1 14; have z9 : u1.drew.cell? ⟨g, 9, none⟩ = some (.int .i64 (M1).act) := Row.cell r1 9; have g9 := Row.frozen (Row.drew r1) 9; have c1 : u1.drew.cell? ⟨vb, 0, none⟩ = some (.pointer (some ⟨g, 0, none⟩)) := cell_only (O0.out.trans o1) HV.out HN.out HC.out; clear r1 o1)
    go_still_tail 9, (by kernel_rfl)
    change wpList _ _ _ _ _ u1.drew
    generalize u1.drew = wq at *
    go_wp2
    go_end0
    exact ⟨rfl, HM.out.set 9 _, O1.out.setCell _ _ (Or.inl rfl)⟩
  · show Calls _ _ _ _ fun e w' => e = _ ∧ Row w' g _ (chg { m.put 2 ⟨3, m.c.v, v⟩ with act := 2 } k 2 n v) ∧ _
    have HL := Lib.hid (met_let_at m k 2 n v 3 m.c.v v g rfl w.drew HR.out.drew)
    have q14 : w.drew.cell? ⟨g, 14, none⟩ = some (.int .i64 2) := HR.out.cell 14
    have q16 : w.drew.cell? ⟨g, 16, none⟩ = some (.int .i64 v) := HR.out.cell 16
    have qv : w.drew.cell? ⟨g, 7, none⟩ = some (.int .i64 m.c.v) := HR.out.cell 7
    obtain ⟨M1, hM1⟩ : ∃ M1, m.put 2 ⟨3, m.c.v, v⟩ = M1 := ⟨_, rfl⟩
    rw [hM1] at HL ⊢
    clear hM1
    go_enter Try.func31, Try.ntmps31
    go_wp2
    go_still_tail 19, (by kernel_rfl)
    change wpList _ _ _ _ _ w.drew
    generalize w.drew = wq at *
    go_wp2_with (go_at_call 28; (with_reducible refine HL.out.mono ?_); rintro e u1 ⟨rfl, r1, o1⟩; have HM : Hid (Row u1.drew g 55 (chg (M1) k 2 n v)) := Lib.hid (Row.drew r1); have O1 : Hid (Only g w u1.drew) := Lib.hid (Only.drew (O0.out.trans o1)); have z14 : u1.drew.cell? ⟨g, 14, none⟩ = some (.int .i64 2) := Row.cell r1 14; have z9 : u1.drew.cell? ⟨g, 9, none⟩ = some (.int .i64 (M1).act) := Row.cell r1 9; have g9 := Row.frozen (Row.drew r1) 9; have c1 : u1.drew.cell? ⟨vb, 0, none⟩ = some (.pointer (some ⟨g, 0, none⟩)) := cell_only (O0.out.trans o1) HV.out HN.out HC.out; clear r1 o1)
    go_still_tail 9, (by kernel_rfl)
    change wpList _ _ _ _ _ u1.drew
    generalize u1.drew = wq at *
    go_wp2
    go_end0
    exact ⟨rfl, HM.out.set 9 _, O1.out.setCell _ _ (Or.inl rfl)⟩

theorem met_does_confirm (m : Mt) (k i n v : Int) (hi : isS i = true) : Does 32 m k i n v { m.put i ⟨4, (m.get i).v, 0⟩ with flo := max m.flo (m.get i).v } := by
  intro w g vb h hv hl hn
  have HV := Lib.hid hl
  have HN := Lib.hid hn
  have HC := Lib.hid hv
  have HR := Lib.hid h
  have hi' := isS_is.1 hi
  clear h hl hn hi
  rcases hi' with rfl | rfl | rfl
  · show Calls _ _ _ _ fun e w' => e = _ ∧ Row w' g _ (chg { m.put 0 ⟨4, m.a.v, 0⟩ with flo := max m.flo m.a.v } k 0 n v) ∧ _
    have HL : Hid (∀ d, _) := Lib.hid fun d => met_let_at m k 0 n v 4 m.a.v 0 g rfl (w.drewN d) (HR.out.drewN d)
    have HO : Hid (∀ d, Only g w (w.drewN d)) := Lib.hid fun d => (Only.refl g w).drewN d
    have q14 : w.cell? ⟨g, 14, none⟩ = some (.int .i64 0) := HR.out.cell 14
    have qv : w.cell? ⟨g, 1, none⟩ = some (.int .i64 m.a.v) := HR.out.cell 1
    obtain ⟨X, hX⟩ : ∃ X, m.a.v = X := ⟨_, rfl⟩
    obtain ⟨M1, hM1⟩ : ∃ M1, m.put 0 ⟨4, m.a.v, 0⟩ = M1 := ⟨_, rfl⟩
    have HF : Hid (M1.flo = m.flo) := Lib.hid (by rw [← hM1]; rfl)
    rw [hM1] at HL ⊢
    rw [hX] at qv HL ⊢
    clear hM1 hX
    go_enter Try.func32, Try.ntmps32
    go_wp2
    go_quiet (fail)
    go_wp2_with (go_at_call 28; refine (HL.out _).mono ?_; rintro e u1 ⟨rfl, r1, o1⟩; have HM : Hid (Row u1.drew g 55 (chg M1 k 0 n v)) := Lib.hid (Row.drew r1); have O1 : Hid (Only g w u1.drew) := Lib.hid (Only.drew ((HO.out _).trans o1)); have z10 : u1.drew.cell? ⟨g, 10, none⟩ = some (.int .i64 m.flo) := (Row.cell r1 10).trans (by rw [← HF.out]; rfl); have g10 := Row.frozen (Row.drew r1) 10; have c1 : u1.drew.cell? ⟨vb, 0, none⟩ = some (.pointer (some ⟨g, 0, none⟩)) := cell_only ((HO.out _).trans o1) HV.out HN.out HC.out; clear r1 o1)
    go_still_tail 11, (by kernel_rfl)
    change wpList _ _ _ _ _ u1.drew
    generalize u1.drew = wq at *
    go_wp2
    · go_end0
      rw [show max m.flo X = X by omega]
      exact ⟨rfl, HM.out.set 10 _, O1.out.setCell _ _ (Or.inl rfl)⟩
    · go_end0
      rw [show max m.flo X = m.flo by omega]
      exact ⟨rfl, HM.out.set 10 _, O1.out.setCell _ _ (Or.inl rfl)⟩
  · show Calls _ _ _ _ fun e w' => e = _ ∧ Row w' g _ (chg { m.put 1 ⟨4, m.b.v, 0⟩ with flo := max m.flo m.b.v } k 1 n v) ∧ _
    have HL : Hid (∀ d, _) := Lib.hid fun d => met_let_at m k 1 n v 4 m.b.v 0 g rfl (w.drewN d) (HR.out.drewN d)
    have HO : Hid (∀ d, Only g w (w.drewN d)) := Lib.hid fun d => (Only.refl g w).drewN d
    have q14 : w.cell? ⟨g, 14, none⟩ = some (.int .i64 1) := HR.out.cell 14
    have qv : w.cell? ⟨g, 4, none⟩ = some (.int .i64 m.b.v) := HR.out.cell 4
    obtain ⟨X, hX⟩ : ∃ X, m.b.v = X := ⟨_, rfl⟩
    obtain ⟨M1, hM1⟩ : ∃ M1, m.put 1 ⟨4, m.b.v, 0⟩ = M1 := ⟨_, rfl⟩
    have HF : Hid (M1.flo = m.flo) := Lib.hid (by rw [← hM1]; rfl)
    rw [hM1] at HL ⊢
    rw [hX] at qv HL ⊢
    clear hM1 hX
    go_enter Try.func32, Try.ntmps32
    go_wp2
    go_quiet (fail)
    go_wp2_with (go_at_call 28; refine (HL.out _).mono ?_; rintro e u1 ⟨rfl, r1, o1⟩; have HM : Hid (Row u1.drew g 55 (chg M1 k 1 n v)) := Lib.hid (Row.drew r1); have O1 : Hid (Only g w u1.drew) := Lib.hid (Only.drew ((HO.out _).trans o1)); have z10 : u1.drew.cell? ⟨g, 10, none⟩ = some (.int .i64 m.flo) := (Row.cell r1 10).trans (by rw [← HF.out]; rfl); have g10 := Row.frozen (Row.drew r1) 10; have c1 : u1.drew.cell? ⟨vb, 0, none⟩ = some (.pointer (some ⟨g, 0, none⟩)) := cell_only ((HO.out _).trans o1) HV.out HN.out HC.out; clear r1 o1)
    go_still_tail 11, (by kernel_rfl)
    change wpList _ _ _ _ _ u1.drew
    generalize u1.drew = wq at *
    go_wp2
    · go_end0
      rw [show max m.flo X = X by omega]
      exact ⟨rfl, HM.out.set 10 _, O1.out.setCell _ _ (Or.inl rfl)⟩
    · go_end0
      rw [show max m.flo X = m.flo by omega]
      exact ⟨rfl, HM.out.set 10 _, O1.out.setCell _ _ (Or.inl rfl)⟩
  · show Calls _ _ _ _ fun e w' => e = _ ∧ Row w' g _ (chg { m.put 2 ⟨4, m.c.v, 0⟩ with flo := max m.flo m.c.v } k 2 n v) ∧ _
    have HL : Hid (∀ d, _) := Lib.hid fun d => met_let_at m k 2 n v 4 m.c.v 0 g rfl (w.drewN d) (HR.out.drewN d)
    have HO : Hid (∀ d, Only g w (w.drewN d)) := Lib.hid fun d => (Only.refl g w).drewN d
    have q14 : w.cell? ⟨g, 14, none⟩ = some (.int .i64 2) := HR.out.cell 14
    have qv : w.cell? ⟨g, 7, none⟩ = some (.int .i64 m.c.v) := HR.out.cell 7
    obtain ⟨X, hX⟩ : ∃ X, m.c.v = X := ⟨_, rfl⟩
    obtain ⟨M1, hM1⟩ : ∃ M1, m.put 2 ⟨4, m.c.v, 0⟩ = M1 := ⟨_, rfl⟩
    have HF : Hid (M1.flo = m.flo) := Lib.hid (by rw [← hM1]; rfl)
    rw [hM1] at HL ⊢
    rw [hX] at qv HL ⊢
    clear hM1 hX
    go_enter Try.func32, Try.ntmps32
    go_wp2
    go_quiet (fail)
    go_wp2_with (go_at_call 28; refine (HL.out _).mono ?_; rintro e u1 ⟨rfl, r1, o1⟩; have HM : Hid (Row u1.drew g 55 (chg M1 k 2 n v)) := Lib.hid (Row.drew r1); have O1 : Hid (Only g w u1.drew) := Lib.hid (Only.drew ((HO.out _).trans o1)); have z10 : u1.drew.cell? ⟨g, 10, none⟩ = some (.int .i64 m.flo) := (Row.cell r1 10).trans (by rw [← HF.out]; rfl); have g10 := Row.frozen (Row.drew r1) 10; have c1 : u1.drew.cell? ⟨vb, 0, none⟩ = some (.pointer (some ⟨g, 0, none⟩)) := cell_only ((HO.out _).trans o1) HV.out HN.out HC.out; clear r1 o1)
    go_still_tail 11, (by kernel_rfl)
    change wpList _ _ _ _ _ u1.drew
    generalize u1.drew = wq at *
    go_wp2
    · go_end0
      rw [show max m.flo X = X by omega]
      exact ⟨rfl, HM.out.set 10 _, O1.out.setCell _ _ (Or.inl rfl)⟩
    · go_end0
      rw [show max m.flo X = m.flo by omega]
      exact ⟨rfl, HM.out.set 10 _, O1.out.setCell _ _ (Or.inl rfl)⟩

theorem met_does_began (m : Mt) (k i n v : Int) (hi : isS i = true) : Does 47 m k i n v (m.put i ⟨(m.get i).s, (m.get i).v, v⟩) := by
  intro w g vb h hv hl hn
  have O0 : Hid (Only g w w.drew) := Lib.hid (Only.refl g w).drew
  have c0 : w.drew.cell? ⟨vb, 0, none⟩ = some (.pointer (some ⟨g, 0, none⟩)) := hv
  have HM : Hid (Row w.drew g 55 (chg m k i n v)) := Lib.hid h.drew
  have q16 : w.drew.cell? ⟨g, 16, none⟩ = some (.int .i64 v) := h.cell 16
  have hi' := isS_is.1 hi
  rcases hi' with rfl | rfl | rfl
  · have q14 : w.drew.cell? ⟨g, 14, none⟩ = some (.int .i64 0) := h.cell 14
    have d0 : w.drew.cell? ⟨g, 2, none⟩ = some (.int .i64 m.a.b) := h.cell 2
    have f0 := h.drew.frozen 2
    clear h hv hi
    go_enter Try.func47, Try.ntmps47
    go_wp2
    go_still_tail 16, (by kernel_rfl)
    change wpList _ _ _ _ _ w.drew
    generalize w.drew = wq at *
    go_wp2
    go_end0
    exact ⟨rfl, HM.out.set 2 _, O0.out.setCell _ _ (Or.inl rfl)⟩
  · have q14 : w.drew.cell? ⟨g, 14, none⟩ = some (.int .i64 1) := h.cell 14
    have d0 : w.drew.cell? ⟨g, 5, none⟩ = some (.int .i64 m.b.b) := h.cell 5
    have f0 := h.drew.frozen 5
    clear h hv hi
    go_enter Try.func47, Try.ntmps47
    go_wp2
    go_still_tail 16, (by kernel_rfl)
    change wpList _ _ _ _ _ w.drew
    generalize w.drew = wq at *
    go_wp2
    go_end0
    exact ⟨rfl, HM.out.set 5 _, O0.out.setCell _ _ (Or.inl rfl)⟩
  · have q14 : w.drew.cell? ⟨g, 14, none⟩ = some (.int .i64 2) := h.cell 14
    have d0 : w.drew.cell? ⟨g, 8, none⟩ = some (.int .i64 m.c.b) := h.cell 8
    have f0 := h.drew.frozen 8
    clear h hv hi
    go_enter Try.func47, Try.ntmps47
    go_wp2
    go_still_tail 16, (by kernel_rfl)
    change wpList _ _ _ _ _ w.drew
    generalize w.drew = wq at *
    go_wp2
    go_end0
    exact ⟨rfl, HM.out.set 8 _, O0.out.setCell _ _ (Or.inl rfl)⟩

theorem met_does_is (m : Mt) (k i n v : Int) (hi : isS i = true) (hk : 0 ≤ k ∧ k < 128) : Does 48 m k i n v (m.put i ⟨k - 100, v, (m.get i).b⟩) := by
  intro w g vb h hv hl hn
  have O0 : Hid (Only g w w.drew) := Lib.hid (Only.refl g w).drew
  have c0 : w.drew.cell? ⟨vb, 0, none⟩ = some (.pointer (some ⟨g, 0, none⟩)) := hv
  have q16 : w.drew.cell? ⟨g, 16, none⟩ = some (.int .i64 v) := h.cell 16
  have q13 : w.drew.cell? ⟨g, 13, none⟩ = some (.int .i64 k) := h.cell 13
  have HR := Lib.hid h
  have hi' := isS_is.1 hi
  obtain ⟨hk0, hk1⟩ := hk
  rcases hi' with rfl | rfl | rfl
  · have q14 : w.drew.cell? ⟨g, 14, none⟩ = some (.int .i64 0) := h.cell 14
    have d0 : w.drew.cell? ⟨g, 2, none⟩ = some (.int .i64 m.a.b) := h.cell 2
    have HL := Lib.hid (met_let_at m k 0 n v (k - 100) v m.a.b g rfl w.drew h.drew)
    clear h hv hi
    go_enter Try.func48, Try.ntmps48
    go_wp2
    go_still_tail 25, (by kernel_rfl)
    change wpList _ _ _ _ _ w.drew
    generalize w.drew = wq at *
    go_wp2_with (go_at_call 28; (with_reducible refine HL.out.mono ?_); rintro e u1 ⟨rfl, r1, o1⟩; have R1 := Lib.hid r1; have O1 := Lib.hid (O0.out.trans o1); clear r1 o1)
    go_end0
    exact ⟨rfl, R1.out, O1.out⟩
  · have q14 : w.drew.cell? ⟨g, 14, none⟩ = some (.int .i64 1) := h.cell 14
    have d0 : w.drew.cell? ⟨g, 5, none⟩ = some (.int .i64 m.b.b) := h.cell 5
    have HL := Lib.hid (met_let_at m k 1 n v (k - 100) v m.b.b g rfl w.drew h.drew)
    clear h hv hi
    go_enter Try.func48, Try.ntmps48
    go_wp2
    go_still_tail 25, (by kernel_rfl)
    change wpList _ _ _ _ _ w.drew
    generalize w.drew = wq at *
    go_wp2_with (go_at_call 28; (with_reducible refine HL.out.mono ?_); rintro e u1 ⟨rfl, r1, o1⟩; have R1 := Lib.hid r1; have O1 := Lib.hid (O0.out.trans o1); clear r1 o1)
    go_end0
    exact ⟨rfl, R1.out, O1.out⟩
  · have q14 : w.drew.cell? ⟨g, 14, none⟩ = some (.int .i64 2) := h.cell 14
    have d0 : w.drew.cell? ⟨g, 8, none⟩ = some (.int .i64 m.c.b) := h.cell 8
    have HL := Lib.hid (met_let_at m k 2 n v (k - 100) v m.c.b g rfl w.drew h.drew)
    clear h hv hi
    go_enter Try.func48, Try.ntmps48
    go_wp2
    go_still_tail 25, (by kernel_rfl)
    change wpList _ _ _ _ _ w.drew
    generalize w.drew = wq at *
    go_wp2_with (go_at_call 28; (with_reducible refine HL.out.mono ?_); rintro e u1 ⟨rfl, r1, o1⟩; have R1 := Lib.hid r1; have O1 := Lib.hid (O0.out.trans o1); clear r1 o1)
    go_end0
    exact ⟨rfl, R1.out, O1.out⟩
end Go.Proofs.Ytbpdnaiackfdmaa
