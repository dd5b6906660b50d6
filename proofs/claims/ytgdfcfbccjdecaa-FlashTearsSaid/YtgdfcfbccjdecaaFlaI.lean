/- Contracts of flash: work. (gen_fla_work.py) -/
import Derived.Test.YtgdfcfbccjdecaaFlaH
namespace Go.Proofs.Ytgdfcfbccjdecaa
open Go.RowKit FlaMath
set_option linter.unusedVariables false
set_option maxRecDepth 100000

/-- What an erase or a program of the bytes o .. makes of a device that is up. -/
def workD (D : Dv) (o n : Nat) (f g : Nat → UInt8 → UInt8) : Dv :=
  { burned D with ops := wrap64 (D.ops + 1), dn := burnB D, C := FlaMath.work D.C o n (if burnB D then reach D.fb n else n) f g }
theorem burned_C (D : Dv) : (burned D).C = D.C := by unfold burned; split <;> rfl
theorem burned_fm (D : Dv) : (burned D).fm = D.fm := by unfold burned; split <;> rfl
theorem burned_fb (D : Dv) : (burned D).fb = D.fb := by unfold burned; split <;> rfl
theorem burned_dn (D : Dv) : (burned D).dn = D.dn := by unfold burned; split <;> rfl
theorem burned_L (D : Dv) : (burned D).L = D.L := by unfold burned; split <;> rfl
theorem burned_E (D : Dv) : (burned D).E = D.E := by unfold burned; split <;> rfl
theorem burned_ops (D : Dv) (p : Int) : burned { D with ops := p } = { burned D with ops := p } := by unfold burned; cases h : D.lit <;> simp [h]
theorem dv_same {D D' : Dv} (h1 : D.fb = D'.fb) (h2 : D.fm = D'.fm) (h3 : D.lit = D'.lit) (h4 : D.left = D'.left) (h5 : D.C = D'.C) (h6 : D.L = D'.L) (h7 : D.E = D'.E) (h8 : D.ops = D'.ops) (h9 : D.dn = D'.dn) : D = D' := by
  cases D; cases D'; simp_all
theorem tornA (s : Sh) (D : Dv) : devL s D = [] ++ [Value.int .i64 D.fb, .int .u8 (D.fm.toNat : Int)] ++ (devL s D).drop 2 := rfl

set_option maxHeartbeats 1000000 in
theorem workE_false (s : Sh) (D : Dv) (o n cp vb vd : Nat) (w : World) (h : Dev w s D) (hv : CapE w s o n cp vb vd) (ho : o + n ≤ D.C.length) (hn : n ≤ 1000) (hB : burnB D = false) (hdn : D.dn = false) :
    Calls Try.prog 28 #[.pointer (some ⟨s.b, 0, none⟩), .int .i64 (n : Int), .func (.func 40) #[] #[.pointer (some ⟨vb, 0, none⟩)], .func (.func 41) #[] #[.pointer (some ⟨vb, 0, none⟩), .pointer (some ⟨vd, 0, none⟩)]] w
      fun e w' => e = .returned (.int .i64 (idl false)) ∧ Dev w' s (workD D o n fE (gE D.fm)) ∧ Onl s.S w w' := by
  obtain ⟨p, hp⟩ : ∃ p, wrap64 (D.ops + 1) = p := ⟨_, rfl⟩
  have h7 := h.c7
  have R0 : Hid (Row w s.b 58 (devL s D)) := Lib.hid h.row
  have HL : Hid (7 < (devL s D).length) := Lib.hid (by rw [devL_length]; decide)
  have HL8 : Hid (∀ D', 8 < (devL s D').length) := Lib.hid fun D' => by rw [devL_length]; decide
  have HD := Lib.hid h
  have HE : Hid ((devL s D).set 7 (.int .i64 p) = devL s { D with ops := p }) := Lib.hid rfl
  obtain ⟨D2, hD2⟩ : ∃ D2, D2 = burned { D with ops := p } := ⟨_, rfl⟩
  have HBU : Hid (∀ w1, Dev w1 s { D with ops := p } → Calls Try.prog 46 #[.pointer (some ⟨s.b, 0, none⟩)] w1 fun e w' => e = .returned (.bool false) ∧ Dev w' s D2 ∧ Onl s.S w1 w') := Lib.hid fun w1 h1 => by
    have := burn_any s _ w1 h1
    rw [← hD2, show burnB { D with ops := p } = false from hB] at this
    exact this
  obtain ⟨D3, hD3⟩ : ∃ D3, D3 = { D2 with dn := false } := ⟨_, rfl⟩
  have h3C : D3.C = D.C := by rw [hD3, hD2]; exact burned_C _
  have h2fb : D2.fb = D.fb := by rw [hD2]; exact burned_fb _
  have h3fm : D3.fm = D.fm := by rw [hD3, hD2]; exact burned_fm _
  have h3dn : D3.dn = false := by rw [hD3]
  have HD23 : Hid (D2 = D3) := Lib.hid (by rw [hD3]; have : D2.dn = false := by rw [hD2, burned_dn]; exact hdn
                                           cases D2; simp_all)
  obtain ⟨r, hr⟩ : ∃ r, (if burnB D then reach D.fb n else n) = r := ⟨_, rfl⟩
  have hrn : r = n := by rw [hB, if_neg (by simp)] at hr; exact hr.symm
  have hrle : r ≤ n := by omega
  have HF : Hid (∀ C, C = FlaMath.work D.C o n r fE (gE D.fm) → { D3 with C := C } = workD D o n fE (gE D.fm)) := Lib.hid fun C hC => by
    rw [hC, hD3, hD2, burned_ops, hp.symm, workD, hr, hB]
  have HOC : Hid (∀ wx, Onl s.S w wx → CapE wx s o n cp vb vd) := Lib.hid fun wx hx => hv.onl hx
  have H1 : Hid (∀ wx k, Dev wx s { D3 with C := prog D.C o k fE } → Onl s.S w wx → k < n → Calls Try.prog 40 #[.int .i64 (k : Int), .pointer (some ⟨vb, 0, none⟩)] wx fun e w' => e = .returned (.tuple #[]) ∧ Dev w' s { D3 with C := prog D.C o (k + 1) fE } ∧ Onl s.S wx w') := Lib.hid fun wx k h1 h2 h3 => by
    have hlt : o + k < D.C.length := by omega
    have hc : o + k < ({ D3 with C := prog D.C o k fE } : Dv).C.length := by show _ < (prog _ _ _ _).length; rw [prog_length]; exact hlt
    have := erase1_any s _ o n cp vb vd k wx h1 (HOC.out wx h2) h3 hc
    have e : ({ D3 with C := prog D.C o k fE } : Dv).C.set (o + k) (fE k ({ D3 with C := prog D.C o k fE } : Dv).C[o + k]) = prog D.C o (k + 1) fE := by
      show (prog D.C o k fE).set (o + k) (fE k ((prog D.C o k fE)[o + k])) = _
      rw [prog_at D.C o k _ hlt]
      exact prog_step D.C o k _ hlt
    rw [e] at this
    exact this
  have HID : Hid (∀ wx Dx, Dev wx s Dx → Dx.dn = false → Calls Try.prog 26 #[.pointer (some ⟨s.b, 0, none⟩)] wx fun e w' => e = .returned (.int .i64 (idl false)) ∧ wx = w') := Lib.hid fun wx Dx h1 h2 => by
    have := idle_any s Dx wx h1; rwa [h2] at this
  have HW : Hid ((workD D o n fE (gE D.fm)).dn = false) := Lib.hid hB
  have H3 : Hid (∀ wx, Dev wx s { D3 with C := prog D.C o n fE } → r = n → Dev wx s (workD D o n fE (gE D.fm))) := Lib.hid fun wx h1 hq => by
    rw [← HF.out _ rfl, FlaMath.work, if_neg (by omega), hq]; exact h1
  have H0 : Hid (Dev w s D → ∀ wx, Dev wx s D3 → Dev wx s { D3 with C := prog D.C o 0 fE }) := Lib.hid fun _ wx h1 => by rw [prog_zero, ← h3C]; exact h1
  have HR := Lib.hid hrle
  have HHV := Lib.hid hv
  have hrI : (r : Int) ≤ n := by omega
  have hrM : (r : Int) ≤ 1000 := by omega
  subst hrn
  clear h hv ho hn hB hdn hD2 hD3 h3C h2fb h3fm h3dn hr hrle
  go_enter Try.func28, Try.ntmps28
  go_wp2_with (first
    | ((with_reducible refine R0.out.wpStore1K 7 3 (.int .i64 p) finfo_int HL.out (int_cells _ _) (int_one _ _) ?_ ?_); (simp only [storeOf, Act.eval]; exact congrArg (fun z => some (_, _, Value.int .i64 z)) hp); intro w1 r1 o1 s1; have D1 := Lib.hid (HD.out.put { D with ops := p } (by rw [← HE.out]; exact r1) o1 rfl rfl rfl); have O1 := Lib.hid (Onl.of_only o1 s.b_mem); clear r1 o1 s1)
    | (go_at_call 46; (with_reducible refine (HBU.out w1 D1.out).mono ?_); rintro e w2 ⟨rfl, d2, o2⟩; have D2' := Lib.hid d2; have R2 := Lib.hid d2.row; have O2 := Lib.hid (O1.out.trans o2); clear d2 o2)
    )
  go_loopw [34] (fun x wr => ∃ k : Nat, k ≤ r ∧ x = .int .i64 k ∧ Dev wr s { D3 with C := prog D.C o k fE } ∧ Onl s.S w wr) (fun x _ => r - (intOf x).toNat)
  case atStart => exact ⟨0, Nat.zero_le _, rfl, H0.out HD.out _ (by rw [← HD23.out]; exact D2'.out), O2.out⟩
  case round =>
    obtain ⟨k, hk, rfl, hd, hoo⟩ := hrel
    by_cases hlt : k < r
    · have e1 : (k : Int) < r := by omega
      have ew : wrap64 ((k : Int) + 1) = (k : Int) + 1 := by unfold wrap64; omega
      have HC := Lib.hid (H1.out wr k hd hoo (by have := HR.out; omega))
      have HO := Lib.hid hoo
      clear hd hoo
      go_wp2_with (go_at_call 40; (with_reducible refine HC.out.mono ?_); rintro e w5 ⟨rfl, d5, o5⟩; have D5 := Lib.hid d5; have O5 := Lib.hid (HO.out.trans o5); clear d5 o5)
      go_roundw
      case rel => exact ⟨k + 1, by omega, by go_num, D5.out, O5.out⟩
      case measure => simp [intOf]; omega
    · have ek : k = r := by omega
      subst ek
      have D5 : Hid (Dev wr s (workD D o k fE (gE D.fm))) := Lib.hid (H3.out wr hd (by simp))
      have HI5 := Lib.hid (HID.out wr _ D5.out HW.out)
      have HO := Lib.hid hoo
      clear hd hoo
      go_wp2_with (go_at_call 26; (with_reducible refine HI5.out.mono ?_); rintro e w6 ⟨rfl, rfl⟩)
      go_ret
      exact ⟨rfl, D5.out, HO.out⟩

set_option maxHeartbeats 1000000 in
theorem workE_true (s : Sh) (D : Dv) (o n cp vb vd : Nat) (w : World) (h : Dev w s D) (hv : CapE w s o n cp vb vd) (ho : o + n ≤ D.C.length) (hn : n ≤ 1000) (hB : burnB D = true) (hdn : D.dn = false) :
    Calls Try.prog 28 #[.pointer (some ⟨s.b, 0, none⟩), .int .i64 (n : Int), .func (.func 40) #[] #[.pointer (some ⟨vb, 0, none⟩)], .func (.func 41) #[] #[.pointer (some ⟨vb, 0, none⟩), .pointer (some ⟨vd, 0, none⟩)]] w
      fun e w' => e = .returned (.int .i64 (idl true)) ∧ Dev w' s (workD D o n fE (gE D.fm)) ∧ Onl s.S w w' := by
  obtain ⟨p, hp⟩ : ∃ p, wrap64 (D.ops + 1) = p := ⟨_, rfl⟩
  have h7 := h.c7
  have R0 : Hid (Row w s.b 58 (devL s D)) := Lib.hid h.row
  have HL : Hid (7 < (devL s D).length) := Lib.hid (by rw [devL_length]; decide)
  have HL8 : Hid (∀ D', 8 < (devL s D').length) := Lib.hid fun D' => by rw [devL_length]; decide
  have HD := Lib.hid h
  have HE : Hid ((devL s D).set 7 (.int .i64 p) = devL s { D with ops := p }) := Lib.hid rfl
  obtain ⟨D2, hD2⟩ : ∃ D2, D2 = burned { D with ops := p } := ⟨_, rfl⟩
  have HBU : Hid (∀ w1, Dev w1 s { D with ops := p } → Calls Try.prog 46 #[.pointer (some ⟨s.b, 0, none⟩)] w1 fun e w' => e = .returned (.bool true) ∧ Dev w' s D2 ∧ Onl s.S w1 w') := Lib.hid fun w1 h1 => by
    have := burn_any s _ w1 h1
    rw [← hD2, show burnB { D with ops := p } = true from hB] at this
    exact this
  obtain ⟨D3, hD3⟩ : ∃ D3, D3 = { D2 with dn := true } := ⟨_, rfl⟩
  have h3C : D3.C = D.C := by rw [hD3, hD2]; exact burned_C _
  have h2fb : D2.fb = D.fb := by rw [hD2]; exact burned_fb _
  have h3fm : D3.fm = D.fm := by rw [hD3, hD2]; exact burned_fm _
  have h3dn : D3.dn = true := by rw [hD3]
  have HD23 : Hid ({ D2 with dn := true } = D3) := Lib.hid hD3.symm
  obtain ⟨r, hr⟩ : ∃ r, (if burnB D then reach D.fb n else n) = r := ⟨_, rfl⟩
  have hrr : reach D.fb n = r := by rw [hB, if_pos rfl] at hr; exact hr
  have hrle : r ≤ n := by rw [← hrr]; exact reach_le _ _
  have HF : Hid (∀ C, C = FlaMath.work D.C o n r fE (gE D.fm) → { D3 with C := C } = workD D o n fE (gE D.fm)) := Lib.hid fun C hC => by
    rw [hC, hD3, hD2, burned_ops, hp.symm, workD, hr, hB]
  have HE8 : Hid (∀ w3, Row w3 s.b 58 ((devL s D2).set 8 (.bool true)) → Row w3 s.b 58 (devL s { D2 with dn := true })) := Lib.hid fun w3 h3 => h3
  have HE9 : Hid (∀ w3, Row w3 s.b 58 ((devL s D2).set 8 (.bool true)) → Row w3 s.b 58 ([] ++ [Value.int .i64 D2.fb, .int .u8 (D2.fm.toNat : Int)] ++ (devL s { D2 with dn := true }).drop 2)) := Lib.hid fun w3 h3 => h3
  have HRE : Hid (∀ w1, Calls Try.prog 47 #[.agg #[.int .i64 D2.fb, .int .u8 (D2.fm.toNat : Int)], .int .i64 (n : Int)] w1 fun e w' => e = .returned (.int .i64 (r : Int)) ∧ Below w1.heap.size w1 w') := Lib.hid fun w1 => by
    have := reach_any D2.fb (D2.fm.toNat : Int) n w1 hn
    have e : reach D2.fb n = r := by rw [h2fb]; exact hrr
    rw [e] at this
    exact this
  have HOC : Hid (∀ wx, Onl s.S w wx → CapE wx s o n cp vb vd) := Lib.hid fun wx hx => hv.onl hx
  have H1 : Hid (∀ wx k, Dev wx s { D3 with C := prog D.C o k fE } → Onl s.S w wx → k < n → Calls Try.prog 40 #[.int .i64 (k : Int), .pointer (some ⟨vb, 0, none⟩)] wx fun e w' => e = .returned (.tuple #[]) ∧ Dev w' s { D3 with C := prog D.C o (k + 1) fE } ∧ Onl s.S wx w') := Lib.hid fun wx k h1 h2 h3 => by
    have hlt : o + k < D.C.length := by omega
    have hc : o + k < ({ D3 with C := prog D.C o k fE } : Dv).C.length := by show _ < (prog _ _ _ _).length; rw [prog_length]; exact hlt
    have := erase1_any s _ o n cp vb vd k wx h1 (HOC.out wx h2) h3 hc
    have e : ({ D3 with C := prog D.C o k fE } : Dv).C.set (o + k) (fE k ({ D3 with C := prog D.C o k fE } : Dv).C[o + k]) = prog D.C o (k + 1) fE := by
      show (prog D.C o k fE).set (o + k) (fE k ((prog D.C o k fE)[o + k])) = _
      rw [prog_at D.C o k _ hlt]
      exact prog_step D.C o k _ hlt
    rw [e] at this
    exact this
  have H2 : Hid (∀ wx, Dev wx s { D3 with C := prog D.C o r fE } → Onl s.S w wx → r < n → Calls Try.prog 41 #[.int .i64 (r : Int), .pointer (some ⟨vb, 0, none⟩), .pointer (some ⟨vd, 0, none⟩)] wx fun e w' => e = .returned (.tuple #[]) ∧ Dev w' s (workD D o n fE (gE D.fm)) ∧ Onl s.S wx w') := Lib.hid fun wx h1 h2 h3 => by
    have hlt : o + r < D.C.length := by omega
    have hc : o + r < ({ D3 with C := prog D.C o r fE } : Dv).C.length := by show _ < (prog _ _ _ _).length; rw [prog_length]; exact hlt
    have := erase2_any s _ o n cp vb vd r wx h1 (HOC.out wx h2) h3 hc
    have e : ({ D3 with C := prog D.C o r fE } : Dv).C.set (o + r) (gE D3.fm r ({ D3 with C := prog D.C o r fE } : Dv).C[o + r]) = FlaMath.work D.C o n r fE (gE D.fm) := by
      show (prog D.C o r fE).set (o + r) (gE D3.fm r ((prog D.C o r fE)[o + r])) = _
      rw [prog_at D.C o r _ hlt, FlaMath.work, if_pos h3, h3fm, List.getD_eq_getElem?_getD, List.getElem?_eq_getElem hlt]; rfl
    rw [e] at this
    refine this.mono ?_
    rintro e w' ⟨rfl, d, o⟩
    exact ⟨rfl, by rw [← HF.out _ rfl]; exact d, o⟩
  have HID : Hid (∀ wx Dx, Dev wx s Dx → Dx.dn = true → Calls Try.prog 26 #[.pointer (some ⟨s.b, 0, none⟩)] wx fun e w' => e = .returned (.int .i64 (idl true)) ∧ wx = w') := Lib.hid fun wx Dx h1 h2 => by
    have := idle_any s Dx wx h1; rwa [h2] at this
  have HW : Hid ((workD D o n fE (gE D.fm)).dn = true) := Lib.hid hB
  have H3 : Hid (∀ wx, Dev wx s { D3 with C := prog D.C o n fE } → r = n → Dev wx s (workD D o n fE (gE D.fm))) := Lib.hid fun wx h1 hq => by
    rw [← HF.out _ rfl, FlaMath.work, if_neg (by omega), hq]; exact h1
  have H0 : Hid (Dev w s D → ∀ wx, Dev wx s D3 → Dev wx s { D3 with C := prog D.C o 0 fE }) := Lib.hid fun _ wx h1 => by rw [prog_zero, ← h3C]; exact h1
  have HR := Lib.hid hrle
  have HHV := Lib.hid hv
  have hrI : (r : Int) ≤ n := by omega
  have hrM : (r : Int) ≤ 1000 := by omega
  clear h hv ho hn hB hdn hD2 hD3 h3C h2fb h3fm h3dn hr hrle
  go_enter Try.func28, Try.ntmps28
  go_wp2_with (first
    | ((with_reducible refine R0.out.wpStore1K 7 3 (.int .i64 p) finfo_int HL.out (int_cells _ _) (int_one _ _) ?_ ?_); (simp only [storeOf, Act.eval]; exact congrArg (fun z => some (_, _, Value.int .i64 z)) hp); intro w1 r1 o1 s1; have D1 := Lib.hid (HD.out.put { D with ops := p } (by rw [← HE.out]; exact r1) o1 rfl rfl rfl); have O1 := Lib.hid (Onl.of_only o1 s.b_mem); clear r1 o1 s1)
    | (go_at_call 46; (with_reducible refine (HBU.out w1 D1.out).mono ?_); rintro e w2 ⟨rfl, d2, o2⟩; have D2' := Lib.hid d2; have R2 := Lib.hid d2.row; have O2 := Lib.hid (O1.out.trans o2); clear d2 o2)
    | ((with_reducible refine R2.out.wpStore1K 8 4 (.bool true) finfo_bool (HL8.out D2) (bool_cells _) (bool_one _) ?_ ?_); rfl; intro w3 r3 o3 s3; have D3' := Lib.hid (D2'.out.put { D2 with dn := true } (HE8.out w3 r3) o3 rfl rfl rfl); have R3 : Hid (Row w3 s.b 58 ([] ++ [Value.int .i64 D2.fb, .int .u8 (D2.fm.toNat : Int)] ++ (devL s { D2 with dn := true }).drop 2)) := Lib.hid (HE9.out w3 r3); have O3 := Lib.hid (O2.out.trans (Onl.of_only o3 s.b_mem)); clear r3 o3 s3)
    | ((with_reducible refine R3.out.wpLoadMidK 0 rfl 34 fits_torn rfl ?_ ?_); rfl)
    | (go_at_call 47; (with_reducible refine (HRE.out w3).mono ?_); rintro e w4 ⟨rfl, b4⟩; have D4 := Lib.hid (D3'.out.step b4); have O4 := Lib.hid (O3.out.step b4); clear b4)
    )
  go_loopw [34] (fun x wr => ∃ k : Nat, k ≤ r ∧ x = .int .i64 k ∧ Dev wr s { D3 with C := prog D.C o k fE } ∧ Onl s.S w wr) (fun x _ => r - (intOf x).toNat)
  case atStart => exact ⟨0, Nat.zero_le _, rfl, H0.out HD.out _ (by rw [← HD23.out]; exact D4.out), O4.out⟩
  case round =>
    obtain ⟨k, hk, rfl, hd, hoo⟩ := hrel
    by_cases hlt : k < r
    · have e1 : (k : Int) < r := by omega
      have ew : wrap64 ((k : Int) + 1) = (k : Int) + 1 := by unfold wrap64; omega
      have HC := Lib.hid (H1.out wr k hd hoo (by have := HR.out; omega))
      have HO := Lib.hid hoo
      clear hd hoo
      go_wp2_with (go_at_call 40; (with_reducible refine HC.out.mono ?_); rintro e w5 ⟨rfl, d5, o5⟩; have D5 := Lib.hid d5; have O5 := Lib.hid (HO.out.trans o5); clear d5 o5)
      go_roundw
      case rel => exact ⟨k + 1, by omega, by go_num, D5.out, O5.out⟩
      case measure => simp [intOf]; omega
    · have ek : k = r := by omega
      subst ek
      by_cases hkn : k < n
      · have e1 : (k : Int) < n := by omega
        have HC := Lib.hid (H2.out wr hd hoo hkn)
        have HO := Lib.hid hoo
        clear hd hoo
        go_wp2_with (first
          | (go_at_call 41; (with_reducible refine HC.out.mono ?_); rintro e w5 ⟨rfl, d5, o5⟩; have D5 := Lib.hid d5; have O5 := Lib.hid (HO.out.trans o5); have HI5 := Lib.hid (HID.out w5 _ d5 HW.out); clear d5 o5)
          | (go_at_call 26; (with_reducible refine HI5.out.mono ?_); rintro e w6 ⟨rfl, rfl⟩))
        go_ret
        exact ⟨rfl, D5.out, O5.out⟩
      · have ekn : k = n := by have := HR.out; omega
        have e2 : ¬ (k : Int) < n := by omega
        have D5 : Hid (Dev wr s (workD D o n fE (gE D.fm))) := Lib.hid (H3.out wr (by rw [← ekn]; exact hd) ekn)
        have HI5 := Lib.hid (HID.out wr _ D5.out HW.out)
        have HO := Lib.hid hoo
        clear hd hoo ekn
        go_wp2_with (go_at_call 26; (with_reducible refine HI5.out.mono ?_); rintro e w6 ⟨rfl, rfl⟩)
        go_ret
        exact ⟨rfl, D5.out, HO.out⟩

theorem workE_any (s : Sh) (D : Dv) (o n cp vb vd : Nat) (w : World) (h : Dev w s D) (hv : CapE w s o n cp vb vd) (ho : o + n ≤ D.C.length) (hn : n ≤ 1000) (hdn : D.dn = false) :
    Calls Try.prog 28 #[.pointer (some ⟨s.b, 0, none⟩), .int .i64 (n : Int), .func (.func 40) #[] #[.pointer (some ⟨vb, 0, none⟩)], .func (.func 41) #[] #[.pointer (some ⟨vb, 0, none⟩), .pointer (some ⟨vd, 0, none⟩)]] w
      fun e w' => e = .returned (.int .i64 (idl (burnB D))) ∧ Dev w' s (workD D o n fE (gE D.fm)) ∧ Onl s.S w w' := by
  cases hB : burnB D with
  | false => exact workE_false s D o n cp vb vd w h hv ho hn hB hdn
  | true => exact workE_true s D o n cp vb vd w h hv ho hn hB hdn

set_option maxHeartbeats 1000000 in
theorem workP_false (s : Sh) (D : Dv) (o n cp vb vp vd q : Nat) (t : ByteArray) (w : World) (h : Dev w s D) (hv : CapP w s o cp vb vp vd q t) (ho : o + n ≤ D.C.length) (hn : n ≤ 1000) (ht : n ≤ t.size) (hq : n ≤ q) (hB : burnB D = false) (hdn : D.dn = false) :
    Calls Try.prog 28 #[.pointer (some ⟨s.b, 0, none⟩), .int .i64 (n : Int), .func (.func 29) #[] #[.pointer (some ⟨vb, 0, none⟩), .pointer (some ⟨vp, 0, none⟩)], .func (.func 30) #[] #[.pointer (some ⟨vb, 0, none⟩), .pointer (some ⟨vp, 0, none⟩), .pointer (some ⟨vd, 0, none⟩)]] w
      fun e w' => e = .returned (.int .i64 (idl false)) ∧ Dev w' s (workD D o n (fP t.data.toList) (gP t.data.toList D.fm)) ∧ Onl s.S w w' := by
  obtain ⟨p, hp⟩ : ∃ p, wrap64 (D.ops + 1) = p := ⟨_, rfl⟩
  have h7 := h.c7
  have R0 : Hid (Row w s.b 58 (devL s D)) := Lib.hid h.row
  have HL : Hid (7 < (devL s D).length) := Lib.hid (by rw [devL_length]; decide)
  have HL8 : Hid (∀ D', 8 < (devL s D').length) := Lib.hid fun D' => by rw [devL_length]; decide
  have HD := Lib.hid h
  have HE : Hid ((devL s D).set 7 (.int .i64 p) = devL s { D with ops := p }) := Lib.hid rfl
  obtain ⟨D2, hD2⟩ : ∃ D2, D2 = burned { D with ops := p } := ⟨_, rfl⟩
  have HBU : Hid (∀ w1, Dev w1 s { D with ops := p } → Calls Try.prog 46 #[.pointer (some ⟨s.b, 0, none⟩)] w1 fun e w' => e = .returned (.bool false) ∧ Dev w' s D2 ∧ Onl s.S w1 w') := Lib.hid fun w1 h1 => by
    have := burn_any s _ w1 h1
    rw [← hD2, show burnB { D with ops := p } = false from hB] at this
    exact this
  obtain ⟨D3, hD3⟩ : ∃ D3, D3 = { D2 with dn := false } := ⟨_, rfl⟩
  have h3C : D3.C = D.C := by rw [hD3, hD2]; exact burned_C _
  have h2fb : D2.fb = D.fb := by rw [hD2]; exact burned_fb _
  have h3fm : D3.fm = D.fm := by rw [hD3, hD2]; exact burned_fm _
  have h3dn : D3.dn = false := by rw [hD3]
  have HD23 : Hid (D2 = D3) := Lib.hid (by rw [hD3]; have : D2.dn = false := by rw [hD2, burned_dn]; exact hdn
                                           cases D2; simp_all)
  obtain ⟨r, hr⟩ : ∃ r, (if burnB D then reach D.fb n else n) = r := ⟨_, rfl⟩
  have hrn : r = n := by rw [hB, if_neg (by simp)] at hr; exact hr.symm
  have hrle : r ≤ n := by omega
  have HF : Hid (∀ C, C = FlaMath.work D.C o n r (fP t.data.toList) (gP t.data.toList D.fm) → { D3 with C := C } = workD D o n (fP t.data.toList) (gP t.data.toList D.fm)) := Lib.hid fun C hC => by
    rw [hC, hD3, hD2, burned_ops, hp.symm, workD, hr, hB]
  have HOC : Hid (∀ wx, Onl s.S w wx → CapP wx s o cp vb vp vd q t) := Lib.hid fun wx hx => hv.onl hx
  have H1 : Hid (∀ wx k, Dev wx s { D3 with C := prog D.C o k (fP t.data.toList) } → Onl s.S w wx → k < n → Calls Try.prog 29 #[.int .i64 (k : Int), .pointer (some ⟨vb, 0, none⟩), .pointer (some ⟨vp, 0, none⟩)] wx fun e w' => e = .returned (.tuple #[]) ∧ Dev w' s { D3 with C := prog D.C o (k + 1) (fP t.data.toList) } ∧ Onl s.S wx w') := Lib.hid fun wx k h1 h2 h3 => by
    have hlt : o + k < D.C.length := by omega
    have hc : o + k < ({ D3 with C := prog D.C o k (fP t.data.toList) } : Dv).C.length := by show _ < (prog _ _ _ _).length; rw [prog_length]; exact hlt
    have := prog1_any s _ o cp vb vp vd q t k wx h1 (HOC.out wx h2) (by omega) (by omega) hc
    have e : ({ D3 with C := prog D.C o k (fP t.data.toList) } : Dv).C.set (o + k) ((fP t.data.toList) k ({ D3 with C := prog D.C o k (fP t.data.toList) } : Dv).C[o + k]) = prog D.C o (k + 1) (fP t.data.toList) := by
      show (prog D.C o k (fP t.data.toList)).set (o + k) ((fP t.data.toList) k ((prog D.C o k (fP t.data.toList))[o + k])) = _
      rw [prog_at D.C o k _ hlt]
      exact prog_step D.C o k _ hlt
    rw [e] at this
    exact this
  have HID : Hid (∀ wx Dx, Dev wx s Dx → Dx.dn = false → Calls Try.prog 26 #[.pointer (some ⟨s.b, 0, none⟩)] wx fun e w' => e = .returned (.int .i64 (idl false)) ∧ wx = w') := Lib.hid fun wx Dx h1 h2 => by
    have := idle_any s Dx wx h1; rwa [h2] at this
  have HW : Hid ((workD D o n (fP t.data.toList) (gP t.data.toList D.fm)).dn = false) := Lib.hid hB
  have H3 : Hid (∀ wx, Dev wx s { D3 with C := prog D.C o n (fP t.data.toList) } → r = n → Dev wx s (workD D o n (fP t.data.toList) (gP t.data.toList D.fm))) := Lib.hid fun wx h1 hq => by
    rw [← HF.out _ rfl, FlaMath.work, if_neg (by omega), hq]; exact h1
  have H0 : Hid (Dev w s D → ∀ wx, Dev wx s D3 → Dev wx s { D3 with C := prog D.C o 0 (fP t.data.toList) }) := Lib.hid fun _ wx h1 => by rw [prog_zero, ← h3C]; exact h1
  have HR := Lib.hid hrle
  have HHV := Lib.hid hv
  have hrI : (r : Int) ≤ n := by omega
  have hrM : (r : Int) ≤ 1000 := by omega
  subst hrn
  clear h hv ho hn hB hdn hD2 hD3 h3C h2fb h3fm h3dn hr hrle ht hq
  go_enter Try.func28, Try.ntmps28
  go_wp2_with (first
    | ((with_reducible refine R0.out.wpStore1K 7 3 (.int .i64 p) finfo_int HL.out (int_cells _ _) (int_one _ _) ?_ ?_); (simp only [storeOf, Act.eval]; exact congrArg (fun z => some (_, _, Value.int .i64 z)) hp); intro w1 r1 o1 s1; have D1 := Lib.hid (HD.out.put { D with ops := p } (by rw [← HE.out]; exact r1) o1 rfl rfl rfl); have O1 := Lib.hid (Onl.of_only o1 s.b_mem); clear r1 o1 s1)
    | (go_at_call 46; (with_reducible refine (HBU.out w1 D1.out).mono ?_); rintro e w2 ⟨rfl, d2, o2⟩; have D2' := Lib.hid d2; have R2 := Lib.hid d2.row; have O2 := Lib.hid (O1.out.trans o2); clear d2 o2)
    )
  go_loopw [34] (fun x wr => ∃ k : Nat, k ≤ r ∧ x = .int .i64 k ∧ Dev wr s { D3 with C := prog D.C o k (fP t.data.toList) } ∧ Onl s.S w wr) (fun x _ => r - (intOf x).toNat)
  case atStart => exact ⟨0, Nat.zero_le _, rfl, H0.out HD.out _ (by rw [← HD23.out]; exact D2'.out), O2.out⟩
  case round =>
    obtain ⟨k, hk, rfl, hd, hoo⟩ := hrel
    by_cases hlt : k < r
    · have e1 : (k : Int) < r := by omega
      have ew : wrap64 ((k : Int) + 1) = (k : Int) + 1 := by unfold wrap64; omega
      have HC := Lib.hid (H1.out wr k hd hoo (by have := HR.out; omega))
      have HO := Lib.hid hoo
      clear hd hoo
      go_wp2_with (go_at_call 29; (with_reducible refine HC.out.mono ?_); rintro e w5 ⟨rfl, d5, o5⟩; have D5 := Lib.hid d5; have O5 := Lib.hid (HO.out.trans o5); clear d5 o5)
      go_roundw
      case rel => exact ⟨k + 1, by omega, by go_num, D5.out, O5.out⟩
      case measure => simp [intOf]; omega
    · have ek : k = r := by omega
      subst ek
      have D5 : Hid (Dev wr s (workD D o k (fP t.data.toList) (gP t.data.toList D.fm))) := Lib.hid (H3.out wr hd (by simp))
      have HI5 := Lib.hid (HID.out wr _ D5.out HW.out)
      have HO := Lib.hid hoo
      clear hd hoo
      go_wp2_with (go_at_call 26; (with_reducible refine HI5.out.mono ?_); rintro e w6 ⟨rfl, rfl⟩)
      go_ret
      exact ⟨rfl, D5.out, HO.out⟩

set_option maxHeartbeats 1000000 in
theorem workP_true (s : Sh) (D : Dv) (o n cp vb vp vd q : Nat) (t : ByteArray) (w : World) (h : Dev w s D) (hv : CapP w s o cp vb vp vd q t) (ho : o + n ≤ D.C.length) (hn : n ≤ 1000) (ht : n ≤ t.size) (hq : n ≤ q) (hB : burnB D = true) (hdn : D.dn = false) :
    Calls Try.prog 28 #[.pointer (some ⟨s.b, 0, none⟩), .int .i64 (n : Int), .func (.func 29) #[] #[.pointer (some ⟨vb, 0, none⟩), .pointer (some ⟨vp, 0, none⟩)], .func (.func 30) #[] #[.pointer (some ⟨vb, 0, none⟩), .pointer (some ⟨vp, 0, none⟩), .pointer (some ⟨vd, 0, none⟩)]] w
      fun e w' => e = .returned (.int .i64 (idl true)) ∧ Dev w' s (workD D o n (fP t.data.toList) (gP t.data.toList D.fm)) ∧ Onl s.S w w' := by
  obtain ⟨p, hp⟩ : ∃ p, wrap64 (D.ops + 1) = p := ⟨_, rfl⟩
  have h7 := h.c7
  have R0 : Hid (Row w s.b 58 (devL s D)) := Lib.hid h.row
  have HL : Hid (7 < (devL s D).length) := Lib.hid (by rw [devL_length]; decide)
  have HL8 : Hid (∀ D', 8 < (devL s D').length) := Lib.hid fun D' => by rw [devL_length]; decide
  have HD := Lib.hid h
  have HE : Hid ((devL s D).set 7 (.int .i64 p) = devL s { D with ops := p }) := Lib.hid rfl
  obtain ⟨D2, hD2⟩ : ∃ D2, D2 = burned { D with ops := p } := ⟨_, rfl⟩
  have HBU : Hid (∀ w1, Dev w1 s { D with ops := p } → Calls Try.prog 46 #[.pointer (some ⟨s.b, 0, none⟩)] w1 fun e w' => e = .returned (.bool true) ∧ Dev w' s D2 ∧ Onl s.S w1 w') := Lib.hid fun w1 h1 => by
    have := burn_any s _ w1 h1
    rw [← hD2, show burnB { D with ops := p } = true from hB] at this
    exact this
  obtain ⟨D3, hD3⟩ : ∃ D3, D3 = { D2 with dn := true } := ⟨_, rfl⟩
  have h3C : D3.C = D.C := by rw [hD3, hD2]; exact burned_C _
  have h2fb : D2.fb = D.fb := by rw [hD2]; exact burned_fb _
  have h3fm : D3.fm = D.fm := by rw [hD3, hD2]; exact burned_fm _
  have h3dn : D3.dn = true := by rw [hD3]
  have HD23 : Hid ({ D2 with dn := true } = D3) := Lib.hid hD3.symm
  obtain ⟨r, hr⟩ : ∃ r, (if burnB D then reach D.fb n else n) = r := ⟨_, rfl⟩
  have hrr : reach D.fb n = r := by rw [hB, if_pos rfl] at hr; exact hr
  have hrle : r ≤ n := by rw [← hrr]; exact reach_le _ _
  have HF : Hid (∀ C, C = FlaMath.work D.C o n r (fP t.data.toList) (gP t.data.toList D.fm) → { D3 with C := C } = workD D o n (fP t.data.toList) (gP t.data.toList D.fm)) := Lib.hid fun C hC => by
    rw [hC, hD3, hD2, burned_ops, hp.symm, workD, hr, hB]
  have HE8 : Hid (∀ w3, Row w3 s.b 58 ((devL s D2).set 8 (.bool true)) → Row w3 s.b 58 (devL s { D2 with dn := true })) := Lib.hid fun w3 h3 => h3
  have HE9 : Hid (∀ w3, Row w3 s.b 58 ((devL s D2).set 8 (.bool true)) → Row w3 s.b 58 ([] ++ [Value.int .i64 D2.fb, .int .u8 (D2.fm.toNat : Int)] ++ (devL s { D2 with dn := true }).drop 2)) := Lib.hid fun w3 h3 => h3
  have HRE : Hid (∀ w1, Calls Try.prog 47 #[.agg #[.int .i64 D2.fb, .int .u8 (D2.fm.toNat : Int)], .int .i64 (n : Int)] w1 fun e w' => e = .returned (.int .i64 (r : Int)) ∧ Below w1.heap.size w1 w') := Lib.hid fun w1 => by
    have := reach_any D2.fb (D2.fm.toNat : Int) n w1 hn
    have e : reach D2.fb n = r := by rw [h2fb]; exact hrr
    rw [e] at this
    exact this
  have HOC : Hid (∀ wx, Onl s.S w wx → CapP wx s o cp vb vp vd q t) := Lib.hid fun wx hx => hv.onl hx
  have H1 : Hid (∀ wx k, Dev wx s { D3 with C := prog D.C o k (fP t.data.toList) } → Onl s.S w wx → k < n → Calls Try.prog 29 #[.int .i64 (k : Int), .pointer (some ⟨vb, 0, none⟩), .pointer (some ⟨vp, 0, none⟩)] wx fun e w' => e = .returned (.tuple #[]) ∧ Dev w' s { D3 with C := prog D.C o (k + 1) (fP t.data.toList) } ∧ Onl s.S wx w') := Lib.hid fun wx k h1 h2 h3 => by
    have hlt : o + k < D.C.length := by omega
    have hc : o + k < ({ D3 with C := prog D.C o k (fP t.data.toList) } : Dv).C.length := by show _ < (prog _ _ _ _).length; rw [prog_length]; exact hlt
    have := prog1_any s _ o cp vb vp vd q t k wx h1 (HOC.out wx h2) (by omega) (by omega) hc
    have e : ({ D3 with C := prog D.C o k (fP t.data.toList) } : Dv).C.set (o + k) ((fP t.data.toList) k ({ D3 with C := prog D.C o k (fP t.data.toList) } : Dv).C[o + k]) = prog D.C o (k + 1) (fP t.data.toList) := by
      show (prog D.C o k (fP t.data.toList)).set (o + k) ((fP t.data.toList) k ((prog D.C o k (fP t.data.toList))[o + k])) = _
      rw [prog_at D.C o k _ hlt]
      exact prog_step D.C o k _ hlt
    rw [e] at this
    exact this
  have H2 : Hid (∀ wx, Dev wx s { D3 with C := prog D.C o r (fP t.data.toList) } → Onl s.S w wx → r < n → Calls Try.prog 30 #[.int .i64 (r : Int), .pointer (some ⟨vb, 0, none⟩), .pointer (some ⟨vp, 0, none⟩), .pointer (some ⟨vd, 0, none⟩)] wx fun e w' => e = .returned (.tuple #[]) ∧ Dev w' s (workD D o n (fP t.data.toList) (gP t.data.toList D.fm)) ∧ Onl s.S wx w') := Lib.hid fun wx h1 h2 h3 => by
    have hlt : o + r < D.C.length := by omega
    have hc : o + r < ({ D3 with C := prog D.C o r (fP t.data.toList) } : Dv).C.length := by show _ < (prog _ _ _ _).length; rw [prog_length]; exact hlt
    have := prog2_any s _ o cp vb vp vd q t r wx h1 (HOC.out wx h2) (by omega) (by omega) hc
    have e : ({ D3 with C := prog D.C o r (fP t.data.toList) } : Dv).C.set (o + r) (gP t.data.toList D3.fm r ({ D3 with C := prog D.C o r (fP t.data.toList) } : Dv).C[o + r]) = FlaMath.work D.C o n r (fP t.data.toList) (gP t.data.toList D.fm) := by
      show (prog D.C o r (fP t.data.toList)).set (o + r) (gP t.data.toList D3.fm r ((prog D.C o r (fP t.data.toList))[o + r])) = _
      rw [prog_at D.C o r _ hlt, FlaMath.work, if_pos h3, h3fm, List.getD_eq_getElem?_getD, List.getElem?_eq_getElem hlt]; rfl
    rw [e] at this
    refine this.mono ?_
    rintro e w' ⟨rfl, d, o⟩
    exact ⟨rfl, by rw [← HF.out _ rfl]; exact d, o⟩
  have HID : Hid (∀ wx Dx, Dev wx s Dx → Dx.dn = true → Calls Try.prog 26 #[.pointer (some ⟨s.b, 0, none⟩)] wx fun e w' => e = .returned (.int .i64 (idl true)) ∧ wx = w') := Lib.hid fun wx Dx h1 h2 => by
    have := idle_any s Dx wx h1; rwa [h2] at this
  have HW : Hid ((workD D o n (fP t.data.toList) (gP t.data.toList D.fm)).dn = true) := Lib.hid hB
  have H3 : Hid (∀ wx, Dev wx s { D3 with C := prog D.C o n (fP t.data.toList) } → r = n → Dev wx s (workD D o n (fP t.data.toList) (gP t.data.toList D.fm))) := Lib.hid fun wx h1 hq => by
    rw [← HF.out _ rfl, FlaMath.work, if_neg (by omega), hq]; exact h1
  have H0 : Hid (Dev w s D → ∀ wx, Dev wx s D3 → Dev wx s { D3 with C := prog D.C o 0 (fP t.data.toList) }) := Lib.hid fun _ wx h1 => by rw [prog_zero, ← h3C]; exact h1
  have HR := Lib.hid hrle
  have HHV := Lib.hid hv
  have hrI : (r : Int) ≤ n := by omega
  have hrM : (r : Int) ≤ 1000 := by omega
  clear h hv ho hn hB hdn hD2 hD3 h3C h2fb h3fm h3dn hr hrle ht hq
  go_enter Try.func28, Try.ntmps28
  go_wp2_with (first
    | ((with_reducible refine R0.out.wpStore1K 7 3 (.int .i64 p) finfo_int HL.out (int_cells _ _) (int_one _ _) ?_ ?_); (simp only [storeOf, Act.eval]; exact congrArg (fun z => some (_, _, Value.int .i64 z)) hp); intro w1 r1 o1 s1; have D1 := Lib.hid (HD.out.put { D with ops := p } (by rw [← HE.out]; exact r1) o1 rfl rfl rfl); have O1 := Lib.hid (Onl.of_only o1 s.b_mem); clear r1 o1 s1)
    | (go_at_call 46; (with_reducible refine (HBU.out w1 D1.out).mono ?_); rintro e w2 ⟨rfl, d2, o2⟩; have D2' := Lib.hid d2; have R2 := Lib.hid d2.row; have O2 := Lib.hid (O1.out.trans o2); clear d2 o2)
    | ((with_reducible refine R2.out.wpStore1K 8 4 (.bool true) finfo_bool (HL8.out D2) (bool_cells _) (bool_one _) ?_ ?_); rfl; intro w3 r3 o3 s3; have D3' := Lib.hid (D2'.out.put { D2 with dn := true } (HE8.out w3 r3) o3 rfl rfl rfl); have R3 : Hid (Row w3 s.b 58 ([] ++ [Value.int .i64 D2.fb, .int .u8 (D2.fm.toNat : Int)] ++ (devL s { D2 with dn := true }).drop 2)) := Lib.hid (HE9.out w3 r3); have O3 := Lib.hid (O2.out.trans (Onl.of_only o3 s.b_mem)); clear r3 o3 s3)
    | ((with_reducible refine R3.out.wpLoadMidK 0 rfl 34 fits_torn rfl ?_ ?_); rfl)
    | (go_at_call 47; (with_reducible refine (HRE.out w3).mono ?_); rintro e w4 ⟨rfl, b4⟩; have D4 := Lib.hid (D3'.out.step b4); have O4 := Lib.hid (O3.out.step b4); clear b4)
    )
  go_loopw [34] (fun x wr => ∃ k : Nat, k ≤ r ∧ x = .int .i64 k ∧ Dev wr s { D3 with C := prog D.C o k (fP t.data.toList) } ∧ Onl s.S w wr) (fun x _ => r - (intOf x).toNat)
  case atStart => exact ⟨0, Nat.zero_le _, rfl, H0.out HD.out _ (by rw [← HD23.out]; exact D4.out), O4.out⟩
  case round =>
    obtain ⟨k, hk, rfl, hd, hoo⟩ := hrel
    by_cases hlt : k < r
    · have e1 : (k : Int) < r := by omega
      have ew : wrap64 ((k : Int) + 1) = (k : Int) + 1 := by unfold wrap64; omega
      have HC := Lib.hid (H1.out wr k hd hoo (by have := HR.out; omega))
      have HO := Lib.hid hoo
      clear hd hoo
      go_wp2_with (go_at_call 29; (with_reducible refine HC.out.mono ?_); rintro e w5 ⟨rfl, d5, o5⟩; have D5 := Lib.hid d5; have O5 := Lib.hid (HO.out.trans o5); clear d5 o5)
      go_roundw
      case rel => exact ⟨k + 1, by omega, by go_num, D5.out, O5.out⟩
      case measure => simp [intOf]; omega
    · have ek : k = r := by omega
      subst ek
      by_cases hkn : k < n
      · have e1 : (k : Int) < n := by omega
        have HC := Lib.hid (H2.out wr hd hoo hkn)
        have HO := Lib.hid hoo
        clear hd hoo
        go_wp2_with (first
          | (go_at_call 30; (with_reducible refine HC.out.mono ?_); rintro e w5 ⟨rfl, d5, o5⟩; have D5 := Lib.hid d5; have O5 := Lib.hid (HO.out.trans o5); have HI5 := Lib.hid (HID.out w5 _ d5 HW.out); clear d5 o5)
          | (go_at_call 26; (with_reducible refine HI5.out.mono ?_); rintro e w6 ⟨rfl, rfl⟩))
        go_ret
        exact ⟨rfl, D5.out, O5.out⟩
      · have ekn : k = n := by have := HR.out; omega
        have e2 : ¬ (k : Int) < n := by omega
        have D5 : Hid (Dev wr s (workD D o n (fP t.data.toList) (gP t.data.toList D.fm))) := Lib.hid (H3.out wr (by rw [← ekn]; exact hd) ekn)
        have HI5 := Lib.hid (HID.out wr _ D5.out HW.out)
        have HO := Lib.hid hoo
        clear hd hoo ekn
        go_wp2_with (go_at_call 26; (with_reducible refine HI5.out.mono ?_); rintro e w6 ⟨rfl, rfl⟩)
        go_ret
        exact ⟨rfl, D5.out, HO.out⟩

theorem workP_any (s : Sh) (D : Dv) (o n cp vb vp vd q : Nat) (t : ByteArray) (w : World) (h : Dev w s D) (hv : CapP w s o cp vb vp vd q t) (ho : o + n ≤ D.C.length) (hn : n ≤ 1000) (ht : n ≤ t.size) (hq : n ≤ q) (hdn : D.dn = false) :
    Calls Try.prog 28 #[.pointer (some ⟨s.b, 0, none⟩), .int .i64 (n : Int), .func (.func 29) #[] #[.pointer (some ⟨vb, 0, none⟩), .pointer (some ⟨vp, 0, none⟩)], .func (.func 30) #[] #[.pointer (some ⟨vb, 0, none⟩), .pointer (some ⟨vp, 0, none⟩), .pointer (some ⟨vd, 0, none⟩)]] w
      fun e w' => e = .returned (.int .i64 (idl (burnB D))) ∧ Dev w' s (workD D o n (fP t.data.toList) (gP t.data.toList D.fm)) ∧ Onl s.S w w' := by
  cases hB : burnB D with
  | false => exact workP_false s D o n cp vb vp vd q t w h hv ho hn ht hq hB hdn
  | true => exact workP_true s D o n cp vb vp vd q t w h hv ho hn ht hq hB hdn
end Go.Proofs.Ytgdfcfbccjdecaa
