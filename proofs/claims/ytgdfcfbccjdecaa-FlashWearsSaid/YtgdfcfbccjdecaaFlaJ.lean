/- Contracts of flash: Erase. -/
import Derived.Test.YtgdfcfbccjdecaaFlaI
namespace Go.Proofs.Ytgdfcfbccjdecaa
open Go.RowKit FlaMath
set_option linter.unusedVariables false
set_option maxRecDepth 100000

section
variable {P : Program}
theorem wpBox1K {ops : Array Oper} {rest : List Oper} {o : Oper} {a : Act} {w : World} {Q : Exit → Act → World → Prop} (v : Value) (ty : TypeId) (hv : v.cells = #[v]) (hb : boxOf o a = some (ty, v))
    (k : ∀ w', Row w' w.heap.size ty [v] → Below w.heap.size w w' → w'.heap.size = w.heap.size + 1 → wpList P ops Q rest (a.put o.dst (.pointer (some ⟨w.heap.size, 0, none⟩))) w') : wpList P ops Q (o :: rest) a w := by
  obtain ⟨hgd, x, ho, hx⟩ := boxOf_spec hb
  exact wpList_plain hgd fun _ hK => by
    unfold Oper.wp execOp
    simp only [ho, hx, Instr.box, newVar, hv]
    simp [go_sem]
    exact hK _ _ (k _ (Row.new w ty [v]) ((Below.refl _ _).alloc (Nat.le_refl _) _) (by simp))
theorem wpAlloc1K {ops : Array Oper} {rest : List Oper} {o : Oper} {a : Act} {w : World} {Q : Exit → Act → World → Prop} (z : Value) (ty : TypeId) (hv : z.cells = #[z]) (hz : ∀ u, (zeroValue ty).run P u = .ok z u) (ho : allocOf o = some ty)
    (k : ∀ w', Row w' w.heap.size ty [z] → Below w.heap.size w w' → w'.heap.size = w.heap.size + 1 → wpList P ops Q rest (a.put o.dst (.pointer (some ⟨w.heap.size, 0, none⟩))) w') : wpList P ops Q (o :: rest) a w := by
  obtain ⟨hgd, ho⟩ := allocOf_spec ho
  exact wpList_plain hgd fun _ hK => by
    have h := hz w
    unfold Oper.wp execOp
    simp only [ho, Instr.alloc, Sem.run_bind, h, Result.andThen_ok, newVar, hv]
    simp [go_sem]
    exact hK _ _ (k _ (Row.new w ty [z]) ((Below.refl _ _).alloc (Nat.le_refl _) _) (by simp))
end
theorem zero_bytes : ∀ u, (zeroValue 48).run Try.prog u = .ok (.slice none 0 0) u := fun u => by kernel_rfl
theorem finfo_bytes : (Try.prog.info? 48).map (·.size) = some 1 := by kernel_rfl
theorem slice_cells (p : Option Addr) (n c : Nat) : (Value.slice p n c).cells = #[.slice p n c] := rfl
theorem slice_one (p : Option Addr) (n c : Nat) : (Value.slice p n c).oneCell' = true := rfl
theorem ptr_cells (p : Option Addr) : (Value.pointer p).cells = #[.pointer p] := rfl
theorem fstr_cells (t : ByteArray) : (Value.string t).cells = #[.string t] := rfl

theorem erase_nil (i : Int) (w : World) : Calls Try.prog 15 #[.pointer none, .int .i64 i] w fun e w' => e = .returned (.int .i64 1) ∧ Below w.heap.size w w' := by
  have HX := Lib.hid idle_nil
  go_enter Try.func15, Try.ntmps15
  go_wp2_with (first
    | ((with_reducible refine wpBox1K (.pointer none) 25 (ptr_cells _) ?_ ?_); rfl; intro w1 r1 b1 s1; have c1 := r1.cell 0; have B1 := Lib.hid b1; clear r1 b1 s1)
    | (go_at_call 26; (with_reducible refine (HX.out w1).mono ?_); rintro e u1 ⟨rfl, rfl⟩))
  go_ret
  exact ⟨rfl, B1.out⟩

/-- Whether an erase is done, or torn. -/
def eraseB (D : Dv) (i : Int) : Bool := !D.dn && decide (0 ≤ i ∧ i < D.L.length) && !D.L.getD i.toNat false
def eraseE (D : Dv) (i : Int) : Int := if D.dn then 5 else if 0 ≤ i ∧ i < D.L.length then (if D.L.getD i.toNat false then 4 else idl (burnB D)) else 2
def worn (D : Dv) (i : Nat) : Dv := { D with E := D.E.set i (wrap64 (D.E.getD i 0 + 1)) }
def eraseD (D : Dv) (i : Int) : Dv := if eraseB D i then workD (worn D i.toNat) (i.toNat * 64) 64 fE (gE D.fm) else D

theorem erase_down (s : Sh) (D : Dv) (i : Int) (w : World) (h : Dev w s D) (hd : D.dn = true) :
    Calls Try.prog 15 #[.pointer (some ⟨s.b, 0, none⟩), .int .i64 i] w fun e w' => e = .returned (.int .i64 5) ∧ Below w.heap.size w w' := by
  have HX : Hid (∀ w1, Below w.heap.size w w1 → Calls Try.prog 26 #[.pointer (some ⟨s.b, 0, none⟩)] w1 fun e w' => e = .returned (.int .i64 5) ∧ w1 = w') := Lib.hid fun w1 hb => by
    have := idle_any s D w1 (h.step hb); rwa [hd] at this
  clear h hd
  go_enter Try.func15, Try.ntmps15
  go_wp2_with (first
    | ((with_reducible refine wpBox1K (.pointer (some ⟨s.b, 0, none⟩)) 25 (ptr_cells _) ?_ ?_); rfl; intro w1 r1 b1 s1; have c1 := r1.cell 0; have B1 := Lib.hid b1; clear r1 b1 s1)
    | (go_at_call 26; (with_reducible refine (HX.out w1 B1.out).mono ?_); rintro e u1 ⟨rfl, rfl⟩))
  go_ret
  exact ⟨rfl, B1.out⟩
theorem erase_out (s : Sh) (D : Dv) (i : Int) (w : World) (h : Dev w s D) (hd : D.dn = false) (hi : ¬ (0 ≤ i ∧ i < D.L.length)) :
    Calls Try.prog 15 #[.pointer (some ⟨s.b, 0, none⟩), .int .i64 i] w fun e w' => e = .returned (.int .i64 2) ∧ Below w.heap.size w w' := by
  have HX : Hid (∀ w1, Below w.heap.size w w1 → Calls Try.prog 26 #[.pointer (some ⟨s.b, 0, none⟩)] w1 fun e w' => e = .returned (.int .i64 0) ∧ w1 = w') := Lib.hid fun w1 hb => by
    have := idle_any s D w1 (h.step hb); rwa [hd] at this
  have HY : Hid (∀ w1, Below w.heap.size w w1 → Calls Try.prog 37 #[.pointer (some ⟨s.b, 0, none⟩), .int .i64 i] w1 fun e w' => e = .returned (.bool false) ∧ w1 = w') := Lib.hid fun w1 hb => by
    have := has_any s D i w1 (h.step hb); rwa [decide_eq_false hi] at this
  clear h hd hi
  go_enter Try.func15, Try.ntmps15
  go_wp2_with (first
    | ((with_reducible refine wpBox1K (.pointer (some ⟨s.b, 0, none⟩)) 25 (ptr_cells _) ?_ ?_); rfl; intro w1 r1 b1 s1; have c1 := r1.cell 0; have B1 := Lib.hid b1; clear r1 b1 s1)
    | (go_at_call 26; (with_reducible refine (HX.out w1 B1.out).mono ?_); rintro e u1 ⟨rfl, rfl⟩)
    | (go_at_call 37; (with_reducible refine (HY.out w1 B1.out).mono ?_); rintro e u1 ⟨rfl, rfl⟩))
  go_ret
  exact ⟨rfl, B1.out⟩
theorem erase_locked (s : Sh) (D : Dv) (i : Nat) (w : World) (h : Dev w s D) (hd : D.dn = false) (hi : i < D.L.length) (hl : D.L.getD i false = true) :
    Calls Try.prog 15 #[.pointer (some ⟨s.b, 0, none⟩), .int .i64 (i : Int)] w fun e w' => e = .returned (.int .i64 4) ∧ Below w.heap.size w w' := by
  have HX : Hid (∀ w1, Below w.heap.size w w1 → Calls Try.prog 26 #[.pointer (some ⟨s.b, 0, none⟩)] w1 fun e w' => e = .returned (.int .i64 0) ∧ w1 = w') := Lib.hid fun w1 hb => by
    have := idle_any s D w1 (h.step hb); rwa [hd] at this
  have HY : Hid (∀ w1, Below w.heap.size w w1 → Calls Try.prog 37 #[.pointer (some ⟨s.b, 0, none⟩), .int .i64 (i : Int)] w1 fun e w' => e = .returned (.bool true) ∧ w1 = w') := Lib.hid fun w1 hb => by
    have := has_any s D i w1 (h.step hb); rwa [decide_eq_true (by omega)] at this
  have H5 : Hid (∀ w1, Below w.heap.size w w1 → w1.cell? ⟨s.b, 5, none⟩ = some (.slice (some ⟨s.o2, 0, none⟩) D.L.length s.k2)) := Lib.hid fun w1 hb => (h.step hb).c5
  have H6 : Hid (∀ w1, Below w.heap.size w w1 → w1.cell? ⟨s.o2, i, none⟩ = some (.bool true)) := Lib.hid fun w1 hb => by
    have := (h.step hb).cl i hi
    rwa [show D.L[i] = true by rw [List.getD_eq_getElem?_getD, List.getElem?_eq_getElem hi] at hl; exact hl] at this
  have e1 : (i : Int) < D.L.length := by omega
  obtain ⟨n, hn⟩ : ∃ n, D.L.length = n := ⟨_, rfl⟩
  rw [hn] at e1 H5
  clear h hd hi hl hn
  go_enter Try.func15, Try.ntmps15
  go_wp2_with (first
    | ((with_reducible refine wpBox1K (.pointer (some ⟨s.b, 0, none⟩)) 25 (ptr_cells _) ?_ ?_); rfl; intro w1 r1 b1 s1; have c1 := r1.cell 0; have c5 := H5.out w1 b1; have c6 := H6.out w1 b1; have B1 := Lib.hid b1; clear r1 b1 s1)
    | (go_at_call 26; (with_reducible refine (HX.out w1 B1.out).mono ?_); rintro e u1 ⟨rfl, rfl⟩)
    | (go_at_call 37; (with_reducible refine (HY.out w1 B1.out).mono ?_); rintro e u1 ⟨rfl, rfl⟩))
  go_ret
  exact ⟨rfl, B1.out⟩
theorem not_mem_new {w : World} {s : Sh} {D : Dv} (h : Dev w s D) {k : Nat} (hk : w.heap.size ≤ k) : k ∉ s.S := fun hm => by have := h.lt k hm; omega
set_option maxHeartbeats 1000000 in
theorem erase_good (s : Sh) (D : Dv) (i : Nat) (w : World) (h : Dev w s D) (hd : D.dn = false) (hi : i < D.L.length) (hl : D.L.getD i false = false) :
    Calls Try.prog 15 #[.pointer (some ⟨s.b, 0, none⟩), .int .i64 (i : Int)] w fun e w' => e = .returned (.int .i64 (idl (burnB D))) ∧ Dev w' s (workD (worn D i) (i * 64) 64 fE (gE D.fm)) ∧ Onl s.S w w' := by
  have HX : Hid (∀ w1, Below w.heap.size w w1 → Calls Try.prog 26 #[.pointer (some ⟨s.b, 0, none⟩)] w1 fun e w' => e = .returned (.int .i64 0) ∧ w1 = w') := Lib.hid fun w1 hb => by
    have := idle_any s D w1 (h.step hb); rwa [hd] at this
  have HY : Hid (∀ w1, Below w.heap.size w w1 → Calls Try.prog 37 #[.pointer (some ⟨s.b, 0, none⟩), .int .i64 (i : Int)] w1 fun e w' => e = .returned (.bool true) ∧ w1 = w') := Lib.hid fun w1 hb => by
    have := has_any s D i w1 (h.step hb); rwa [decide_eq_true (by omega)] at this
  have H5 : Hid (∀ w1, Below w.heap.size w w1 → w1.cell? ⟨s.b, 5, none⟩ = some (.slice (some ⟨s.o2, 0, none⟩) D.L.length s.k2)) := Lib.hid fun w1 hb => (h.step hb).c5
  have H6 : Hid (∀ w1, Below w.heap.size w w1 → w1.cell? ⟨s.o2, i, none⟩ = some (.bool false)) := Lib.hid fun w1 hb => by
    have := (h.step hb).cl i hi
    rwa [show D.L[i] = false by rw [List.getD_eq_getElem?_getD, List.getElem?_eq_getElem hi] at hl; exact hl] at this
  have hiE : i < D.E.length := by rw [h.ok.worn]; exact hi
  have H7 : Hid (∀ w1, Below w.heap.size w w1 → w1.cell? ⟨s.b, 6, none⟩ = some (.slice (some ⟨s.o3, 0, none⟩) D.E.length s.k3)) := Lib.hid fun w1 hb => (h.step hb).c6
  have H8 : Hid (∀ w1, Below w.heap.size w w1 → w1.cell? ⟨s.o3, i, none⟩ = some (.int .i64 D.E[i])) := Lib.hid fun w1 hb => (h.step hb).ce i hiE
  obtain ⟨x, hx⟩ : ∃ x, D.E[i] = x := ⟨_, rfl⟩
  obtain ⟨p, hp⟩ : ∃ p, wrap64 (x + 1) = p := ⟨_, rfl⟩
  have hwo : ({ D with E := D.E.set i p } : Dv) = worn D i := by
    rw [worn, List.getD_eq_getElem?_getD, List.getElem?_eq_getElem hiE, ← hp, ← hx]; rfl
  have HSE : Hid (∀ w1 w2, Below w.heap.size w w1 → Row w2 s.o3 3 ((ints D.E ++ s.z3).set i (.int .i64 p)) → Only s.o3 w1 w2 → Dev w2 s (worn D i)) := Lib.hid fun w1 w2 hb hr ho => by
    rw [← hwo]; exact (h.step hb).setE i p hiE hr ho
  rw [hx] at H8
  have RE : Hid (∀ w1, Below w.heap.size w w1 → Row w1 s.o3 3 (ints D.E ++ s.z3)) := Lib.hid fun w1 hb => (h.step hb).e
  have HLE : Hid (i < (ints D.E ++ s.z3).length) := Lib.hid (by rw [List.length_append, ints_length]; omega)
  have HSC : Hid (∀ w2, Dev w2 s (worn D i) → Calls Try.prog 38 #[.pointer (some ⟨s.b, 0, none⟩), .int .i64 (i : Int)] w2 fun e w' => e = .returned (.slice (some ⟨s.o1, i * 64, none⟩) 64 (s.k1 - i * 64)) ∧ w2 = w') := Lib.hid fun w2 h2 => sector_any s _ i w2 h2 hi
  have hcl := h.ok.cells
  have HWK : Hid (∀ w4 vb vd cp, Dev w4 s (worn D i) → CapE w4 s (i * 64) 64 cp vb vd → Calls Try.prog 28 #[.pointer (some ⟨s.b, 0, none⟩), .int .i64 64, .func (.func 40) #[] #[.pointer (some ⟨vb, 0, none⟩)], .func (.func 41) #[] #[.pointer (some ⟨vb, 0, none⟩), .pointer (some ⟨vd, 0, none⟩)]] w4
      fun e w' => e = .returned (.int .i64 (idl (burnB D))) ∧ Dev w' s (workD (worn D i) (i * 64) 64 fE (gE D.fm)) ∧ Onl s.S w4 w') := Lib.hid fun w4 vb vd cp h4 hv => workE_any s (worn D i) (i * 64) 64 cp vb vd w4 h4 hv (by show _ ≤ D.C.length; omega) (by omega) hd
  have HNV : Hid (∀ k, w.heap.size ≤ k → k ∉ s.S) := Lib.hid fun k hk => not_mem_new h hk
  have HO3 : Hid (s.o3 < w.heap.size) := Lib.hid h.e.lt
  have e1 : (i : Int) < D.L.length := by omega
  have e2 : (i : Int) < D.E.length := by omega
  obtain ⟨n, hn⟩ : ∃ n, D.L.length = n := ⟨_, rfl⟩
  rw [hn] at e1 H5
  obtain ⟨m, hm⟩ : ∃ m, D.E.length = m := ⟨_, rfl⟩
  rw [hm] at e2 H7
  have hmf : ∀ (fn : Fn) (first cap : Array Value) (w : World), (Instr.makeFunc fn first cap).run Try.prog w = .ok (.func fn first cap) w := fun _ _ _ _ => rfl
  obtain ⟨c, hc⟩ : ∃ c, s.k1 - i * 64 = c := ⟨_, rfl⟩
  obtain ⟨of, hof⟩ : ∃ of, i * 64 = of := ⟨_, rfl⟩
  rw [hc, hof] at HSC
  rw [hof] at HWK ⊢
  clear h hd hi hl hn hm hcl hwo hx hiE hc hof
  go_enter Try.func15, Try.ntmps15
  go_wp2_with (first
    | ((with_reducible refine wpBox1K (.pointer (some ⟨s.b, 0, none⟩)) 25 (ptr_cells _) ?_ ?_); rfl; intro w1 r1 b1 s1; have c1 := r1.cell 0; have c5 := H5.out w1 b1; have c6 := H6.out w1 b1; have c7 := H7.out w1 b1; have c8 := H8.out w1 b1; have R1 := Lib.hid r1; have RE1 := Lib.hid (RE.out w1 b1); have B1 := Lib.hid b1; clear r1 b1 s1)
    | (go_at_call 26; (with_reducible refine (HX.out w1 B1.out).mono ?_); rintro e u1 ⟨rfl, rfl⟩)
    | (go_at_call 37; (with_reducible refine (HY.out w1 B1.out).mono ?_); rintro e u1 ⟨rfl, rfl⟩)
    | ((with_reducible refine RE1.out.wpStore1K i 3 (.int .i64 p) finfo_int HLE.out (int_cells _ _) (int_one _ _) ?_ ?_); (simp only [storeOf, Act.eval]; exact congrArg (fun z => some (_, _, Value.int .i64 z)) hp); intro w2 r2 o2 s2; have D2 := Lib.hid (HSE.out w1 w2 B1.out r2 o2); have R2 := Lib.hid (R1.out.only o2 (by have := HO3.out; omega)); have O2 := Lib.hid ((Onl.of_below (S := s.S) B1.out).trans (Onl.of_only o2 s.o3_mem)); have c12 := R2.out.cell 0; clear r2 o2 s2)
    | (go_at_call 38; (with_reducible refine (HSC.out w2 D2.out).mono ?_); rintro e u1 ⟨rfl, rfl⟩)
    | ((with_reducible refine wpAlloc1K (.slice none 0 0) 48 (slice_cells _ _ _) zero_bytes ?_ ?_); rfl; intro w3 r3 b3 s3; have D3 := Lib.hid (D2.out.step b3); have R3 := Lib.hid (R2.out.step b3); have RB3 := Lib.hid r3; have O3 := Lib.hid (O2.out.step b3); clear r3 b3 s3)
    | ((with_reducible refine RB3.out.wpStore1K 0 48 (.slice (some ⟨s.o1, of, none⟩) 64 c) finfo_bytes (by decide) (slice_cells _ _ _) (slice_one _ _ _) ?_ ?_); rfl; intro w4 r4 o4 s4; have D4 := Lib.hid (D3.out.onl (S := [w2.heap.size]) (Onl.of_only o4 (by simp)) (fun k hk hq => by have := D2.out.lt k hk; simp at hq; omega)); have R4 := Lib.hid (R3.out.only o4 (by have := R2.out.lt; omega)); have RB4 : Hid (Row w4 w2.heap.size 48 [.slice (some ⟨s.o1, of, none⟩) 64 c]) := Lib.hid r4; have O4 := Lib.hid (O3.out.only o4 (Or.inr O2.out.size)); have c14 := R4.out.cell 0; have c24 := RB4.out.cell 0; have CP : Hid (CapE w4 s of 64 c w2.heap.size w.heap.size) := Lib.hid ⟨c24, c14, RB4.out.lt, R4.out.lt, HNV.out _ O2.out.size, HNV.out _ (Nat.le_refl _)⟩; clear r4 o4 s4)
    | (go_at_call 28; (with_reducible refine (HWK.out w4 _ _ _ D4.out CP.out).mono ?_); rintro e w5 ⟨rfl, d5, o5⟩; have D5 := Lib.hid d5; have O5 := Lib.hid (O4.out.trans o5); clear d5 o5))
  go_ret
  exact ⟨rfl, D5.out, O5.out⟩
theorem fla_erase_any (s : Sh) (D : Dv) (i : Int) (w : World) (h : Dev w s D) :
    Calls Try.prog 15 #[.pointer (some ⟨s.b, 0, none⟩), .int .i64 i] w fun e w' => e = .returned (.int .i64 (eraseE D i)) ∧ Dev w' s (eraseD D i) ∧ Onl s.S w w' := by
  cases hd : D.dn with
  | true =>
    refine (erase_down s D i w h hd).mono ?_
    rintro e w' ⟨rfl, hb⟩
    exact ⟨by rw [eraseE, hd]; rfl, by rw [eraseD, eraseB, hd]; exact h.step hb, Onl.of_below hb⟩
  | false =>
    by_cases hi : 0 ≤ i ∧ i < D.L.length
    · obtain ⟨j, rfl⟩ : ∃ j : Nat, i = j := ⟨i.toNat, by omega⟩
      cases hl : D.L.getD j false with
      | true =>
        refine (erase_locked s D j w h hd (by omega) hl).mono ?_
        rintro e w' ⟨rfl, hb⟩
        have hE : eraseB D (j : Int) = false := by rw [eraseB, hd, Int.toNat_natCast, hl]; simp
        exact ⟨by rw [eraseE, hd, if_pos hi, Int.toNat_natCast, hl]; rfl, by rw [eraseD, hE]; exact h.step hb, Onl.of_below hb⟩
      | false =>
        refine (erase_good s D j w h hd (by omega) hl).mono ?_
        rintro e w' ⟨rfl, h1, h2⟩
        have hE : eraseB D (j : Int) = true := by rw [eraseB, hd, Int.toNat_natCast, hl, decide_eq_true hi]; rfl
        exact ⟨by rw [eraseE, hd, if_pos hi, Int.toNat_natCast, hl]; rfl, by rw [eraseD, if_pos hE, Int.toNat_natCast]; exact h1, h2⟩
    · refine (erase_out s D i w h hd hi).mono ?_
      rintro e w' ⟨rfl, hb⟩
      have hE : eraseB D i = false := by rw [eraseB, decide_eq_false hi]; simp
      exact ⟨by rw [eraseE, hd, if_neg hi]; rfl, by rw [eraseD, hE]; exact h.step hb, Onl.of_below hb⟩
end Go.Proofs.Ytgdfcfbccjdecaa
