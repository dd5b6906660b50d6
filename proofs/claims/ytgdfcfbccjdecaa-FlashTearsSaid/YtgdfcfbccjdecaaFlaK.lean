/- Contracts of flash: Program. -/
import Derived.Test.YtgdfcfbccjdecaaFlaJ
namespace Go.Proofs.Ytgdfcfbccjdecaa
open Go.RowKit FlaMath
set_option linter.unusedVariables false
set_option maxRecDepth 100000

theorem program_nil (x : Int) (t : ByteArray) (w : World) : Calls Try.prog 10 #[.pointer none, .int .i64 x, .string t] w fun e w' => e = .returned (.int .i64 1) ∧ Below w.heap.size w w' := by
  have HX := Lib.hid idle_nil
  go_enter Try.func10, Try.ntmps10
  go_wp2_with (first
    | ((with_reducible refine wpBox1K (.pointer none) 25 (ptr_cells _) ?_ ?_); rfl; intro w1 r1 b1 s1; have R1 := Lib.hid r1; have B1 := Lib.hid b1; clear r1 b1 s1)
    | ((with_reducible refine wpBox1K (.string t) 9 (fstr_cells _) ?_ ?_); rfl; intro w2 r2 b2 s2; have c1 := (R1.out.step b2).cell 0; have B2 := Lib.hid (B1.out.next b2); clear r2 b2 s2)
    | (go_at_call 26; (with_reducible refine (HX.out w2).mono ?_); rintro e u1 ⟨rfl, rfl⟩))
  go_ret
  exact ⟨rfl, B2.out⟩

/-- Whether a program is done, or torn. -/
def programE (D : Dv) (x : Int) (l : List UInt8) : Int :=
  if D.dn then 5 else if x.tmod 16 ≠ 0 ∨ l.length ≠ 16 then 3 else if bey D.C.length x 16 then 2 else if D.L.getD (x.toNat / 64) false then 4 else idl (burnB D)
def programB (D : Dv) (x : Int) (l : List UInt8) : Bool := !D.dn && !(decide (x.tmod 16 ≠ 0 ∨ l.length ≠ 16)) && !(bey D.C.length x 16) && !(D.L.getD (x.toNat / 64) false)
def programD (D : Dv) (x : Int) (l : List UInt8) : Dv := if programB D x l then workD D x.toNat 16 (fP l) (gP l D.fm) else D

theorem program_down (s : Sh) (D : Dv) (x : Int) (t : ByteArray) (w : World) (h : Dev w s D) (hd : D.dn = true) :
    Calls Try.prog 10 #[.pointer (some ⟨s.b, 0, none⟩), .int .i64 x, .string t] w fun e w' => e = .returned (.int .i64 5) ∧ Below w.heap.size w w' := by
  have HX : Hid (∀ w1, Below w.heap.size w w1 → Calls Try.prog 26 #[.pointer (some ⟨s.b, 0, none⟩)] w1 fun e w' => e = .returned (.int .i64 5) ∧ w1 = w') := Lib.hid fun w1 hb => by
    have := idle_any s D w1 (h.step hb); rwa [hd] at this
  clear h hd
  go_enter Try.func10, Try.ntmps10
  go_wp2_with (first
    | ((with_reducible refine wpBox1K (.pointer (some ⟨s.b, 0, none⟩)) 25 (ptr_cells _) ?_ ?_); rfl; intro w1 r1 b1 s1; have R1 := Lib.hid r1; have B1 := Lib.hid b1; clear r1 b1 s1)
    | ((with_reducible refine wpBox1K (.string t) 9 (fstr_cells _) ?_ ?_); rfl; intro w2 r2 b2 s2; have c1 := (R1.out.step b2).cell 0; have B2 := Lib.hid (B1.out.next b2); clear r2 b2 s2)
    | (go_at_call 26; (with_reducible refine (HX.out w2 B2.out).mono ?_); rintro e u1 ⟨rfl, rfl⟩))
  go_ret
  exact ⟨rfl, B2.out⟩
theorem program_align (s : Sh) (D : Dv) (x : Int) (t : ByteArray) (w : World) (h : Dev w s D) (hd : D.dn = false) (hs : t.size ≤ 140737488355328) (hb : x.tmod 16 ≠ 0 ∨ t.size ≠ 16) :
    Calls Try.prog 10 #[.pointer (some ⟨s.b, 0, none⟩), .int .i64 x, .string t] w fun e w' => e = .returned (.int .i64 3) ∧ Below w.heap.size w w' := by
  have HX : Hid (∀ w1, Below w.heap.size w w1 → Calls Try.prog 26 #[.pointer (some ⟨s.b, 0, none⟩)] w1 fun e w' => e = .returned (.int .i64 0) ∧ w1 = w') := Lib.hid fun w1 hb => by
    have := idle_any s D w1 (h.step hb); rwa [hd] at this
  clear h hd
  by_cases hm : x.tmod 16 = 0
  · have hz : ¬ t.size = 16 := by rcases hb with h | h
                                  · exact absurd hm h
                                  · exact h
    have hz1 : ((t.size : Int) != 16) = true := bne_iff_ne.2 (by omega)
    have hz2 : ¬ (t.size : Int) = 16 := by omega
    have hm1 : (x.tmod 16 != 0) = false := by rw [hm]; rfl
    clear hb
    go_enter Try.func10, Try.ntmps10
    go_wp2_with (first
      | ((with_reducible refine wpBox1K (.pointer (some ⟨s.b, 0, none⟩)) 25 (ptr_cells _) ?_ ?_); rfl; intro w1 r1 b1 s1; have R1 := Lib.hid r1; have B1 := Lib.hid b1; clear r1 b1 s1)
      | ((with_reducible refine wpBox1K (.string t) 9 (fstr_cells _) ?_ ?_); rfl; intro w2 r2 b2 s2; have c1 := (R1.out.step b2).cell 0; have c2 := r2.cell 0; have B2 := Lib.hid (B1.out.next b2); clear r2 b2 s2)
      | (go_at_call 26; (with_reducible refine (HX.out w2 B2.out).mono ?_); rintro e u1 ⟨rfl, rfl⟩))
    go_ret
    exact ⟨rfl, B2.out⟩
  · have hm1 : (x.tmod 16 != 0) = true := bne_iff_ne.2 hm
    clear hb
    go_enter Try.func10, Try.ntmps10
    go_wp2_with (first
      | ((with_reducible refine wpBox1K (.pointer (some ⟨s.b, 0, none⟩)) 25 (ptr_cells _) ?_ ?_); rfl; intro w1 r1 b1 s1; have R1 := Lib.hid r1; have B1 := Lib.hid b1; clear r1 b1 s1)
      | ((with_reducible refine wpBox1K (.string t) 9 (fstr_cells _) ?_ ?_); rfl; intro w2 r2 b2 s2; have c1 := (R1.out.step b2).cell 0; have c2 := r2.cell 0; have B2 := Lib.hid (B1.out.next b2); clear r2 b2 s2)
      | (go_at_call 26; (with_reducible refine (HX.out w2 B2.out).mono ?_); rintro e u1 ⟨rfl, rfl⟩))
    go_ret
    exact ⟨rfl, B2.out⟩
theorem program_out (s : Sh) (D : Dv) (x : Int) (t : ByteArray) (w : World) (h : Dev w s D) (hd : D.dn = false) (hx : x < 9223372036854775808) (hs : t.size = 16) (hm : x.tmod 16 = 0) (hb : bey D.C.length x 16 = true) :
    Calls Try.prog 10 #[.pointer (some ⟨s.b, 0, none⟩), .int .i64 x, .string t] w fun e w' => e = .returned (.int .i64 2) ∧ Below w.heap.size w w' := by
  have HX : Hid (∀ w1, Below w.heap.size w w1 → Calls Try.prog 26 #[.pointer (some ⟨s.b, 0, none⟩)] w1 fun e w' => e = .returned (.int .i64 0) ∧ w1 = w') := Lib.hid fun w1 hb => by
    have := idle_any s D w1 (h.step hb); rwa [hd] at this
  have HY : Hid (∀ w1, Below w.heap.size w w1 → Calls Try.prog 27 #[.pointer (some ⟨s.b, 0, none⟩), .int .i64 x, .int .i64 16] w1 fun e w' => e = .returned (.bool true) ∧ w1 = w') := Lib.hid fun w1 hb1 => by
    have := beyond_any s D x 16 w1 (h.step hb1) hx; rwa [hb] at this
  have HYn : Hid (∀ w1, Below w.heap.size w w1 → Calls Try.prog 27 #[.pointer (some ⟨s.b, 0, none⟩), .int .i64 x, .int .i64 (t.size : Int)] w1 fun e w' => e = .returned (.bool true) ∧ w1 = w') := Lib.hid fun w1 hb1 => by
    rw [hs]; exact HY.out w1 hb1
  have hz1 : ((t.size : Int) != 16) = false := by rw [hs]; rfl
  have hm1 : (x.tmod 16 != 0) = false := by rw [hm]; rfl
  clear h hd hx hm hb
  go_enter Try.func10, Try.ntmps10
  go_wp2_with (first
    | ((with_reducible refine wpBox1K (.pointer (some ⟨s.b, 0, none⟩)) 25 (ptr_cells _) ?_ ?_); rfl; intro w1 r1 b1 s1; have R1 := Lib.hid r1; have B1 := Lib.hid b1; clear r1 b1 s1)
    | ((with_reducible refine wpBox1K (.string t) 9 (fstr_cells _) ?_ ?_); rfl; intro w2 r2 b2 s2; have R2 := Lib.hid (R1.out.step b2); have RT2 := Lib.hid r2; have c1 := (R1.out.step b2).cell 0; have c2 := r2.cell 0; have B2 := Lib.hid (B1.out.next b2); clear r2 b2 s2)
    | (go_at_call 26; (with_reducible refine (HX.out w2 B2.out).mono ?_); rintro e u1 ⟨rfl, rfl⟩)
    | (go_at_call 27; (first | (with_reducible refine (HY.out w2 B2.out).mono ?_) | (with_reducible refine (HYn.out w2 B2.out).mono ?_)); rintro e u1 ⟨rfl, rfl⟩))
  go_ret
  exact ⟨rfl, B2.out⟩
theorem program_locked (s : Sh) (D : Dv) (a : Nat) (t : ByteArray) (w : World) (h : Dev w s D) (hd : D.dn = false) (hx : (a : Int) < 9223372036854775808) (hs : t.size = 16) (hm : (a : Int).tmod 16 = 0) (hb : bey D.C.length a 16 = false) (hl : D.L.getD (a / 64) false = true) :
    Calls Try.prog 10 #[.pointer (some ⟨s.b, 0, none⟩), .int .i64 (a : Int), .string t] w fun e w' => e = .returned (.int .i64 4) ∧ Below w.heap.size w w' := by
  have HX : Hid (∀ w1, Below w.heap.size w w1 → Calls Try.prog 26 #[.pointer (some ⟨s.b, 0, none⟩)] w1 fun e w' => e = .returned (.int .i64 0) ∧ w1 = w') := Lib.hid fun w1 hb => by
    have := idle_any s D w1 (h.step hb); rwa [hd] at this
  have HY : Hid (∀ w1, Below w.heap.size w w1 → Calls Try.prog 27 #[.pointer (some ⟨s.b, 0, none⟩), .int .i64 (a : Int), .int .i64 16] w1 fun e w' => e = .returned (.bool false) ∧ w1 = w') := Lib.hid fun w1 hb1 => by
    have := beyond_any s D (a : Int) 16 w1 (h.step hb1) hx; rwa [hb] at this
  have HYn : Hid (∀ w1, Below w.heap.size w w1 → Calls Try.prog 27 #[.pointer (some ⟨s.b, 0, none⟩), .int .i64 (a : Int), .int .i64 (t.size : Int)] w1 fun e w' => e = .returned (.bool false) ∧ w1 = w') := Lib.hid fun w1 hb1 => by
    rw [hs]; exact HY.out w1 hb1
  have hz1 : ((t.size : Int) != 16) = false := by rw [hs]; rfl
  have hm1 : ((a : Int).tmod 16 != 0) = false := by rw [hm]; rfl
  have hca := h.ok.cells
  have hb2 := of_decide_eq_false hb
  have hjn : a / 64 < D.L.length := by omega
  have H5 : Hid (∀ w1, Below w.heap.size w w1 → w1.cell? ⟨s.b, 5, none⟩ = some (.slice (some ⟨s.o2, 0, none⟩) D.L.length s.k2)) := Lib.hid fun w1 hb => (h.step hb).c5
  have H6 : Hid (∀ w1, Below w.heap.size w w1 → w1.cell? ⟨s.o2, a / 64, none⟩ = some (.bool true)) := Lib.hid fun w1 hb => by
    have := (h.step hb).cl (a / 64) hjn
    rwa [show D.L[a / 64] = true by rw [List.getD_eq_getElem?_getD, List.getElem?_eq_getElem hjn] at hl; exact hl] at this
  obtain ⟨n, hn⟩ : ∃ n, D.L.length = n := ⟨_, rfl⟩
  obtain ⟨j, hj⟩ : ∃ j, a / 64 = j := ⟨_, rfl⟩
  have q1 : (a : Int).tdiv 64 = (j : Int) := by rw [← hj]; rfl
  have q2 : (a : Int) / 64 = (j : Int) := by rw [← hj]; rfl
  have q3 : (j : Int) < n := by omega
  have hm3 : ((a : Int) % 16 != 0) = false := by
    have : (a : Int) % 16 = (a : Int).tmod 16 := (Int.tmod_eq_emod_of_nonneg (by omega)).symm
    rw [this, hm]; rfl
  have hm2 : (a : Int) % 16 = 0 := beq_iff_eq.1 (by simpa using hm3)
  have q4 : a / 64 = j := hj
  have hjb : (j : Int) ≤ 512 := by have := h.ok.top; omega
  have q5 : wrap64 (j : Int) = j := by unfold wrap64; omega
  rw [hn] at H5
  rw [hj] at H6
  clear h hd hx hm hb hl hn hca hb2 hjn hj
  go_enter Try.func10, Try.ntmps10
  go_wp2_with (first
    | ((with_reducible refine wpBox1K (.pointer (some ⟨s.b, 0, none⟩)) 25 (ptr_cells _) ?_ ?_); rfl; intro w1 r1 b1 s1; have R1 := Lib.hid r1; have B1 := Lib.hid b1; clear r1 b1 s1)
    | ((with_reducible refine wpBox1K (.string t) 9 (fstr_cells _) ?_ ?_); rfl; intro w2 r2 b2 s2; have R2 := Lib.hid (R1.out.step b2); have RT2 := Lib.hid r2; have c1 := (R1.out.step b2).cell 0; have c2 := r2.cell 0; have B2 := Lib.hid (B1.out.next b2); have c5 := H5.out w2 B2.out; have c6 := H6.out w2 B2.out; clear r2 b2 s2)
    | (go_at_call 26; (with_reducible refine (HX.out w2 B2.out).mono ?_); rintro e u1 ⟨rfl, rfl⟩)
    | (go_at_call 27; (first | (with_reducible refine (HY.out w2 B2.out).mono ?_) | (with_reducible refine (HYn.out w2 B2.out).mono ?_)); rintro e u1 ⟨rfl, rfl⟩))
  go_ret
  exact ⟨rfl, B2.out⟩
set_option maxHeartbeats 1000000 in
theorem program_good (s : Sh) (D : Dv) (a : Nat) (t : ByteArray) (w : World) (h : Dev w s D) (hd : D.dn = false) (hx : (a : Int) < 9223372036854775808) (hs : t.size = 16) (hm : (a : Int).tmod 16 = 0) (hb : bey D.C.length a 16 = false) (hl : D.L.getD (a / 64) false = false) :
    Calls Try.prog 10 #[.pointer (some ⟨s.b, 0, none⟩), .int .i64 (a : Int), .string t] w fun e w' => e = .returned (.int .i64 (idl (burnB D))) ∧ Dev w' s (workD D a 16 (fP t.data.toList) (gP t.data.toList D.fm)) ∧ Onl s.S w w' := by
  have HX : Hid (∀ w1, Below w.heap.size w w1 → Calls Try.prog 26 #[.pointer (some ⟨s.b, 0, none⟩)] w1 fun e w' => e = .returned (.int .i64 0) ∧ w1 = w') := Lib.hid fun w1 hb => by
    have := idle_any s D w1 (h.step hb); rwa [hd] at this
  have HY : Hid (∀ w1, Below w.heap.size w w1 → Calls Try.prog 27 #[.pointer (some ⟨s.b, 0, none⟩), .int .i64 (a : Int), .int .i64 16] w1 fun e w' => e = .returned (.bool false) ∧ w1 = w') := Lib.hid fun w1 hb1 => by
    have := beyond_any s D (a : Int) 16 w1 (h.step hb1) hx; rwa [hb] at this
  have HYn : Hid (∀ w1, Below w.heap.size w w1 → Calls Try.prog 27 #[.pointer (some ⟨s.b, 0, none⟩), .int .i64 (a : Int), .int .i64 (t.size : Int)] w1 fun e w' => e = .returned (.bool false) ∧ w1 = w') := Lib.hid fun w1 hb1 => by
    rw [hs]; exact HY.out w1 hb1
  have hz1 : ((t.size : Int) != 16) = false := by rw [hs]; rfl
  have hm1 : ((a : Int).tmod 16 != 0) = false := by rw [hm]; rfl
  have hca := h.ok.cells
  have hb2 := of_decide_eq_false hb
  have hjn : a / 64 < D.L.length := by omega
  have H5 : Hid (∀ w1, Below w.heap.size w w1 → w1.cell? ⟨s.b, 5, none⟩ = some (.slice (some ⟨s.o2, 0, none⟩) D.L.length s.k2)) := Lib.hid fun w1 hb => (h.step hb).c5
  have H6 : Hid (∀ w1, Below w.heap.size w w1 → w1.cell? ⟨s.o2, a / 64, none⟩ = some (.bool false)) := Lib.hid fun w1 hb => by
    have := (h.step hb).cl (a / 64) hjn
    rwa [show D.L[a / 64] = false by rw [List.getD_eq_getElem?_getD, List.getElem?_eq_getElem hjn] at hl; exact hl] at this
  have H4 : Hid (∀ w1, Below w.heap.size w w1 → w1.cell? ⟨s.b, 4, none⟩ = some (.slice (some ⟨s.o1, 0, none⟩) D.C.length s.k1)) := Lib.hid fun w1 hb => (h.step hb).c4
  have hrm := h.room
  have HDS : Hid (∀ w1, Below w.heap.size w w1 → Dev w1 s D) := Lib.hid fun w1 hb => h.step hb
  have HWK : Hid (∀ w4 vb vp vd cp q, Dev w4 s D → 16 ≤ q → CapP w4 s a cp vb vp vd q t → Calls Try.prog 28 #[.pointer (some ⟨s.b, 0, none⟩), .int .i64 16, .func (.func 29) #[] #[.pointer (some ⟨vb, 0, none⟩), .pointer (some ⟨vp, 0, none⟩)], .func (.func 30) #[] #[.pointer (some ⟨vb, 0, none⟩), .pointer (some ⟨vp, 0, none⟩), .pointer (some ⟨vd, 0, none⟩)]] w4
      fun e w' => e = .returned (.int .i64 (idl (burnB D))) ∧ Dev w' s (workD D a 16 (fP t.data.toList) (gP t.data.toList D.fm)) ∧ Onl s.S w4 w') := Lib.hid fun w4 vb vp vd cp q h4 hq hv => workP_any s D a 16 cp vb vp vd q t w4 h4 hv (by omega) (by omega) (by omega) hq hd
  have HWKn : Hid (∀ w4 vb vp vd cp q, Dev w4 s D → 16 ≤ q → CapP w4 s a cp vb vp vd q t → Calls Try.prog 28 #[.pointer (some ⟨s.b, 0, none⟩), .int .i64 (t.size : Int), .func (.func 29) #[] #[.pointer (some ⟨vb, 0, none⟩), .pointer (some ⟨vp, 0, none⟩)], .func (.func 30) #[] #[.pointer (some ⟨vb, 0, none⟩), .pointer (some ⟨vp, 0, none⟩), .pointer (some ⟨vd, 0, none⟩)]] w4
      fun e w' => e = .returned (.int .i64 (idl (burnB D))) ∧ Dev w' s (workD D a 16 (fP t.data.toList) (gP t.data.toList D.fm)) ∧ Onl s.S w4 w') := Lib.hid fun w4 vb vp vd cp q h4 hq hv => by rw [hs]; exact HWK.out w4 vb vp vd cp q h4 hq hv
  have HNV : Hid (∀ k, w.heap.size ≤ k → k ∉ s.S) := Lib.hid fun k hk => not_mem_new h hk
  have HLT : Hid (∀ k ∈ s.S, k < w.heap.size) := Lib.hid h.lt
  have hmf : ∀ (fn : Fn) (first cap : Array Value) (w : World), (Instr.makeFunc fn first cap).run Try.prog w = .ok (.func fn first cap) w := fun _ _ _ _ => rfl
  obtain ⟨n, hn⟩ : ∃ n, D.L.length = n := ⟨_, rfl⟩
  obtain ⟨j, hj⟩ : ∃ j, a / 64 = j := ⟨_, rfl⟩
  have q1 : (a : Int).tdiv 64 = (j : Int) := by rw [← hj]; rfl
  have q2 : (a : Int) / 64 = (j : Int) := by rw [← hj]; rfl
  have q3 : (j : Int) < n := by omega
  have hm3 : ((a : Int) % 16 != 0) = false := by
    have : (a : Int) % 16 = (a : Int).tmod 16 := (Int.tmod_eq_emod_of_nonneg (by omega)).symm
    rw [this, hm]; rfl
  have hm2 : (a : Int) % 16 = 0 := beq_iff_eq.1 (by simpa using hm3)
  have q4 : a / 64 = j := hj
  have hjb : (j : Int) ≤ 512 := by have := h.ok.top; omega
  have q5 : wrap64 (j : Int) = j := by unfold wrap64; omega
  rw [hn] at H5
  rw [hj] at H6
  obtain ⟨m, hme⟩ : ∃ m, D.C.length = m := ⟨_, rfl⟩
  obtain ⟨k1, hk1⟩ : ∃ k, s.k1 = k := ⟨_, rfl⟩
  rw [hme, hk1] at H4
  have e1 : (a : Int) ≤ m := by omega
  have e2 : (m : Int) ≤ k1 := by omega
  have e3 : ¬ k1 - a = 0 := by omega
  have e4 : ¬ (k1 : Int) - a = 0 := by omega
  have e5 : ¬ k1 = a := by omega
  have e6 : ¬ k1 ≤ a := by omega
  have e7 : a ≤ m := by omega
  have e8 : m ≤ k1 := by omega
  have e9 : (a : Int) < k1 := by omega
  have HQ : Hid (16 ≤ m - a) := Lib.hid (by omega)
  clear h hd hx hm hb hl hn hca hb2 hjn hj hrm hme hk1
  go_enter Try.func10, Try.ntmps10
  go_wp2_with (first
    | ((with_reducible refine wpBox1K (.pointer (some ⟨s.b, 0, none⟩)) 25 (ptr_cells _) ?_ ?_); rfl; intro w1 r1 b1 s1; have R1 := Lib.hid r1; have B1 := Lib.hid b1; clear r1 b1 s1)
    | ((with_reducible refine wpBox1K (.string t) 9 (fstr_cells _) ?_ ?_); rfl; intro w2 r2 b2 s2; have R2 := Lib.hid (R1.out.step b2); have RT2 := Lib.hid r2; have c1 := (R1.out.step b2).cell 0; have c2 := r2.cell 0; have B2 := Lib.hid (B1.out.next b2); have c4 := H4.out w2 B2.out; have c5 := H5.out w2 B2.out; have c6 := H6.out w2 B2.out; have D2 := Lib.hid (HDS.out w2 B2.out); have O2 := Lib.hid (Onl.of_below (S := s.S) B2.out); have S1 := Lib.hid B1.out.size; clear r2 b2 s2)
    | (go_at_call 26; (with_reducible refine (HX.out w2 B2.out).mono ?_); rintro e u1 ⟨rfl, rfl⟩)
    | (go_at_call 27; (first | (with_reducible refine (HY.out w2 B2.out).mono ?_) | (with_reducible refine (HYn.out w2 B2.out).mono ?_)); rintro e u1 ⟨rfl, rfl⟩)
    | ((with_reducible refine wpAlloc1K (.slice none 0 0) 48 (slice_cells _ _ _) zero_bytes ?_ ?_); rfl; intro w3 r3 b3 s3; have D3 := Lib.hid (D2.out.step b3); have R3 := Lib.hid (R2.out.step b3); have RT3 := Lib.hid (RT2.out.step b3); have RB3 := Lib.hid r3; have O3 := Lib.hid (O2.out.step b3); clear r3 b3 s3)
    | ((with_reducible refine RB3.out.wpStore1K 0 48 (.slice (some ⟨s.o1, a, none⟩) (m - a) (k1 - a)) finfo_bytes (by decide) (slice_cells _ _ _) (slice_one _ _ _) ?_ ?_); rfl; intro w4 r4 o4 s4; have D4 := Lib.hid (D3.out.onl (S := [w2.heap.size]) (Onl.of_only o4 (by simp)) (fun k hk hq => by have := D2.out.lt k hk; simp at hq; omega)); have R4 := Lib.hid (R3.out.only o4 (by have := R2.out.lt; omega)); have RT4 := Lib.hid (RT3.out.only o4 (by have := RT2.out.lt; omega)); have RB4 : Hid (Row w4 w2.heap.size 48 [.slice (some ⟨s.o1, a, none⟩) (m - a) (k1 - a)]) := Lib.hid r4; have O4 := Lib.hid (O3.out.only o4 (Or.inr O2.out.size)); have c14 := R4.out.cell 0; have c24 := RB4.out.cell 0; have c34 := RT4.out.cell 0; have CP : Hid (CapP w4 s a (k1 - a) w2.heap.size w1.heap.size w.heap.size (m - a) t) := Lib.hid ⟨c24, c34, c14, RB4.out.lt, RT4.out.lt, R4.out.lt, HNV.out _ O2.out.size, HNV.out _ S1.out, HNV.out _ (Nat.le_refl _)⟩; clear r4 o4 s4)
    | (go_at_call 28; (first | (with_reducible refine (HWK.out w4 _ _ _ _ _ D4.out HQ.out CP.out).mono ?_) | (with_reducible refine (HWKn.out w4 _ _ _ _ _ D4.out HQ.out CP.out).mono ?_)); rintro e w5 ⟨rfl, d5, o5⟩; have D5 := Lib.hid d5; have O5 := Lib.hid (O4.out.trans o5); clear d5 o5))
  go_ret
  exact ⟨rfl, D5.out, O5.out⟩
theorem program_any (s : Sh) (D : Dv) (x : Int) (t : ByteArray) (w : World) (h : Dev w s D) (hx : x < 9223372036854775808) (hs : t.size ≤ 140737488355328) :
    Calls Try.prog 10 #[.pointer (some ⟨s.b, 0, none⟩), .int .i64 x, .string t] w fun e w' => e = .returned (.int .i64 (programE D x t.data.toList)) ∧ Dev w' s (programD D x t.data.toList) ∧ Onl s.S w w' := by
  have hst : t.data.toList.length = t.size := size_list t
  have bad : ∀ e w', programB D x t.data.toList = false → Below w.heap.size w w' → programE D x t.data.toList = e → Ending.returned (.int .i64 e) = .returned (.int .i64 (programE D x t.data.toList)) ∧ Dev w' s (programD D x t.data.toList) ∧ Onl s.S w w' := fun e w' h1 hb h2 =>
    ⟨by rw [h2], by rw [programD, h1]; exact h.step hb, Onl.of_below hb⟩
  cases hd : D.dn with
  | true =>
    refine (program_down s D x t w h hd).mono ?_
    rintro e w' ⟨rfl, hb⟩
    exact bad _ _ (by rw [programB, hd]; rfl) hb (by rw [programE, hd]; rfl)
  | false =>
    by_cases hal : x.tmod 16 ≠ 0 ∨ t.size ≠ 16
    · refine (program_align s D x t w h hd hs hal).mono ?_
      rintro e w' ⟨rfl, hb⟩
      exact bad _ _ (by rw [programB, hd, hst, decide_eq_true hal]; rfl) hb (by rw [programE, hd, hst, if_pos hal]; rfl)
    · have h16 : t.size = 16 := by omega
      have hm : x.tmod 16 = 0 := by omega
      cases hb : bey D.C.length x 16 with
      | true =>
        refine (program_out s D x t w h hd hx h16 hm hb).mono ?_
        rintro e w' ⟨rfl, hbl⟩
        exact bad _ _ (by rw [programB, hb]; simp) hbl (by rw [programE, hd, hst, if_neg hal, hb]; rfl)
      | false =>
        have hb2 := of_decide_eq_false hb
        obtain ⟨a, rfl⟩ : ∃ a : Nat, x = a := ⟨x.toNat, by omega⟩
        cases hl : D.L.getD (a / 64) false with
        | true =>
          refine (program_locked s D a t w h hd hx h16 hm hb hl).mono ?_
          rintro e w' ⟨rfl, hbl⟩
          exact bad _ _ (by rw [programB, Int.toNat_natCast, hl]; simp) hbl (by rw [programE, hd, hst, if_neg hal, hb, Int.toNat_natCast, hl]; rfl)
        | false =>
          refine (program_good s D a t w h hd hx h16 hm hb hl).mono ?_
          rintro e w' ⟨rfl, h1, h2⟩
          have hE : programB D (a : Int) t.data.toList = true := by rw [programB, hd, hst, decide_eq_false hal, hb, Int.toNat_natCast, hl]; rfl
          exact ⟨by rw [programE, hd, hst, if_neg hal, hb, Int.toNat_natCast, hl]; rfl, by rw [programD, if_pos hE, Int.toNat_natCast]; exact h1, h2⟩
end Go.Proofs.Ytgdfcfbccjdecaa
