/- Contracts of flash: Read, Rot. -/
import Derived.Test.YtgdfcfbccjdecaaFlaD
namespace Go.Proofs.Ytgdfcfbccjdecaa
open Go.RowKit FlaMath
set_option linter.unusedVariables false
set_option maxRecDepth 100000

theorem read_nil (x y : Int) (w : World) : Calls Try.prog 14 #[.pointer none, .int .i64 x, .int .i64 y] w fun e w' => e = .returned (.tuple #[.string (str []), .int .i64 1]) ∧ w = w' := by
  have HX := Lib.hid (idle_nil w)
  go_enter Try.func14, Try.ntmps14
  go_wp2_with (go_at_call 26; (with_reducible refine HX.out.mono ?_); rintro e u1 ⟨rfl, rfl⟩)
  go_ret2
  exact ⟨rfl, rfl⟩
theorem read_good0 (s : Sh) (D : Dv) (a n : Nat) (w : World) (h : Dev w s D) (hd : D.dn = false) (ha : a + n ≤ D.C.length) (hk : a < s.k1) :
    Calls Try.prog 14 #[.pointer (some ⟨s.b, 0, none⟩), .int .i64 (a : Int), .int .i64 (n : Int)] w fun e w' => e = .returned (.tuple #[.string (str ((D.C.drop a).take n)), .int .i64 0]) ∧ Dev w' s { D with ops := wrap64 (D.ops + 1) } ∧ Onl s.S w w' := by
  have HX : Hid (Calls Try.prog 26 #[.pointer (some ⟨s.b, 0, none⟩)] w fun e w' => e = .returned (.int .i64 0) ∧ w = w') := Lib.hid (by have := idle_any s D w h; rwa [hd] at this)
  have hb : bey D.C.length a n = false := decide_eq_false (by omega)
  have hc := h.ok.cells
  have ht := h.ok.top
  have HY : Hid (Calls Try.prog 27 #[.pointer (some ⟨s.b, 0, none⟩), .int .i64 (a : Int), .int .i64 (n : Int)] w fun e w' => e = .returned (.bool false) ∧ w = w') := Lib.hid (by
    have := beyond_any s D a n w h (by omega); rwa [hb] at this)
  have HD := Lib.hid h
  have h7 := h.c7
  have h4 := h.c4
  have hrm := h.room
  have R0 : Hid (Row w s.b 58 (devL s D)) := Lib.hid h.row
  have HL : Hid (7 < (devL s D).length) := Lib.hid (by rw [devL_length]; decide)
  obtain ⟨p, hp⟩ : ∃ p, wrap64 (D.ops + 1) = p := ⟨_, rfl⟩
  have HE : Hid ((devL s D).set 7 (.int .i64 p) = devL s { D with ops := p }) := Lib.hid rfl
  have HR : Hid (∀ w1, Dev w1 s { D with ops := p } → (convert 48 9 (.slice (some ⟨s.o1, a, none⟩) n (s.k1 - a))).run Try.prog w1 = .ok (.string (str ((D.C.drop a).take n))) w1) := Lib.hid fun w1 h1 => h1.read a n _ ha
  obtain ⟨S, hS⟩ : ∃ S, str ((D.C.drop a).take n) = S := ⟨_, rfl⟩
  rw [hS] at HR ⊢
  rw [hp]
  obtain ⟨m, hm⟩ : ∃ m, D.C.length = m := ⟨_, rfl⟩
  have H4 : Hid (∀ w1, Dev w1 s { D with ops := p } → w1.cell? ⟨s.b, 4, none⟩ = some (.slice (some ⟨s.o1, 0, none⟩) m s.k1)) := Lib.hid fun w1 h1 => by have := h1.c4; rwa [show ({ D with ops := p } : Dv).C.length = m from hm] at this
  rw [hm] at h4 hrm ha hc
  have ew : wrap64 ((a : Int) + (n : Int)) = (a : Int) + n := by unfold wrap64; omega
  have e0 : (a : Int) + (n : Int) = ((a + n : Nat) : Int) := by omega
  have e1 : ((a + n : Nat) : Int) ≤ s.k1 := by omega
  have e2 : (a : Int) ≤ ((a + n : Nat) : Int) := by omega
  have e3 : a + n ≤ s.k1 := by omega
  have e4 : a + n - a = n := by omega
  have e5 : (a : Int) + n ≤ s.k1 := by omega
  have e6 : 0 ≤ (n : Int) := by omega
  have e7 : ((a : Int) + n).toNat = a + n := by omega
  have e8 : 0 ≤ (a : Int) + n := by omega
  have e9 : ¬ s.k1 - a = 0 := by omega
  have e10 : ¬ (s.k1 : Int) - a = 0 := by omega
  have e11 : ¬ s.k1 = a := by omega
  have e12 : ¬ s.k1 ≤ a := by omega
  obtain ⟨k1, hk1⟩ : ∃ k, s.k1 = k := ⟨_, rfl⟩
  rw [hk1] at e1 e3 e5 h4 HR H4 e9 e10 e11 e12 hk
  clear h hb hd hS hm hrm hc hk1 e0
  go_enter Try.func14, Try.ntmps14
  go_wp2_with (first
    | (go_at_call 26; (with_reducible refine HX.out.mono ?_); rintro e u1 ⟨rfl, rfl⟩)
    | (go_at_call 27; (with_reducible refine HY.out.mono ?_); rintro e u1 ⟨rfl, rfl⟩)
    | ((with_reducible refine R0.out.wpStore1K 7 3 (.int .i64 p) finfo_int HL.out (int_cells _ _) (int_one _ _) ?_ ?_); (simp only [storeOf, Act.eval]; exact congrArg (fun z => some (_, _, Value.int .i64 z)) hp); intro w1 r1 o1 s1; have D1 := Lib.hid (HD.out.put { D with ops := p } (by rw [← HE.out]; exact r1) o1 rfl rfl rfl); have O1 := Lib.hid o1; have h41 := H4.out w1 D1.out; have hr1 := HR.out w1 D1.out; clear r1 o1 s1))
  go_ret2
  exact ⟨rfl, D1.out, Onl.of_only O1.out s.b_mem⟩
theorem read_good1 (s : Sh) (D : Dv) (a : Nat) (w : World) (h : Dev w s D) (hd : D.dn = false) (ha : a + 0 ≤ D.C.length) (hk : s.k1 = a) :
    Calls Try.prog 14 #[.pointer (some ⟨s.b, 0, none⟩), .int .i64 (a : Int), .int .i64 (0 : Int)] w fun e w' => e = .returned (.tuple #[.string (str ((D.C.drop a).take 0)), .int .i64 0]) ∧ Dev w' s { D with ops := wrap64 (D.ops + 1) } ∧ Onl s.S w w' := by
  have HX : Hid (Calls Try.prog 26 #[.pointer (some ⟨s.b, 0, none⟩)] w fun e w' => e = .returned (.int .i64 0) ∧ w = w') := Lib.hid (by have := idle_any s D w h; rwa [hd] at this)
  have hb : bey D.C.length a 0 = false := decide_eq_false (by omega)
  have hc := h.ok.cells
  have ht := h.ok.top
  have HY : Hid (Calls Try.prog 27 #[.pointer (some ⟨s.b, 0, none⟩), .int .i64 (a : Int), .int .i64 (0 : Int)] w fun e w' => e = .returned (.bool false) ∧ w = w') := Lib.hid (by
    have := beyond_any s D a (0 : Int) w h (by omega); rwa [hb] at this)
  have HD := Lib.hid h
  have h7 := h.c7
  have h4 := h.c4
  have hrm := h.room
  have R0 : Hid (Row w s.b 58 (devL s D)) := Lib.hid h.row
  have HL : Hid (7 < (devL s D).length) := Lib.hid (by rw [devL_length]; decide)
  obtain ⟨p, hp⟩ : ∃ p, wrap64 (D.ops + 1) = p := ⟨_, rfl⟩
  have HE : Hid ((devL s D).set 7 (.int .i64 p) = devL s { D with ops := p }) := Lib.hid rfl
  have HR : Hid (∀ w1, Dev w1 s { D with ops := p } → (convert 48 9 (.slice (some ⟨s.o1, 0, none⟩) 0 0)).run Try.prog w1 = .ok (.string (str ((D.C.drop a).take 0))) w1) := Lib.hid fun w1 h1 => by have := h1.read 0 0 0 (by omega); simpa using this
  obtain ⟨S, hS⟩ : ∃ S, str ((D.C.drop a).take 0) = S := ⟨_, rfl⟩
  rw [hS] at HR ⊢
  rw [hp]
  obtain ⟨m, hm⟩ : ∃ m, D.C.length = m := ⟨_, rfl⟩
  have H4 : Hid (∀ w1, Dev w1 s { D with ops := p } → w1.cell? ⟨s.b, 4, none⟩ = some (.slice (some ⟨s.o1, 0, none⟩) m s.k1)) := Lib.hid fun w1 h1 => by have := h1.c4; rwa [show ({ D with ops := p } : Dv).C.length = m from hm] at this
  rw [hm] at h4 hrm ha hc
  have ew : wrap64 (a : Int) = a := by unfold wrap64; omega
  have ew2 : wrap64 ((a : Int) + 0) = a := by unfold wrap64; omega
  have e1 : (a : Int) ≤ s.k1 := by omega
  rw [hk] at h4 H4 e1
  clear h hb hd hS hm hrm hc hk
  go_enter Try.func14, Try.ntmps14
  go_wp2_with (first
    | (go_at_call 26; (with_reducible refine HX.out.mono ?_); rintro e u1 ⟨rfl, rfl⟩)
    | (go_at_call 27; (with_reducible refine HY.out.mono ?_); rintro e u1 ⟨rfl, rfl⟩)
    | ((with_reducible refine R0.out.wpStore1K 7 3 (.int .i64 p) finfo_int HL.out (int_cells _ _) (int_one _ _) ?_ ?_); (simp only [storeOf, Act.eval]; exact congrArg (fun z => some (_, _, Value.int .i64 z)) hp); intro w1 r1 o1 s1; have D1 := Lib.hid (HD.out.put { D with ops := p } (by rw [← HE.out]; exact r1) o1 rfl rfl rfl); have O1 := Lib.hid o1; have h41 := H4.out w1 D1.out; have hr1 := HR.out w1 D1.out; clear r1 o1 s1))
  go_ret2
  exact ⟨rfl, D1.out, Onl.of_only O1.out s.b_mem⟩
theorem read_good (s : Sh) (D : Dv) (a n : Nat) (w : World) (h : Dev w s D) (hd : D.dn = false) (ha : a + n ≤ D.C.length) :
    Calls Try.prog 14 #[.pointer (some ⟨s.b, 0, none⟩), .int .i64 (a : Int), .int .i64 (n : Int)] w fun e w' => e = .returned (.tuple #[.string (str ((D.C.drop a).take n)), .int .i64 0]) ∧ Dev w' s { D with ops := wrap64 (D.ops + 1) } ∧ Onl s.S w w' := by
  have hr := h.room
  by_cases hk : s.k1 = a
  · obtain rfl : n = 0 := by omega
    exact read_good1 s D a w h hd ha hk
  · exact read_good0 s D a n w h hd ha (by omega)
theorem read_any (s : Sh) (D : Dv) (x y : Int) (w : World) (h : Dev w s D) (hx : x < 9223372036854775808) :
    Calls Try.prog 14 #[.pointer (some ⟨s.b, 0, none⟩), .int .i64 x, .int .i64 y] w fun e w' => e = .returned (.tuple #[.string (str (readS D x y)), .int .i64 (readE D x y)]) ∧ Dev w' s (D.readD x y (wrap64 (D.ops + 1))) ∧ Onl s.S w w' := by
  cases hd : D.dn with
  | true =>
    have hE : readE D x y = 5 := by simp [readE, hd]
    have hS : readS D x y = [] := by rw [readS, hE]; rfl
    have hD : D.readD x y (wrap64 (D.ops + 1)) = D := by rw [Dv.readD, hE]; rfl
    have HX : Hid (Calls Try.prog 26 #[.pointer (some ⟨s.b, 0, none⟩)] w fun e w' => e = .returned (.int .i64 5) ∧ w = w') := Lib.hid (by have := idle_any s D w h; rwa [hd] at this)
    rw [hE, hS, hD]
    have HD := Lib.hid h
    clear h hE hS hD hd
    go_enter Try.func14, Try.ntmps14
    go_wp2_with (go_at_call 26; (with_reducible refine HX.out.mono ?_); rintro e u1 ⟨rfl, rfl⟩)
    go_ret2
    exact ⟨rfl, HD.out, Onl.refl _ _⟩
  | false =>
    cases hb : bey D.C.length x y with
    | true =>
      have hE : readE D x y = 2 := by simp [readE, hd, hb]
      have hS : readS D x y = [] := by rw [readS, hE]; rfl
      have hD : D.readD x y (wrap64 (D.ops + 1)) = D := by rw [Dv.readD, hE]; rfl
      have HX : Hid (Calls Try.prog 26 #[.pointer (some ⟨s.b, 0, none⟩)] w fun e w' => e = .returned (.int .i64 0) ∧ w = w') := Lib.hid (by have := idle_any s D w h; rwa [hd] at this)
      have HY : Hid (Calls Try.prog 27 #[.pointer (some ⟨s.b, 0, none⟩), .int .i64 x, .int .i64 y] w fun e w' => e = .returned (.bool true) ∧ w = w') := Lib.hid (by
        have := beyond_any s D x y w h (by omega); rwa [hb] at this)
      rw [hE, hS, hD]
      have HD := Lib.hid h
      clear h hE hS hD hd hb hx
      go_enter Try.func14, Try.ntmps14
      go_wp2_with (first
        | (go_at_call 26; (with_reducible refine HX.out.mono ?_); rintro e u1 ⟨rfl, rfl⟩)
        | (go_at_call 27; (with_reducible refine HY.out.mono ?_); rintro e u1 ⟨rfl, rfl⟩))
      go_ret2
      exact ⟨rfl, HD.out, Onl.refl _ _⟩
    | false =>
      have hb2 := of_decide_eq_false hb
      have hE : readE D x y = 0 := by simp [readE, hd, hb]
      obtain ⟨a, rfl⟩ : ∃ a : Nat, x = a := ⟨x.toNat, by omega⟩
      obtain ⟨n, rfl⟩ : ∃ n : Nat, y = n := ⟨y.toNat, by omega⟩
      refine (read_good s D a n w h hd (by omega)).mono ?_
      rintro e w' ⟨rfl, h1, h2⟩
      refine ⟨?_, ?_, h2⟩
      · rw [hE, readS, if_pos hE]; rfl
      · rw [Dv.readD, if_pos hE]; exact h1
end Go.Proofs.Ytgdfcfbccjdecaa
