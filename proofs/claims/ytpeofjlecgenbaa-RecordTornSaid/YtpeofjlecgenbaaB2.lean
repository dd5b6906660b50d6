/- The texts FlaE, FlaF, FlaG, FlaH, FlaI, FlaJ, FlaK, InvY, InvR, FlaL, Make, FlaN, FlaO, FlaP, FlaQ, FlaR, FlaT, FlaV, one behind the other. -/
import Derived.StillTailTactics
import Derived.Test.YtpeofjlecgenbaaShelf
import Derived.Lib.MakeNoZero
import Derived.Test.YtpeofjlecgenbaaB1
/- Contracts of flash: Read, Rot. -/
namespace Go.Proofs.Ytpeofjlecgenbaa
open Go.RowKit FlaMath
set_option linter.unusedVariables false
set_option maxRecDepth 100000

theorem read_nil (x y : Int) (w : World) : Calls Try.prog 21 #[.pointer none, .int .i64 x, .int .i64 y] w fun e w' => e = .returned (.tuple #[.string (str []), .int .i64 1]) ∧ w = w' := by
  have HX := Lib.hid (idle_nil w)
  go_enter Try.func21, Try.ntmps21
  go_wp2_with (go_at_call 40; (with_reducible refine HX.out.mono ?_); rintro e u1 ⟨rfl, rfl⟩)
  go_ret2
  exact ⟨rfl, rfl⟩
theorem read_good0 (s : Sh) (D : Dv) (a n : Nat) (w : World) (h : Dev w s D) (hd : D.dn = false) (ha : a + n ≤ D.C.length) (hk : a < s.k1) :
    Calls Try.prog 21 #[.pointer (some ⟨s.b, 0, none⟩), .int .i64 (a : Int), .int .i64 (n : Int)] w fun e w' => e = .returned (.tuple #[.string (str ((D.C.drop a).take n)), .int .i64 0]) ∧ Dev w' s { D with ops := wrap64 (D.ops + 1) } ∧ Onl s.S w w' := by
  have HX : Hid (Calls Try.prog 40 #[.pointer (some ⟨s.b, 0, none⟩)] w fun e w' => e = .returned (.int .i64 0) ∧ w = w') := Lib.hid (by have := idle_any s D w h; rwa [hd] at this)
  have hb : bey D.C.length a n = false := decide_eq_false (by omega)
  have hc := h.ok.cells
  have ht := h.ok.top
  have HY : Hid (Calls Try.prog 41 #[.pointer (some ⟨s.b, 0, none⟩), .int .i64 (a : Int), .int .i64 (n : Int)] w fun e w' => e = .returned (.bool false) ∧ w = w') := Lib.hid (by
    have := beyond_any s D a n w h (by omega); rwa [hb] at this)
  have HD := Lib.hid h
  have h7 := h.c7
  have h4 := h.c4
  have hrm := h.room
  have R0 : Hid (Row w s.b 96 (devL s D)) := Lib.hid h.row
  have HL : Hid (7 < (devL s D).length) := Lib.hid (by rw [devL_length]; decide)
  obtain ⟨p, hp⟩ : ∃ p, wrap64 (D.ops + 1) = p := ⟨_, rfl⟩
  have HE : Hid ((devL s D).set 7 (.int .i64 p) = devL s { D with ops := p }) := Lib.hid rfl
  have HR : Hid (∀ w1, Dev w1 s { D with ops := p } → (convert 58 9 (.slice (some ⟨s.o1, a, none⟩) n (s.k1 - a))).run Try.prog w1 = .ok (.string (str ((D.C.drop a).take n))) w1) := Lib.hid fun w1 h1 => h1.read a n _ ha
  obtain ⟨S, hS⟩ : ∃ S, str ((D.C.drop a).take n) = S := ⟨_, rfl⟩
  rw [hS] at HR ⊢
  rw [hp]
  obtain ⟨m, hm⟩ : ∃ m, D.C.length = m := ⟨_, rfl⟩
  have H4 : Hid (∀ w1, Dev w1 s { D with ops := p } → w1.cell? ⟨s.b, 4, none⟩ = some (.slice (some ⟨s.o1, 0, none⟩) m s.k1)) := Lib.hid fun w1 h1 => by have := h1.c4; rwa [show ({ D with ops := p } : Dv).C.length = m from hm] at this
  rw [hm] at h4 hrm ha hc
  have ew : wrap64 ((a : Int) + (n : Int)) = (a : Int) + n := by unfold wrap64; omega
  have e0 : (a : Int) + (n : Int) = ((a + n : Nat) : Int) := by omega
  have e1 : ((a + n : Nat) : Int) ≤ s.k1 := by omega
  have e2 : (a : Int) ≤ ((a + n : Nat) : Int) := by omega
  have e3 : a + n ≤ s.k1 := by omega
  have e4 : a + n - a = n := by omega
  have e5 : (a : Int) + n ≤ s.k1 := by omega
  have e6 : 0 ≤ (n : Int) := by omega
  have e7 : ((a : Int) + n).toNat = a + n := by omega
  have e8 : 0 ≤ (a : Int) + n := by omega
  have e9 : ¬ s.k1 - a = 0 := by omega
  have e10 : ¬ (s.k1 : Int) - a = 0 := by omega
  have e11 : ¬ s.k1 = a := by omega
  have e12 : ¬ s.k1 ≤ a := by omega
  obtain ⟨k1, hk1⟩ : ∃ k, s.k1 = k := ⟨_, rfl⟩
  rw [hk1] at e1 e3 e5 h4 HR H4 e9 e10 e11 e12 hk
  clear h hb hd hS hm hrm hc hk1 e0
  go_enter Try.func21, Try.ntmps21
  go_wp2_with (first
    | (go_at_call 40; (with_reducible refine HX.out.mono ?_); rintro e u1 ⟨rfl, rfl⟩)
    | (go_at_call 41; (with_reducible refine HY.out.mono ?_); rintro e u1 ⟨rfl, rfl⟩)
    | ((with_reducible refine R0.out.wpStore1K 7 3 (.int .i64 p) finfo_int HL.out (int_cells _ _) (int_one _ _) ?_ ?_); (simp only [storeOf, Act.eval]; exact congrArg (fun z => some (_, _, Value.int .i64 z)) hp); intro w1 r1 o1 s1; have D1 := Lib.hid (HD.out.put { D with ops := p } (by rw [← HE.out]; exact r1) o1 rfl rfl rfl); have O1 := Lib.hid o1; have h41 := H4.out w1 D1.out; have hr1 := HR.out w1 D1.out; clear r1 o1 s1))
  go_ret2
  exact ⟨rfl, D1.out, Onl.of_only O1.out s.b_mem⟩
theorem read_good1 (s : Sh) (D : Dv) (a : Nat) (w : World) (h : Dev w s D) (hd : D.dn = false) (ha : a + 0 ≤ D.C.length) (hk : s.k1 = a) :
    Calls Try.prog 21 #[.pointer (some ⟨s.b, 0, none⟩), .int .i64 (a : Int), .int .i64 (0 : Int)] w fun e w' => e = .returned (.tuple #[.string (str ((D.C.drop a).take 0)), .int .i64 0]) ∧ Dev w' s { D with ops := wrap64 (D.ops + 1) } ∧ Onl s.S w w' := by
  have HX : Hid (Calls Try.prog 40 #[.pointer (some ⟨s.b, 0, none⟩)] w fun e w' => e = .returned (.int .i64 0) ∧ w = w') := Lib.hid (by have := idle_any s D w h; rwa [hd] at this)
  have hb : bey D.C.length a 0 = false := decide_eq_false (by omega)
  have hc := h.ok.cells
  have ht := h.ok.top
  have HY : Hid (Calls Try.prog 41 #[.pointer (some ⟨s.b, 0, none⟩), .int .i64 (a : Int), .int .i64 (0 : Int)] w fun e w' => e = .returned (.bool false) ∧ w = w') := Lib.hid (by
    have := beyond_any s D a (0 : Int) w h (by omega); rwa [hb] at this)
  have HD := Lib.hid h
  have h7 := h.c7
  have h4 := h.c4
  have hrm := h.room
  have R0 : Hid (Row w s.b 96 (devL s D)) := Lib.hid h.row
  have HL : Hid (7 < (devL s D).length) := Lib.hid (by rw [devL_length]; decide)
  obtain ⟨p, hp⟩ : ∃ p, wrap64 (D.ops + 1) = p := ⟨_, rfl⟩
  have HE : Hid ((devL s D).set 7 (.int .i64 p) = devL s { D with ops := p }) := Lib.hid rfl
  have HR : Hid (∀ w1, Dev w1 s { D with ops := p } → (convert 58 9 (.slice (some ⟨s.o1, 0, none⟩) 0 0)).run Try.prog w1 = .ok (.string (str ((D.C.drop a).take 0))) w1) := Lib.hid fun w1 h1 => by have := h1.read 0 0 0 (by omega); simpa using this
  obtain ⟨S, hS⟩ : ∃ S, str ((D.C.drop a).take 0) = S := ⟨_, rfl⟩
  rw [hS] at HR ⊢
  rw [hp]
  obtain ⟨m, hm⟩ : ∃ m, D.C.length = m := ⟨_, rfl⟩
  have H4 : Hid (∀ w1, Dev w1 s { D with ops := p } → w1.cell? ⟨s.b, 4, none⟩ = some (.slice (some ⟨s.o1, 0, none⟩) m s.k1)) := Lib.hid fun w1 h1 => by have := h1.c4; rwa [show ({ D with ops := p } : Dv).C.length = m from hm] at this
  rw [hm] at h4 hrm ha hc
  have ew : wrap64 (a : Int) = a := by unfold wrap64; omega
  have ew2 : wrap64 ((a : Int) + 0) = a := by unfold wrap64; omega
  have e1 : (a : Int) ≤ s.k1 := by omega
  rw [hk] at h4 H4 e1
  clear h hb hd hS hm hrm hc hk
  go_enter Try.func21, Try.ntmps21
  go_wp2_with (first
    | (go_at_call 40; (with_reducible refine HX.out.mono ?_); rintro e u1 ⟨rfl, rfl⟩)
    | (go_at_call 41; (with_reducible refine HY.out.mono ?_); rintro e u1 ⟨rfl, rfl⟩)
    | ((with_reducible refine R0.out.wpStore1K 7 3 (.int .i64 p) finfo_int HL.out (int_cells _ _) (int_one _ _) ?_ ?_); (simp only [storeOf, Act.eval]; exact congrArg (fun z => some (_, _, Value.int .i64 z)) hp); intro w1 r1 o1 s1; have D1 := Lib.hid (HD.out.put { D with ops := p } (by rw [← HE.out]; exact r1) o1 rfl rfl rfl); have O1 := Lib.hid o1; have h41 := H4.out w1 D1.out; have hr1 := HR.out w1 D1.out; clear r1 o1 s1))
  go_ret2
  exact ⟨rfl, D1.out, Onl.of_only O1.out s.b_mem⟩
theorem fla_read_good (s : Sh) (D : Dv) (a n : Nat) (w : World) (h : Dev w s D) (hd : D.dn = false) (ha : a + n ≤ D.C.length) :
    Calls Try.prog 21 #[.pointer (some ⟨s.b, 0, none⟩), .int .i64 (a : Int), .int .i64 (n : Int)] w fun e w' => e = .returned (.tuple #[.string (str ((D.C.drop a).take n)), .int .i64 0]) ∧ Dev w' s { D with ops := wrap64 (D.ops + 1) } ∧ Onl s.S w w' := by
  have hr := h.room
  by_cases hk : s.k1 = a
  · obtain rfl : n = 0 := by omega
    exact read_good1 s D a w h hd ha hk
  · exact read_good0 s D a n w h hd ha (by omega)
theorem read_any (s : Sh) (D : Dv) (x y : Int) (w : World) (h : Dev w s D) (hx : x < 9223372036854775808) :
    Calls Try.prog 21 #[.pointer (some ⟨s.b, 0, none⟩), .int .i64 x, .int .i64 y] w fun e w' => e = .returned (.tuple #[.string (str (readS D x y)), .int .i64 (readE D x y)]) ∧ Dev w' s (D.readD x y (wrap64 (D.ops + 1))) ∧ Onl s.S w w' := by
  cases hd : D.dn with
  | true =>
    have hE : readE D x y = 5 := by simp [readE, hd]
    have hS : readS D x y = [] := by rw [readS, hE]; rfl
    have hD : D.readD x y (wrap64 (D.ops + 1)) = D := by rw [Dv.readD, hE]; rfl
    have HX : Hid (Calls Try.prog 40 #[.pointer (some ⟨s.b, 0, none⟩)] w fun e w' => e = .returned (.int .i64 5) ∧ w = w') := Lib.hid (by have := idle_any s D w h; rwa [hd] at this)
    rw [hE, hS, hD]
    have HD := Lib.hid h
    clear h hE hS hD hd
    go_enter Try.func21, Try.ntmps21
    go_wp2_with (go_at_call 40; (with_reducible refine HX.out.mono ?_); rintro e u1 ⟨rfl, rfl⟩)
    go_ret2
    exact ⟨rfl, HD.out, Onl.refl _ _⟩
  | false =>
    cases hb : bey D.C.length x y with
    | true =>
      have hE : readE D x y = 2 := by simp [readE, hd, hb]
      have hS : readS D x y = [] := by rw [readS, hE]; rfl
      have hD : D.readD x y (wrap64 (D.ops + 1)) = D := by rw [Dv.readD, hE]; rfl
      have HX : Hid (Calls Try.prog 40 #[.pointer (some ⟨s.b, 0, none⟩)] w fun e w' => e = .returned (.int .i64 0) ∧ w = w') := Lib.hid (by have := idle_any s D w h; rwa [hd] at this)
      have HY : Hid (Calls Try.prog 41 #[.pointer (some ⟨s.b, 0, none⟩), .int .i64 x, .int .i64 y] w fun e w' => e = .returned (.bool true) ∧ w = w') := Lib.hid (by
        have := beyond_any s D x y w h (by omega); rwa [hb] at this)
      rw [hE, hS, hD]
      have HD := Lib.hid h
      clear h hE hS hD hd hb hx
      go_enter Try.func21, Try.ntmps21
      go_wp2_with (first
        | (go_at_call 40; (with_reducible refine HX.out.mono ?_); rintro e u1 ⟨rfl, rfl⟩)
        | (go_at_call 41; (with_reducible refine HY.out.mono ?_); rintro e u1 ⟨rfl, rfl⟩))
      go_ret2
      exact ⟨rfl, HD.out, Onl.refl _ _⟩
    | false =>
      have hb2 := of_decide_eq_false hb
      have hE : readE D x y = 0 := by simp [readE, hd, hb]
      obtain ⟨a, rfl⟩ : ∃ a : Nat, x = a := ⟨x.toNat, by omega⟩
      obtain ⟨n, rfl⟩ : ∃ n : Nat, y = n := ⟨y.toNat, by omega⟩
      refine (fla_read_good s D a n w h hd (by omega)).mono ?_
      rintro e w' ⟨rfl, h1, h2⟩
      refine ⟨?_, ?_, h2⟩
      · rw [hE, readS, if_pos hE]; rfl
      · rw [Dv.readD, if_pos hE]; exact h1
end Go.Proofs.Ytpeofjlecgenbaa

/- Contracts of flash: Rot. -/
namespace Go.Proofs.Ytpeofjlecgenbaa
open Go.RowKit FlaMath
set_option linter.unusedVariables false
set_option maxRecDepth 100000

/-- A list that lies in another block than those of S. -/
def OffS (w : World) (S : List Nat) (a : Option Addr) (xs : List Value) : Prop :=
  0 < xs.length → ∃ bl off, a = some ⟨bl, off, none⟩ ∧ bl < w.heap.size ∧ bl ∉ S ∧ ∀ j u, xs[j]? = some u → w.cell? ⟨bl, off + j, none⟩ = some u
theorem OffS.onl {w w' : World} {S : List Nat} {a : Option Addr} {xs : List Value} (h : OffS w S a xs) (ho : Onl S w w') : OffS w' S a xs := by
  intro hx
  obtain ⟨bl, off, e, hl, hne, hc⟩ := h hx
  refine ⟨bl, off, e, Nat.lt_of_lt_of_le hl ho.size, hne, fun j u hj => ?_⟩
  rw [World.cell?_of_block (a := ⟨bl, off + j, none⟩) (ho.2.2.2.2 bl hl hne)]
  exact hc j u hj
theorem Lies.offS {w : World} {B : Nat} {S : List Nat} {a : Option Addr} {xs : List Value} (h : Lies w B a xs) (hS : ∀ k ∈ S, B ≤ k) (hB : B ≤ w.heap.size) : OffS w S a xs := by
  intro hx
  obtain ⟨bl, off, e, hl, hc⟩ := h hx
  exact ⟨bl, off, e, by omega, fun hm => by have := hS bl hm; omega, hc⟩
theorem OffS.nil (w : World) (S : List Nat) (a : Option Addr) : OffS w S a [] := fun h => absurd h (by simp)

theorem fla_u8_xor (x y : UInt8) : bits .xor .u8 (x.toNat : Int) (y.toNat : Int) = ((x ^^^ y).toNat : Int) := by rw [u8_xor_nat _ _ x.toNat_lt y.toNat_lt, UInt8.toNat_xor]
theorem u8_and (x y : UInt8) : bits .and .u8 (x.toNat : Int) (y.toNat : Int) = ((x &&& y).toNat : Int) := by rw [u8_and_nat _ _ x.toNat_lt y.toNat_lt, UInt8.toNat_and]
theorem u8_or (x y : UInt8) : bits .or .u8 (x.toNat : Int) (y.toNat : Int) = ((x ||| y).toNat : Int) := by rw [u8_or_nat _ _ x.toNat_lt y.toNat_lt, UInt8.toNat_or]
end Go.Proofs.Ytpeofjlecgenbaa

/- Contracts of flash: burn, reach, what an erase and a program do with a byte, work. (gen_fla_work.py) -/
namespace Go.Proofs.Ytpeofjlecgenbaa
open Go.RowKit FlaMath
set_option linter.unusedVariables false
set_option maxRecDepth 100000

def burnB (D : Dv) : Bool := D.lit && decide (wrap64 (D.left - 1) < 0)
def burned (D : Dv) : Dv := if D.lit then { D with left := wrap64 (D.left - 1) } else D
theorem burn_any (s : Sh) (D : Dv) (w : World) (h : Dev w s D) :
    Calls Try.prog 58 #[.pointer (some ⟨s.b, 0, none⟩)] w fun e w' => e = .returned (.bool (burnB D)) ∧ Dev w' s (burned D) ∧ Onl s.S w w' := by
  have h2 := h.c2
  have h3 := h.c3
  have HD := Lib.hid h
  have R0 : Hid (Row w s.b 96 (devL s D)) := Lib.hid h.row
  have HL : Hid (3 < (devL s D).length) := Lib.hid (by rw [devL_length]; decide)
  cases hl : D.lit with
  | false =>
    rw [hl] at h2
    have HB : Hid (burnB D = false) := Lib.hid (by rw [burnB, hl]; rfl)
    have HB2 : Hid (burned D = D) := Lib.hid (by rw [burned, hl]; rfl)
    clear h hl
    go_enter Try.func58, Try.ntmps58
    go_wp2
    go_ret
    exact ⟨ret_bool HB.out.symm, by rw [HB2.out]; exact HD.out, Onl.refl _ _⟩
  | true =>
    rw [hl] at h2
    obtain ⟨p, hp⟩ : ∃ p, wrap64 (D.left - 1) = p := ⟨_, rfl⟩
    have HB : Hid (burnB D = decide (p < 0)) := Lib.hid (by rw [burnB, hl, hp]; rfl)
    have HB2 : Hid (burned D = { D with left := p }) := Lib.hid (by rw [burned, hl, hp]; rfl)
    have HE : Hid ((devL s D).set 3 (.int .i64 p) = devL s { D with left := p }) := Lib.hid rfl
    obtain ⟨x, hx⟩ : ∃ x, D.left = x := ⟨_, rfl⟩
    rw [hx] at h3 hp
    clear h hl hx
    go_enter Try.func58, Try.ntmps58
    go_wp2_with ((with_reducible refine R0.out.wpStore1K 3 3 (.int .i64 p) finfo_int HL.out (int_cells _ _) (int_one _ _) ?_ ?_); (simp only [storeOf, Act.eval]; exact congrArg (fun z => some (_, _, Value.int .i64 z)) hp); intro w1 r1 o1 s1; have D1 := Lib.hid (HD.out.put { D with left := p } (by rw [← HE.out]; exact r1) o1 rfl rfl rfl); have O1 := Lib.hid o1; have h31 := D1.out.c3; clear r1 o1 s1)
    go_ret
    exact ⟨ret_bool HB.out.symm, by rw [HB2.out]; exact D1.out, Onl.of_only O1.out s.b_mem⟩

theorem reach_any (fb : Int) (m : Int) (n : Nat) (w : World) (hn : n ≤ 1000) :
    Calls Try.prog 59 #[.agg #[.int .i64 fb, .int .u8 m], .int .i64 (n : Int)] w fun e w' => e = .returned (.int .i64 (reach fb n : Int)) ∧ Below w.heap.size w w' := by
  have hq0 := Int.lt_tmod_of_pos fb (b := (n : Int) + 1) (by omega)
  have hq1 := Int.tmod_lt_of_pos fb (b := (n : Int) + 1) (by omega)
  have hre := reach_eq fb n
  obtain ⟨q, hq⟩ : ∃ q, fb.tmod ((n : Int) + 1) = q := ⟨_, rfl⟩
  rw [hq] at hq0 hq1 hre
  have w1 : wrap64 ((n : Int) + 1) = (n : Int) + 1 := by unfold wrap64; omega
  have w2 : wrap64 (q + n) = q + n := by unfold wrap64; omega
  have w3 : wrap64 (q + n + 1) = q + n + 1 := by unfold wrap64; omega
  have hz : ¬ (n : Int) + 1 = 0 := by omega
  have hle := reach_le fb n
  obtain ⟨r, hr⟩ : ∃ r, reach fb n = r := ⟨_, rfl⟩
  rw [hr] at hre hle ⊢
  have w4 : wrap64 (q : Int) = q := by unfold wrap64; omega
  have w5 : wrap64 (r : Int) = r := by unfold wrap64; omega
  clear hr hle hn hq0 hq1
  go_enter Try.func59, Try.ntmps59
  go_wp2_with ((with_reducible refine wpBoxK [Value.int .i64 fb, .int .u8 m] 42 ?_ ?_); rfl; intro u1 r1 b1 s1; have c1 := r1.cell 0; have B1 := Lib.hid b1; clear r1 b1 s1)
  go_ret
  exact ⟨rfl, B1.out⟩
end Go.Proofs.Ytpeofjlecgenbaa

/- Contracts of flash: what an erase and a program do with a byte. -/
namespace Go.Proofs.Ytpeofjlecgenbaa
open Go.RowKit FlaMath
set_option linter.unusedVariables false
set_option maxRecDepth 100000

/-- What the functions that an erase makes have caught. -/
structure CapE (w : World) (s : Sh) (o n cp vb vd : Nat) : Prop where
  b : w.cell? ⟨vb, 0, none⟩ = some (.slice (some ⟨s.o1, o, none⟩) n cp)
  d : w.cell? ⟨vd, 0, none⟩ = some (.pointer (some ⟨s.b, 0, none⟩))
  lb : vb < w.heap.size
  ld : vd < w.heap.size
  nb : vb ∉ s.S
  nd : vd ∉ s.S
theorem cell_onl {w w' : World} {S : List Nat} {g : Nat} (o : Nat) (h : Onl S w w') (hg : g < w.heap.size) (hn : g ∉ S) : w'.cell? ⟨g, o, none⟩ = w.cell? ⟨g, o, none⟩ := World.cell?_of_block (a := ⟨g, o, none⟩) (h.2.2.2.2 g hg hn)
theorem CapE.onl {w w' : World} {s : Sh} {o n cp vb vd : Nat} (h : CapE w s o n cp vb vd) (ho : Onl s.S w w') : CapE w' s o n cp vb vd :=
  ⟨(cell_onl 0 ho h.lb h.nb).trans h.b, (cell_onl 0 ho h.ld h.nd).trans h.d, Nat.lt_of_lt_of_le h.lb ho.size, Nat.lt_of_lt_of_le h.ld ho.size, h.nb, h.nd⟩
structure CapP (w : World) (s : Sh) (o cp vb vp vd : Nat) (n : Nat) (t : ByteArray) : Prop where
  b : w.cell? ⟨vb, 0, none⟩ = some (.slice (some ⟨s.o1, o, none⟩) n cp)
  p : w.cell? ⟨vp, 0, none⟩ = some (.string t)
  d : w.cell? ⟨vd, 0, none⟩ = some (.pointer (some ⟨s.b, 0, none⟩))
  lb : vb < w.heap.size
  lp : vp < w.heap.size
  ld : vd < w.heap.size
  nb : vb ∉ s.S
  np : vp ∉ s.S
  nd : vd ∉ s.S
theorem CapP.onl {w w' : World} {s : Sh} {o cp vb vp vd n : Nat} {t : ByteArray} (h : CapP w s o cp vb vp vd n t) (ho : Onl s.S w w') : CapP w' s o cp vb vp vd n t :=
  ⟨(cell_onl 0 ho h.lb h.nb).trans h.b, (cell_onl 0 ho h.lp h.np).trans h.p, (cell_onl 0 ho h.ld h.nd).trans h.d, Nat.lt_of_lt_of_le h.lb ho.size, Nat.lt_of_lt_of_le h.lp ho.size, Nat.lt_of_lt_of_le h.ld ho.size, h.nb, h.np, h.nd⟩

theorem prog1_any (s : Sh) (D : Dv) (o cp vb vp vd n : Nat) (t : ByteArray) (k : Nat) (w : World) (h : Dev w s D) (hv : CapP w s o cp vb vp vd n t) (hk : k < n) (hs : k < t.size) (ho : o + k < D.C.length) :
    Calls Try.prog 43 #[.int .i64 (k : Int), .pointer (some ⟨vb, 0, none⟩), .pointer (some ⟨vp, 0, none⟩)] w fun e w' => e = .returned (.tuple #[]) ∧ Dev w' s { D with C := D.C.set (o + k) (fP t.data.toList k D.C[o + k]) } ∧ Onl s.S w w' := by
  have hb := hv.b
  have hp := hv.p
  have hc := h.cc (o + k) ho
  have e1 : (k : Int) < n := by omega
  have e2 : (k : Int) < t.size := by omega
  have et : t.data.toList.getD k 0 = t[k] := by
    rw [List.getD_eq_getElem?_getD, List.getElem?_eq_getElem (by rw [size_list]; exact hs)]; rfl
  rw [show fP t.data.toList k D.C[o + k] = D.C[o + k] &&& t[k] by rw [fP, et]]
  obtain ⟨x, hx⟩ : ∃ x, D.C[o + k] = x := ⟨_, rfl⟩
  rw [hx] at hc ⊢
  have hor := u8_and x t[k]
  have R0 : Hid (Row w.drew s.o1 5 (bytes D.C ++ s.z1)) := Lib.hid h.c.drew
  have HL : Hid (o + k < (bytes D.C ++ s.z1).length) := Lib.hid (by rw [List.length_append, bytes_length]; omega)
  have HD : Hid (Dev w.drew s D) := Lib.hid (h.step ((Below.refl _ _).drew))
  have HO : Hid (Onl s.S w w.drew) := Lib.hid (Onl.of_below ((Below.refl _ _).drew))
  have HK := Lib.hid ho
  clear h hv ho hx et
  go_enter Try.func43, Try.ntmps43
  go_wp2
  go_still_tail 9, (by kernel_rfl)
  change wpList _ _ _ _ _ w.drew
  generalize w.drew = wq at *
  go_wp2_with ((with_reducible refine R0.out.wpStore1K (o + k) 5 (.int .u8 ((x &&& t[k]).toNat : Int)) finfo_byte HL.out (int_cells _ _) (int_one _ _) ?_ ?_); rfl; intro w1 r1 o1 s1; have D1 := Lib.hid (HD.out.setC (o + k) (x &&& t[k]) HK.out r1 o1); have O1 := Lib.hid (HO.out.trans (Onl.of_only o1 s.o1_mem)); clear r1 o1 s1)
  go_end0
  exact ⟨rfl, D1.out, O1.out⟩

theorem prog2_any (s : Sh) (D : Dv) (o cp vb vp vd n : Nat) (t : ByteArray) (k : Nat) (w : World) (h : Dev w s D) (hv : CapP w s o cp vb vp vd n t) (hk : k < n) (hs : k < t.size) (ho : o + k < D.C.length) :
    Calls Try.prog 44 #[.int .i64 (k : Int), .pointer (some ⟨vb, 0, none⟩), .pointer (some ⟨vp, 0, none⟩), .pointer (some ⟨vd, 0, none⟩)] w fun e w' => e = .returned (.tuple #[]) ∧ Dev w' s { D with C := D.C.set (o + k) (gP t.data.toList D.fm k D.C[o + k]) } ∧ Onl s.S w w' := by
  have hb := hv.b
  have hp := hv.p
  have hd := hv.d
  have h1 := h.c1
  have hc := h.cc (o + k) ho
  have e1 : (k : Int) < n := by omega
  have e2 : (k : Int) < t.size := by omega
  have et : t.data.toList.getD k 0 = t[k] := by
    rw [List.getD_eq_getElem?_getD, List.getElem?_eq_getElem (by rw [size_list]; exact hs)]; rfl
  rw [show gP t.data.toList D.fm k D.C[o + k] = D.C[o + k] &&& (t[k] ||| D.fm) by rw [gP, et]]
  obtain ⟨x, hx⟩ : ∃ x, D.C[o + k] = x := ⟨_, rfl⟩
  obtain ⟨m, hm⟩ : ∃ m, D.fm = m := ⟨_, rfl⟩
  rw [hx] at hc ⊢
  rw [hm] at h1
  rw [show x &&& (t[k] ||| D.fm) = x &&& (t[k] ||| m) by rw [hm]]
  have hor := u8_or t[k] m
  have han := u8_and x (t[k] ||| m)
  have han2 : bits .and .u8 (x.toNat : Int) ((t[k].toNat ||| m.toNat : Nat) : Int) = ((x &&& (t[k] ||| m)).toNat : Int) := by rw [← UInt8.toNat_or]; exact han
  obtain ⟨z, hz⟩ : ∃ z, x &&& (t[k] ||| m) = z := ⟨_, rfl⟩
  rw [hz] at han han2 ⊢
  have R0 : Hid (Row w.drew s.o1 5 (bytes D.C ++ s.z1)) := Lib.hid h.c.drew
  have HL : Hid (o + k < (bytes D.C ++ s.z1).length) := Lib.hid (by rw [List.length_append, bytes_length]; omega)
  have HD : Hid (Dev w.drew s D) := Lib.hid (h.step ((Below.refl _ _).drew))
  have HO : Hid (Onl s.S w w.drew) := Lib.hid (Onl.of_below ((Below.refl _ _).drew))
  have HK := Lib.hid ho
  clear h hv ho hx et hm hz
  go_enter Try.func44, Try.ntmps44
  go_wp2
  go_still_tail 16, (by kernel_rfl)
  change wpList _ _ _ _ _ w.drew
  generalize w.drew = wq at *
  go_wp2_with ((with_reducible refine R0.out.wpStore1K (o + k) 5 (.int .u8 (z.toNat : Int)) finfo_byte HL.out (int_cells _ _) (int_one _ _) ?_ ?_); rfl; intro w1 r1 o1 s1; have D1 := Lib.hid (HD.out.setC (o + k) z HK.out r1 o1); have O1 := Lib.hid (HO.out.trans (Onl.of_only o1 s.o1_mem)); clear r1 o1 s1)
  go_end0
  exact ⟨rfl, D1.out, O1.out⟩
end Go.Proofs.Ytpeofjlecgenbaa

/- Contracts of flash: work. (gen_fla_work.py) -/
namespace Go.Proofs.Ytpeofjlecgenbaa
open Go.RowKit FlaMath
set_option linter.unusedVariables false
set_option maxRecDepth 100000

/-- What an erase or a program of the bytes o .. makes of a device that is up. -/
def workD (D : Dv) (o n : Nat) (f g : Nat → UInt8 → UInt8) : Dv :=
  { burned D with ops := wrap64 (D.ops + 1), dn := burnB D, C := FlaMath.work D.C o n (if burnB D then reach D.fb n else n) f g }
theorem burned_C (D : Dv) : (burned D).C = D.C := by unfold burned; split <;> rfl
theorem burned_fm (D : Dv) : (burned D).fm = D.fm := by unfold burned; split <;> rfl
theorem burned_fb (D : Dv) : (burned D).fb = D.fb := by unfold burned; split <;> rfl
theorem burned_dn (D : Dv) : (burned D).dn = D.dn := by unfold burned; split <;> rfl
theorem burned_L (D : Dv) : (burned D).L = D.L := by unfold burned; split <;> rfl
theorem burned_E (D : Dv) : (burned D).E = D.E := by unfold burned; split <;> rfl
theorem burned_ops (D : Dv) (p : Int) : burned { D with ops := p } = { burned D with ops := p } := by unfold burned; cases h : D.lit <;> simp [h]
theorem dv_same {D D' : Dv} (h1 : D.fb = D'.fb) (h2 : D.fm = D'.fm) (h3 : D.lit = D'.lit) (h4 : D.left = D'.left) (h5 : D.C = D'.C) (h6 : D.L = D'.L) (h7 : D.E = D'.E) (h8 : D.ops = D'.ops) (h9 : D.dn = D'.dn) : D = D' := by
  cases D; cases D'; simp_all
theorem tornA (s : Sh) (D : Dv) : devL s D = [] ++ [Value.int .i64 D.fb, .int .u8 (D.fm.toNat : Int)] ++ (devL s D).drop 2 := rfl

set_option maxHeartbeats 1000000 in
theorem workP_false (s : Sh) (D : Dv) (o n cp vb vp vd q : Nat) (t : ByteArray) (w : World) (h : Dev w s D) (hv : CapP w s o cp vb vp vd q t) (ho : o + n ≤ D.C.length) (hn : n ≤ 1000) (ht : n ≤ t.size) (hq : n ≤ q) (hB : burnB D = false) (hdn : D.dn = false) :
    Calls Try.prog 42 #[.pointer (some ⟨s.b, 0, none⟩), .int .i64 (n : Int), .func (.func 43) #[] #[.pointer (some ⟨vb, 0, none⟩), .pointer (some ⟨vp, 0, none⟩)], .func (.func 44) #[] #[.pointer (some ⟨vb, 0, none⟩), .pointer (some ⟨vp, 0, none⟩), .pointer (some ⟨vd, 0, none⟩)]] w
      fun e w' => e = .returned (.int .i64 (idl false)) ∧ Dev w' s (workD D o n (fP t.data.toList) (gP t.data.toList D.fm)) ∧ Onl s.S w w' := by
  obtain ⟨p, hp⟩ : ∃ p, wrap64 (D.ops + 1) = p := ⟨_, rfl⟩
  have h7 := h.c7
  have R0 : Hid (Row w s.b 96 (devL s D)) := Lib.hid h.row
  have HL : Hid (7 < (devL s D).length) := Lib.hid (by rw [devL_length]; decide)
  have HL8 : Hid (∀ D', 8 < (devL s D').length) := Lib.hid fun D' => by rw [devL_length]; decide
  have HD := Lib.hid h
  have HE : Hid ((devL s D).set 7 (.int .i64 p) = devL s { D with ops := p }) := Lib.hid rfl
  obtain ⟨D2, hD2⟩ : ∃ D2, D2 = burned { D with ops := p } := ⟨_, rfl⟩
  have HBU : Hid (∀ w1, Dev w1 s { D with ops := p } → Calls Try.prog 58 #[.pointer (some ⟨s.b, 0, none⟩)] w1 fun e w' => e = .returned (.bool false) ∧ Dev w' s D2 ∧ Onl s.S w1 w') := Lib.hid fun w1 h1 => by
    have := burn_any s _ w1 h1
    rw [← hD2, show burnB { D with ops := p } = false from hB] at this
    exact this
  obtain ⟨D3, hD3⟩ : ∃ D3, D3 = { D2 with dn := false } := ⟨_, rfl⟩
  have h3C : D3.C = D.C := by rw [hD3, hD2]; exact burned_C _
  have h2fb : D2.fb = D.fb := by rw [hD2]; exact burned_fb _
  have h3fm : D3.fm = D.fm := by rw [hD3, hD2]; exact burned_fm _
  have h3dn : D3.dn = false := by rw [hD3]
  have HD23 : Hid (D2 = D3) := Lib.hid (by rw [hD3]; have : D2.dn = false := by rw [hD2, burned_dn]; exact hdn
                                           cases D2; simp_all)
  obtain ⟨r, hr⟩ : ∃ r, (if burnB D then reach D.fb n else n) = r := ⟨_, rfl⟩
  have hrn : r = n := by rw [hB, if_neg (by simp)] at hr; exact hr.symm
  have hrle : r ≤ n := by omega
  have HF : Hid (∀ C, C = FlaMath.work D.C o n r (fP t.data.toList) (gP t.data.toList D.fm) → { D3 with C := C } = workD D o n (fP t.data.toList) (gP t.data.toList D.fm)) := Lib.hid fun C hC => by
    rw [hC, hD3, hD2, burned_ops, hp.symm, workD, hr, hB]
  have HOC : Hid (∀ wx, Onl s.S w wx → CapP wx s o cp vb vp vd q t) := Lib.hid fun wx hx => hv.onl hx
  have H1 : Hid (∀ wx k, Dev wx s { D3 with C := prog D.C o k (fP t.data.toList) } → Onl s.S w wx → k < n → Calls Try.prog 43 #[.int .i64 (k : Int), .pointer (some ⟨vb, 0, none⟩), .pointer (some ⟨vp, 0, none⟩)] wx fun e w' => e = .returned (.tuple #[]) ∧ Dev w' s { D3 with C := prog D.C o (k + 1) (fP t.data.toList) } ∧ Onl s.S wx w') := Lib.hid fun wx k h1 h2 h3 => by
    have hlt : o + k < D.C.length := by omega
    have hc : o + k < ({ D3 with C := prog D.C o k (fP t.data.toList) } : Dv).C.length := by show _ < (prog _ _ _ _).length; rw [prog_length]; exact hlt
    have := prog1_any s _ o cp vb vp vd q t k wx h1 (HOC.out wx h2) (by omega) (by omega) hc
    have e : ({ D3 with C := prog D.C o k (fP t.data.toList) } : Dv).C.set (o + k) ((fP t.data.toList) k ({ D3 with C := prog D.C o k (fP t.data.toList) } : Dv).C[o + k]) = prog D.C o (k + 1) (fP t.data.toList) := by
      show (prog D.C o k (fP t.data.toList)).set (o + k) ((fP t.data.toList) k ((prog D.C o k (fP t.data.toList))[o + k])) = _
      rw [prog_at D.C o k _ hlt]
      exact prog_step D.C o k _ hlt
    rw [e] at this
    exact this
  have HID : Hid (∀ wx Dx, Dev wx s Dx → Dx.dn = false → Calls Try.prog 40 #[.pointer (some ⟨s.b, 0, none⟩)] wx fun e w' => e = .returned (.int .i64 (idl false)) ∧ wx = w') := Lib.hid fun wx Dx h1 h2 => by
    have := idle_any s Dx wx h1; rwa [h2] at this
  have HW : Hid ((workD D o n (fP t.data.toList) (gP t.data.toList D.fm)).dn = false) := Lib.hid hB
  have H3 : Hid (∀ wx, Dev wx s { D3 with C := prog D.C o n (fP t.data.toList) } → r = n → Dev wx s (workD D o n (fP t.data.toList) (gP t.data.toList D.fm))) := Lib.hid fun wx h1 hq => by
    rw [← HF.out _ rfl, FlaMath.work, if_neg (by omega), hq]; exact h1
  have H0 : Hid (Dev w s D → ∀ wx, Dev wx s D3 → Dev wx s { D3 with C := prog D.C o 0 (fP t.data.toList) }) := Lib.hid fun _ wx h1 => by rw [prog_zero, ← h3C]; exact h1
  have HR := Lib.hid hrle
  have HHV := Lib.hid hv
  have hrI : (r : Int) ≤ n := by omega
  have hrM : (r : Int) ≤ 1000 := by omega
  subst hrn
  clear h hv ho hn hB hdn hD2 hD3 h3C h2fb h3fm h3dn hr hrle ht hq
  go_enter Try.func42, Try.ntmps42
  go_wp2_with (first
    | ((with_reducible refine R0.out.wpStore1K 7 3 (.int .i64 p) finfo_int HL.out (int_cells _ _) (int_one _ _) ?_ ?_); (simp only [storeOf, Act.eval]; exact congrArg (fun z => some (_, _, Value.int .i64 z)) hp); intro w1 r1 o1 s1; have D1 := Lib.hid (HD.out.put { D with ops := p } (by rw [← HE.out]; exact r1) o1 rfl rfl rfl); have O1 := Lib.hid (Onl.of_only o1 s.b_mem); clear r1 o1 s1)
    | (go_at_call 58; (with_reducible refine (HBU.out w1 D1.out).mono ?_); rintro e w2 ⟨rfl, d2, o2⟩; have D2' := Lib.hid d2; have R2 := Lib.hid d2.row; have O2 := Lib.hid (O1.out.trans o2); clear d2 o2)
    )
  go_loopw [34] (fun x wr => ∃ k : Nat, k ≤ r ∧ x = .int .i64 k ∧ Dev wr s { D3 with C := prog D.C o k (fP t.data.toList) } ∧ Onl s.S w wr) (fun x _ => r - (intOf x).toNat)
  case atStart => exact ⟨0, Nat.zero_le _, rfl, H0.out HD.out _ (by rw [← HD23.out]; exact D2'.out), O2.out⟩
  case round =>
    obtain ⟨k, hk, rfl, hd, hoo⟩ := hrel
    by_cases hlt : k < r
    · have e1 : (k : Int) < r := by omega
      have ew : wrap64 ((k : Int) + 1) = (k : Int) + 1 := by unfold wrap64; omega
      have HC := Lib.hid (H1.out wr k hd hoo (by have := HR.out; omega))
      have HO := Lib.hid hoo
      clear hd hoo
      go_wp2_with (go_at_call 43; (with_reducible refine HC.out.mono ?_); rintro e w5 ⟨rfl, d5, o5⟩; have D5 := Lib.hid d5; have O5 := Lib.hid (HO.out.trans o5); clear d5 o5)
      go_roundw
      case rel => exact ⟨k + 1, by omega, by go_num, D5.out, O5.out⟩
      case measure => simp [intOf]; omega
    · have ek : k = r := by omega
      subst ek
      have D5 : Hid (Dev wr s (workD D o k (fP t.data.toList) (gP t.data.toList D.fm))) := Lib.hid (H3.out wr hd (by simp))
      have HI5 := Lib.hid (HID.out wr _ D5.out HW.out)
      have HO := Lib.hid hoo
      clear hd hoo
      go_wp2_with (go_at_call 40; (with_reducible refine HI5.out.mono ?_); rintro e w6 ⟨rfl, rfl⟩)
      go_ret
      exact ⟨rfl, D5.out, HO.out⟩

set_option maxHeartbeats 1000000 in
theorem workP_true (s : Sh) (D : Dv) (o n cp vb vp vd q : Nat) (t : ByteArray) (w : World) (h : Dev w s D) (hv : CapP w s o cp vb vp vd q t) (ho : o + n ≤ D.C.length) (hn : n ≤ 1000) (ht : n ≤ t.size) (hq : n ≤ q) (hB : burnB D = true) (hdn : D.dn = false) :
    Calls Try.prog 42 #[.pointer (some ⟨s.b, 0, none⟩), .int .i64 (n : Int), .func (.func 43) #[] #[.pointer (some ⟨vb, 0, none⟩), .pointer (some ⟨vp, 0, none⟩)], .func (.func 44) #[] #[.pointer (some ⟨vb, 0, none⟩), .pointer (some ⟨vp, 0, none⟩), .pointer (some ⟨vd, 0, none⟩)]] w
      fun e w' => e = .returned (.int .i64 (idl true)) ∧ Dev w' s (workD D o n (fP t.data.toList) (gP t.data.toList D.fm)) ∧ Onl s.S w w' := by
  obtain ⟨p, hp⟩ : ∃ p, wrap64 (D.ops + 1) = p := ⟨_, rfl⟩
  have h7 := h.c7
  have R0 : Hid (Row w s.b 96 (devL s D)) := Lib.hid h.row
  have HL : Hid (7 < (devL s D).length) := Lib.hid (by rw [devL_length]; decide)
  have HL8 : Hid (∀ D', 8 < (devL s D').length) := Lib.hid fun D' => by rw [devL_length]; decide
  have HD := Lib.hid h
  have HE : Hid ((devL s D).set 7 (.int .i64 p) = devL s { D with ops := p }) := Lib.hid rfl
  obtain ⟨D2, hD2⟩ : ∃ D2, D2 = burned { D with ops := p } := ⟨_, rfl⟩
  have HBU : Hid (∀ w1, Dev w1 s { D with ops := p } → Calls Try.prog 58 #[.pointer (some ⟨s.b, 0, none⟩)] w1 fun e w' => e = .returned (.bool true) ∧ Dev w' s D2 ∧ Onl s.S w1 w') := Lib.hid fun w1 h1 => by
    have := burn_any s _ w1 h1
    rw [← hD2, show burnB { D with ops := p } = true from hB] at this
    exact this
  obtain ⟨D3, hD3⟩ : ∃ D3, D3 = { D2 with dn := true } := ⟨_, rfl⟩
  have h3C : D3.C = D.C := by rw [hD3, hD2]; exact burned_C _
  have h2fb : D2.fb = D.fb := by rw [hD2]; exact burned_fb _
  have h3fm : D3.fm = D.fm := by rw [hD3, hD2]; exact burned_fm _
  have h3dn : D3.dn = true := by rw [hD3]
  have HD23 : Hid ({ D2 with dn := true } = D3) := Lib.hid hD3.symm
  obtain ⟨r, hr⟩ : ∃ r, (if burnB D then reach D.fb n else n) = r := ⟨_, rfl⟩
  have hrr : reach D.fb n = r := by rw [hB, if_pos rfl] at hr; exact hr
  have hrle : r ≤ n := by rw [← hrr]; exact reach_le _ _
  have HF : Hid (∀ C, C = FlaMath.work D.C o n r (fP t.data.toList) (gP t.data.toList D.fm) → { D3 with C := C } = workD D o n (fP t.data.toList) (gP t.data.toList D.fm)) := Lib.hid fun C hC => by
    rw [hC, hD3, hD2, burned_ops, hp.symm, workD, hr, hB]
  have HE8 : Hid (∀ w3, Row w3 s.b 96 ((devL s D2).set 8 (.bool true)) → Row w3 s.b 96 (devL s { D2 with dn := true })) := Lib.hid fun w3 h3 => h3
  have HE9 : Hid (∀ w3, Row w3 s.b 96 ((devL s D2).set 8 (.bool true)) → Row w3 s.b 96 ([] ++ [Value.int .i64 D2.fb, .int .u8 (D2.fm.toNat : Int)] ++ (devL s { D2 with dn := true }).drop 2)) := Lib.hid fun w3 h3 => h3
  have HRE : Hid (∀ w1, Calls Try.prog 59 #[.agg #[.int .i64 D2.fb, .int .u8 (D2.fm.toNat : Int)], .int .i64 (n : Int)] w1 fun e w' => e = .returned (.int .i64 (r : Int)) ∧ Below w1.heap.size w1 w') := Lib.hid fun w1 => by
    have := reach_any D2.fb (D2.fm.toNat : Int) n w1 hn
    have e : reach D2.fb n = r := by rw [h2fb]; exact hrr
    rw [e] at this
    exact this
  have HOC : Hid (∀ wx, Onl s.S w wx → CapP wx s o cp vb vp vd q t) := Lib.hid fun wx hx => hv.onl hx
  have H1 : Hid (∀ wx k, Dev wx s { D3 with C := prog D.C o k (fP t.data.toList) } → Onl s.S w wx → k < n → Calls Try.prog 43 #[.int .i64 (k : Int), .pointer (some ⟨vb, 0, none⟩), .pointer (some ⟨vp, 0, none⟩)] wx fun e w' => e = .returned (.tuple #[]) ∧ Dev w' s { D3 with C := prog D.C o (k + 1) (fP t.data.toList) } ∧ Onl s.S wx w') := Lib.hid fun wx k h1 h2 h3 => by
    have hlt : o + k < D.C.length := by omega
    have hc : o + k < ({ D3 with C := prog D.C o k (fP t.data.toList) } : Dv).C.length := by show _ < (prog _ _ _ _).length; rw [prog_length]; exact hlt
    have := prog1_any s _ o cp vb vp vd q t k wx h1 (HOC.out wx h2) (by omega) (by omega) hc
    have e : ({ D3 with C := prog D.C o k (fP t.data.toList) } : Dv).C.set (o + k) ((fP t.data.toList) k ({ D3 with C := prog D.C o k (fP t.data.toList) } : Dv).C[o + k]) = prog D.C o (k + 1) (fP t.data.toList) := by
      show (prog D.C o k (fP t.data.toList)).set (o + k) ((fP t.data.toList) k ((prog D.C o k (fP t.data.toList))[o + k])) = _
      rw [prog_at D.C o k _ hlt]
      exact prog_step D.C o k _ hlt
    rw [e] at this
    exact this
  have H2 : Hid (∀ wx, Dev wx s { D3 with C := prog D.C o r (fP t.data.toList) } → Onl s.S w wx → r < n → Calls Try.prog 44 #[.int .i64 (r : Int), .pointer (some ⟨vb, 0, none⟩), .pointer (some ⟨vp, 0, none⟩), .pointer (some ⟨vd, 0, none⟩)] wx fun e w' => e = .returned (.tuple #[]) ∧ Dev w' s (workD D o n (fP t.data.toList) (gP t.data.toList D.fm)) ∧ Onl s.S wx w') := Lib.hid fun wx h1 h2 h3 => by
    have hlt : o + r < D.C.length := by omega
    have hc : o + r < ({ D3 with C := prog D.C o r (fP t.data.toList) } : Dv).C.length := by show _ < (prog _ _ _ _).length; rw [prog_length]; exact hlt
    have := prog2_any s _ o cp vb vp vd q t r wx h1 (HOC.out wx h2) (by omega) (by omega) hc
    have e : ({ D3 with C := prog D.C o r (fP t.data.toList) } : Dv).C.set (o + r) (gP t.data.toList D3.fm r ({ D3 with C := prog D.C o r (fP t.data.toList) } : Dv).C[o + r]) = FlaMath.work D.C o n r (fP t.data.toList) (gP t.data.toList D.fm) := by
      show (prog D.C o r (fP t.data.toList)).set (o + r) (gP t.data.toList D3.fm r ((prog D.C o r (fP t.data.toList))[o + r])) = _
      rw [prog_at D.C o r _ hlt, FlaMath.work, if_pos h3, h3fm, List.getD_eq_getElem?_getD, List.getElem?_eq_getElem hlt]; rfl
    rw [e] at this
    refine this.mono ?_
    rintro e w' ⟨rfl, d, o⟩
    exact ⟨rfl, by rw [← HF.out _ rfl]; exact d, o⟩
  have HID : Hid (∀ wx Dx, Dev wx s Dx → Dx.dn = true → Calls Try.prog 40 #[.pointer (some ⟨s.b, 0, none⟩)] wx fun e w' => e = .returned (.int .i64 (idl true)) ∧ wx = w') := Lib.hid fun wx Dx h1 h2 => by
    have := idle_any s Dx wx h1; rwa [h2] at this
  have HW : Hid ((workD D o n (fP t.data.toList) (gP t.data.toList D.fm)).dn = true) := Lib.hid hB
  have H3 : Hid (∀ wx, Dev wx s { D3 with C := prog D.C o n (fP t.data.toList) } → r = n → Dev wx s (workD D o n (fP t.data.toList) (gP t.data.toList D.fm))) := Lib.hid fun wx h1 hq => by
    rw [← HF.out _ rfl, FlaMath.work, if_neg (by omega), hq]; exact h1
  have H0 : Hid (Dev w s D → ∀ wx, Dev wx s D3 → Dev wx s { D3 with C := prog D.C o 0 (fP t.data.toList) }) := Lib.hid fun _ wx h1 => by rw [prog_zero, ← h3C]; exact h1
  have HR := Lib.hid hrle
  have HHV := Lib.hid hv
  have hrI : (r : Int) ≤ n := by omega
  have hrM : (r : Int) ≤ 1000 := by omega
  clear h hv ho hn hB hdn hD2 hD3 h3C h2fb h3fm h3dn hr hrle ht hq
  go_enter Try.func42, Try.ntmps42
  go_wp2_with (first
    | ((with_reducible refine R0.out.wpStore1K 7 3 (.int .i64 p) finfo_int HL.out (int_cells _ _) (int_one _ _) ?_ ?_); (simp only [storeOf, Act.eval]; exact congrArg (fun z => some (_, _, Value.int .i64 z)) hp); intro w1 r1 o1 s1; have D1 := Lib.hid (HD.out.put { D with ops := p } (by rw [← HE.out]; exact r1) o1 rfl rfl rfl); have O1 := Lib.hid (Onl.of_only o1 s.b_mem); clear r1 o1 s1)
    | (go_at_call 58; (with_reducible refine (HBU.out w1 D1.out).mono ?_); rintro e w2 ⟨rfl, d2, o2⟩; have D2' := Lib.hid d2; have R2 := Lib.hid d2.row; have O2 := Lib.hid (O1.out.trans o2); clear d2 o2)
    | ((with_reducible refine R2.out.wpStore1K 8 4 (.bool true) finfo_bool (HL8.out D2) (bool_cells _) (bool_one _) ?_ ?_); rfl; intro w3 r3 o3 s3; have D3' := Lib.hid (D2'.out.put { D2 with dn := true } (HE8.out w3 r3) o3 rfl rfl rfl); have R3 : Hid (Row w3 s.b 96 ([] ++ [Value.int .i64 D2.fb, .int .u8 (D2.fm.toNat : Int)] ++ (devL s { D2 with dn := true }).drop 2)) := Lib.hid (HE9.out w3 r3); have O3 := Lib.hid (O2.out.trans (Onl.of_only o3 s.b_mem)); clear r3 o3 s3)
    | ((with_reducible refine R3.out.wpLoadMidK 0 rfl 42 fits_torn rfl ?_ ?_); rfl)
    | (go_at_call 59; (with_reducible refine (HRE.out w3).mono ?_); rintro e w4 ⟨rfl, b4⟩; have D4 := Lib.hid (D3'.out.step b4); have O4 := Lib.hid (O3.out.step b4); clear b4)
    )
  go_loopw [34] (fun x wr => ∃ k : Nat, k ≤ r ∧ x = .int .i64 k ∧ Dev wr s { D3 with C := prog D.C o k (fP t.data.toList) } ∧ Onl s.S w wr) (fun x _ => r - (intOf x).toNat)
  case atStart => exact ⟨0, Nat.zero_le _, rfl, H0.out HD.out _ (by rw [← HD23.out]; exact D4.out), O4.out⟩
  case round =>
    obtain ⟨k, hk, rfl, hd, hoo⟩ := hrel
    by_cases hlt : k < r
    · have e1 : (k : Int) < r := by omega
      have ew : wrap64 ((k : Int) + 1) = (k : Int) + 1 := by unfold wrap64; omega
      have HC := Lib.hid (H1.out wr k hd hoo (by have := HR.out; omega))
      have HO := Lib.hid hoo
      clear hd hoo
      go_wp2_with (go_at_call 43; (with_reducible refine HC.out.mono ?_); rintro e w5 ⟨rfl, d5, o5⟩; have D5 := Lib.hid d5; have O5 := Lib.hid (HO.out.trans o5); clear d5 o5)
      go_roundw
      case rel => exact ⟨k + 1, by omega, by go_num, D5.out, O5.out⟩
      case measure => simp [intOf]; omega
    · have ek : k = r := by omega
      subst ek
      by_cases hkn : k < n
      · have e1 : (k : Int) < n := by omega
        have HC := Lib.hid (H2.out wr hd hoo hkn)
        have HO := Lib.hid hoo
        clear hd hoo
        go_wp2_with (first
          | (go_at_call 44; (with_reducible refine HC.out.mono ?_); rintro e w5 ⟨rfl, d5, o5⟩; have D5 := Lib.hid d5; have O5 := Lib.hid (HO.out.trans o5); have HI5 := Lib.hid (HID.out w5 _ d5 HW.out); clear d5 o5)
          | (go_at_call 40; (with_reducible refine HI5.out.mono ?_); rintro e w6 ⟨rfl, rfl⟩))
        go_ret
        exact ⟨rfl, D5.out, O5.out⟩
      · have ekn : k = n := by have := HR.out; omega
        have e2 : ¬ (k : Int) < n := by omega
        have D5 : Hid (Dev wr s (workD D o n (fP t.data.toList) (gP t.data.toList D.fm))) := Lib.hid (H3.out wr (by rw [← ekn]; exact hd) ekn)
        have HI5 := Lib.hid (HID.out wr _ D5.out HW.out)
        have HO := Lib.hid hoo
        clear hd hoo ekn
        go_wp2_with (go_at_call 40; (with_reducible refine HI5.out.mono ?_); rintro e w6 ⟨rfl, rfl⟩)
        go_ret
        exact ⟨rfl, D5.out, HO.out⟩

theorem workP_any (s : Sh) (D : Dv) (o n cp vb vp vd q : Nat) (t : ByteArray) (w : World) (h : Dev w s D) (hv : CapP w s o cp vb vp vd q t) (ho : o + n ≤ D.C.length) (hn : n ≤ 1000) (ht : n ≤ t.size) (hq : n ≤ q) (hdn : D.dn = false) :
    Calls Try.prog 42 #[.pointer (some ⟨s.b, 0, none⟩), .int .i64 (n : Int), .func (.func 43) #[] #[.pointer (some ⟨vb, 0, none⟩), .pointer (some ⟨vp, 0, none⟩)], .func (.func 44) #[] #[.pointer (some ⟨vb, 0, none⟩), .pointer (some ⟨vp, 0, none⟩), .pointer (some ⟨vd, 0, none⟩)]] w
      fun e w' => e = .returned (.int .i64 (idl (burnB D))) ∧ Dev w' s (workD D o n (fP t.data.toList) (gP t.data.toList D.fm)) ∧ Onl s.S w w' := by
  cases hB : burnB D with
  | false => exact workP_false s D o n cp vb vp vd q t w h hv ho hn ht hq hB hdn
  | true => exact workP_true s D o n cp vb vp vd q t w h hv ho hn ht hq hB hdn
end Go.Proofs.Ytpeofjlecgenbaa

/- Contracts of flash: Erase. -/
namespace Go.Proofs.Ytpeofjlecgenbaa
open Go.RowKit FlaMath
set_option linter.unusedVariables false
set_option maxRecDepth 100000

section
variable {P : Program}
theorem wpBox1K {ops : Array Oper} {rest : List Oper} {o : Oper} {a : Act} {w : World} {Q : Exit → Act → World → Prop} (v : Value) (ty : TypeId) (hv : v.cells = #[v]) (hb : boxOf o a = some (ty, v))
    (k : ∀ w', Row w' w.heap.size ty [v] → Below w.heap.size w w' → w'.heap.size = w.heap.size + 1 → wpList P ops Q rest (a.put o.dst (.pointer (some ⟨w.heap.size, 0, none⟩))) w') : wpList P ops Q (o :: rest) a w := by
  obtain ⟨hgd, x, ho, hx⟩ := boxOf_spec hb
  exact wpList_plain hgd fun _ hK => by
    unfold Oper.wp execOp
    simp only [ho, hx, Instr.box, newVar, hv]
    simp [go_sem]
    exact hK _ _ (k _ (Row.new w ty [v]) ((Below.refl _ _).alloc (Nat.le_refl _) _) (by simp))
theorem wpAlloc1K {ops : Array Oper} {rest : List Oper} {o : Oper} {a : Act} {w : World} {Q : Exit → Act → World → Prop} (z : Value) (ty : TypeId) (hv : z.cells = #[z]) (hz : ∀ u, (zeroValue ty).run P u = .ok z u) (ho : allocOf o = some ty)
    (k : ∀ w', Row w' w.heap.size ty [z] → Below w.heap.size w w' → w'.heap.size = w.heap.size + 1 → wpList P ops Q rest (a.put o.dst (.pointer (some ⟨w.heap.size, 0, none⟩))) w') : wpList P ops Q (o :: rest) a w := by
  obtain ⟨hgd, ho⟩ := allocOf_spec ho
  exact wpList_plain hgd fun _ hK => by
    have h := hz w
    unfold Oper.wp execOp
    simp only [ho, Instr.alloc, Sem.run_bind, h, Result.andThen_ok, newVar, hv]
    simp [go_sem]
    exact hK _ _ (k _ (Row.new w ty [z]) ((Below.refl _ _).alloc (Nat.le_refl _) _) (by simp))
end
theorem zero_bytes : ∀ u, (zeroValue 58).run Try.prog u = .ok (.slice none 0 0) u := fun u => by kernel_rfl
theorem finfo_bytes : (Try.prog.info? 58).map (·.size) = some 1 := by kernel_rfl
theorem slice_cells (p : Option Addr) (n c : Nat) : (Value.slice p n c).cells = #[.slice p n c] := rfl
theorem slice_one (p : Option Addr) (n c : Nat) : (Value.slice p n c).oneCell' = true := rfl
theorem ptr_cells (p : Option Addr) : (Value.pointer p).cells = #[.pointer p] := rfl
theorem fstr_cells (t : ByteArray) : (Value.string t).cells = #[.string t] := rfl

/-- Whether an erase is done, or torn. -/
def eraseB (D : Dv) (i : Int) : Bool := !D.dn && decide (0 ≤ i ∧ i < D.L.length) && !D.L.getD i.toNat false
def eraseE (D : Dv) (i : Int) : Int := if D.dn then 5 else if 0 ≤ i ∧ i < D.L.length then (if D.L.getD i.toNat false then 4 else idl (burnB D)) else 2
def worn (D : Dv) (i : Nat) : Dv := { D with E := D.E.set i (wrap64 (D.E.getD i 0 + 1)) }
def eraseD (D : Dv) (i : Int) : Dv := if eraseB D i then workD (worn D i.toNat) (i.toNat * 64) 64 fE (gE D.fm) else D

theorem not_mem_new {w : World} {s : Sh} {D : Dv} (h : Dev w s D) {k : Nat} (hk : w.heap.size ≤ k) : k ∉ s.S := fun hm => by have := h.lt k hm; omega
end Go.Proofs.Ytpeofjlecgenbaa

/- Contracts of flash: Program. -/
namespace Go.Proofs.Ytpeofjlecgenbaa
open Go.RowKit FlaMath
set_option linter.unusedVariables false
set_option maxRecDepth 100000

theorem program_nil (x : Int) (t : ByteArray) (w : World) : Calls Try.prog 19 #[.pointer none, .int .i64 x, .string t] w fun e w' => e = .returned (.int .i64 1) ∧ Below w.heap.size w w' := by
  have HX := Lib.hid idle_nil
  go_enter Try.func19, Try.ntmps19
  go_wp2_with (first
    | ((with_reducible refine wpBox1K (.pointer none) 43 (ptr_cells _) ?_ ?_); rfl; intro w1 r1 b1 s1; have R1 := Lib.hid r1; have B1 := Lib.hid b1; clear r1 b1 s1)
    | ((with_reducible refine wpBox1K (.string t) 9 (fstr_cells _) ?_ ?_); rfl; intro w2 r2 b2 s2; have c1 := (R1.out.step b2).cell 0; have B2 := Lib.hid (B1.out.next b2); clear r2 b2 s2)
    | (go_at_call 40; (with_reducible refine (HX.out w2).mono ?_); rintro e u1 ⟨rfl, rfl⟩))
  go_ret
  exact ⟨rfl, B2.out⟩

/-- Whether a program is done, or torn. -/
def programE (D : Dv) (x : Int) (l : List UInt8) : Int :=
  if D.dn then 5 else if x.tmod 16 ≠ 0 ∨ l.length ≠ 16 then 3 else if bey D.C.length x 16 then 2 else if D.L.getD (x.toNat / 64) false then 4 else idl (burnB D)
def programB (D : Dv) (x : Int) (l : List UInt8) : Bool := !D.dn && !(decide (x.tmod 16 ≠ 0 ∨ l.length ≠ 16)) && !(bey D.C.length x 16) && !(D.L.getD (x.toNat / 64) false)
def programD (D : Dv) (x : Int) (l : List UInt8) : Dv := if programB D x l then workD D x.toNat 16 (fP l) (gP l D.fm) else D

theorem program_down (s : Sh) (D : Dv) (x : Int) (t : ByteArray) (w : World) (h : Dev w s D) (hd : D.dn = true) :
    Calls Try.prog 19 #[.pointer (some ⟨s.b, 0, none⟩), .int .i64 x, .string t] w fun e w' => e = .returned (.int .i64 5) ∧ Below w.heap.size w w' := by
  have HX : Hid (∀ w1, Below w.heap.size w w1 → Calls Try.prog 40 #[.pointer (some ⟨s.b, 0, none⟩)] w1 fun e w' => e = .returned (.int .i64 5) ∧ w1 = w') := Lib.hid fun w1 hb => by
    have := idle_any s D w1 (h.step hb); rwa [hd] at this
  clear h hd
  go_enter Try.func19, Try.ntmps19
  go_wp2_with (first
    | ((with_reducible refine wpBox1K (.pointer (some ⟨s.b, 0, none⟩)) 43 (ptr_cells _) ?_ ?_); rfl; intro w1 r1 b1 s1; have R1 := Lib.hid r1; have B1 := Lib.hid b1; clear r1 b1 s1)
    | ((with_reducible refine wpBox1K (.string t) 9 (fstr_cells _) ?_ ?_); rfl; intro w2 r2 b2 s2; have c1 := (R1.out.step b2).cell 0; have B2 := Lib.hid (B1.out.next b2); clear r2 b2 s2)
    | (go_at_call 40; (with_reducible refine (HX.out w2 B2.out).mono ?_); rintro e u1 ⟨rfl, rfl⟩))
  go_ret
  exact ⟨rfl, B2.out⟩
theorem program_align (s : Sh) (D : Dv) (x : Int) (t : ByteArray) (w : World) (h : Dev w s D) (hd : D.dn = false) (hs : t.size ≤ 140737488355328) (hb : x.tmod 16 ≠ 0 ∨ t.size ≠ 16) :
    Calls Try.prog 19 #[.pointer (some ⟨s.b, 0, none⟩), .int .i64 x, .string t] w fun e w' => e = .returned (.int .i64 3) ∧ Below w.heap.size w w' := by
  have HX : Hid (∀ w1, Below w.heap.size w w1 → Calls Try.prog 40 #[.pointer (some ⟨s.b, 0, none⟩)] w1 fun e w' => e = .returned (.int .i64 0) ∧ w1 = w') := Lib.hid fun w1 hb => by
    have := idle_any s D w1 (h.step hb); rwa [hd] at this
  clear h hd
  by_cases hm : x.tmod 16 = 0
  · have hz : ¬ t.size = 16 := by rcases hb with h | h
                                  · exact absurd hm h
                                  · exact h
    have hz1 : ((t.size : Int) != 16) = true := bne_iff_ne.2 (by omega)
    have hz2 : ¬ (t.size : Int) = 16 := by omega
    have hm1 : (x.tmod 16 != 0) = false := by rw [hm]; rfl
    clear hb
    go_enter Try.func19, Try.ntmps19
    go_wp2_with (first
      | ((with_reducible refine wpBox1K (.pointer (some ⟨s.b, 0, none⟩)) 43 (ptr_cells _) ?_ ?_); rfl; intro w1 r1 b1 s1; have R1 := Lib.hid r1; have B1 := Lib.hid b1; clear r1 b1 s1)
      | ((with_reducible refine wpBox1K (.string t) 9 (fstr_cells _) ?_ ?_); rfl; intro w2 r2 b2 s2; have c1 := (R1.out.step b2).cell 0; have c2 := r2.cell 0; have B2 := Lib.hid (B1.out.next b2); clear r2 b2 s2)
      | (go_at_call 40; (with_reducible refine (HX.out w2 B2.out).mono ?_); rintro e u1 ⟨rfl, rfl⟩))
    go_ret
    exact ⟨rfl, B2.out⟩
  · have hm1 : (x.tmod 16 != 0) = true := bne_iff_ne.2 hm
    clear hb
    go_enter Try.func19, Try.ntmps19
    go_wp2_with (first
      | ((with_reducible refine wpBox1K (.pointer (some ⟨s.b, 0, none⟩)) 43 (ptr_cells _) ?_ ?_); rfl; intro w1 r1 b1 s1; have R1 := Lib.hid r1; have B1 := Lib.hid b1; clear r1 b1 s1)
      | ((with_reducible refine wpBox1K (.string t) 9 (fstr_cells _) ?_ ?_); rfl; intro w2 r2 b2 s2; have c1 := (R1.out.step b2).cell 0; have c2 := r2.cell 0; have B2 := Lib.hid (B1.out.next b2); clear r2 b2 s2)
      | (go_at_call 40; (with_reducible refine (HX.out w2 B2.out).mono ?_); rintro e u1 ⟨rfl, rfl⟩))
    go_ret
    exact ⟨rfl, B2.out⟩
theorem program_out (s : Sh) (D : Dv) (x : Int) (t : ByteArray) (w : World) (h : Dev w s D) (hd : D.dn = false) (hx : x < 9223372036854775808) (hs : t.size = 16) (hm : x.tmod 16 = 0) (hb : bey D.C.length x 16 = true) :
    Calls Try.prog 19 #[.pointer (some ⟨s.b, 0, none⟩), .int .i64 x, .string t] w fun e w' => e = .returned (.int .i64 2) ∧ Below w.heap.size w w' := by
  have HX : Hid (∀ w1, Below w.heap.size w w1 → Calls Try.prog 40 #[.pointer (some ⟨s.b, 0, none⟩)] w1 fun e w' => e = .returned (.int .i64 0) ∧ w1 = w') := Lib.hid fun w1 hb => by
    have := idle_any s D w1 (h.step hb); rwa [hd] at this
  have HY : Hid (∀ w1, Below w.heap.size w w1 → Calls Try.prog 41 #[.pointer (some ⟨s.b, 0, none⟩), .int .i64 x, .int .i64 16] w1 fun e w' => e = .returned (.bool true) ∧ w1 = w') := Lib.hid fun w1 hb1 => by
    have := beyond_any s D x 16 w1 (h.step hb1) hx; rwa [hb] at this
  have HYn : Hid (∀ w1, Below w.heap.size w w1 → Calls Try.prog 41 #[.pointer (some ⟨s.b, 0, none⟩), .int .i64 x, .int .i64 (t.size : Int)] w1 fun e w' => e = .returned (.bool true) ∧ w1 = w') := Lib.hid fun w1 hb1 => by
    rw [hs]; exact HY.out w1 hb1
  have hz1 : ((t.size : Int) != 16) = false := by rw [hs]; rfl
  have hm1 : (x.tmod 16 != 0) = false := by rw [hm]; rfl
  clear h hd hx hm hb
  go_enter Try.func19, Try.ntmps19
  go_wp2_with (first
    | ((with_reducible refine wpBox1K (.pointer (some ⟨s.b, 0, none⟩)) 43 (ptr_cells _) ?_ ?_); rfl; intro w1 r1 b1 s1; have R1 := Lib.hid r1; have B1 := Lib.hid b1; clear r1 b1 s1)
    | ((with_reducible refine wpBox1K (.string t) 9 (fstr_cells _) ?_ ?_); rfl; intro w2 r2 b2 s2; have R2 := Lib.hid (R1.out.step b2); have RT2 := Lib.hid r2; have c1 := (R1.out.step b2).cell 0; have c2 := r2.cell 0; have B2 := Lib.hid (B1.out.next b2); clear r2 b2 s2)
    | (go_at_call 40; (with_reducible refine (HX.out w2 B2.out).mono ?_); rintro e u1 ⟨rfl, rfl⟩)
    | (go_at_call 41; (first | (with_reducible refine (HY.out w2 B2.out).mono ?_) | (with_reducible refine (HYn.out w2 B2.out).mono ?_)); rintro e u1 ⟨rfl, rfl⟩))
  go_ret
  exact ⟨rfl, B2.out⟩
theorem program_locked (s : Sh) (D : Dv) (a : Nat) (t : ByteArray) (w : World) (h : Dev w s D) (hd : D.dn = false) (hx : (a : Int) < 9223372036854775808) (hs : t.size = 16) (hm : (a : Int).tmod 16 = 0) (hb : bey D.C.length a 16 = false) (hl : D.L.getD (a / 64) false = true) :
    Calls Try.prog 19 #[.pointer (some ⟨s.b, 0, none⟩), .int .i64 (a : Int), .string t] w fun e w' => e = .returned (.int .i64 4) ∧ Below w.heap.size w w' := by
  have HX : Hid (∀ w1, Below w.heap.size w w1 → Calls Try.prog 40 #[.pointer (some ⟨s.b, 0, none⟩)] w1 fun e w' => e = .returned (.int .i64 0) ∧ w1 = w') := Lib.hid fun w1 hb => by
    have := idle_any s D w1 (h.step hb); rwa [hd] at this
  have HY : Hid (∀ w1, Below w.heap.size w w1 → Calls Try.prog 41 #[.pointer (some ⟨s.b, 0, none⟩), .int .i64 (a : Int), .int .i64 16] w1 fun e w' => e = .returned (.bool false) ∧ w1 = w') := Lib.hid fun w1 hb1 => by
    have := beyond_any s D (a : Int) 16 w1 (h.step hb1) hx; rwa [hb] at this
  have HYn : Hid (∀ w1, Below w.heap.size w w1 → Calls Try.prog 41 #[.pointer (some ⟨s.b, 0, none⟩), .int .i64 (a : Int), .int .i64 (t.size : Int)] w1 fun e w' => e = .returned (.bool false) ∧ w1 = w') := Lib.hid fun w1 hb1 => by
    rw [hs]; exact HY.out w1 hb1
  have hz1 : ((t.size : Int) != 16) = false := by rw [hs]; rfl
  have hm1 : ((a : Int).tmod 16 != 0) = false := by rw [hm]; rfl
  have hca := h.ok.cells
  have hb2 := of_decide_eq_false hb
  have hjn : a / 64 < D.L.length := by omega
  have H5 : Hid (∀ w1, Below w.heap.size w w1 → w1.cell? ⟨s.b, 5, none⟩ = some (.slice (some ⟨s.o2, 0, none⟩) D.L.length s.k2)) := Lib.hid fun w1 hb => (h.step hb).c5
  have H6 : Hid (∀ w1, Below w.heap.size w w1 → w1.cell? ⟨s.o2, a / 64, none⟩ = some (.bool true)) := Lib.hid fun w1 hb => by
    have := (h.step hb).cl (a / 64) hjn
    rwa [show D.L[a / 64] = true by rw [List.getD_eq_getElem?_getD, List.getElem?_eq_getElem hjn] at hl; exact hl] at this
  obtain ⟨n, hn⟩ : ∃ n, D.L.length = n := ⟨_, rfl⟩
  obtain ⟨j, hj⟩ : ∃ j, a / 64 = j := ⟨_, rfl⟩
  have q1 : (a : Int).tdiv 64 = (j : Int) := by rw [← hj]; rfl
  have q2 : (a : Int) / 64 = (j : Int) := by rw [← hj]; rfl
  have q3 : (j : Int) < n := by omega
  have hm3 : ((a : Int) % 16 != 0) = false := by
    have : (a : Int) % 16 = (a : Int).tmod 16 := (Int.tmod_eq_emod_of_nonneg (by omega)).symm
    rw [this, hm]; rfl
  have hm2 : (a : Int) % 16 = 0 := beq_iff_eq.1 (by simpa using hm3)
  have q4 : a / 64 = j := hj
  have hjb : (j : Int) ≤ 512 := by have := h.ok.top; omega
  have q5 : wrap64 (j : Int) = j := by unfold wrap64; omega
  rw [hn] at H5
  rw [hj] at H6
  clear h hd hx hm hb hl hn hca hb2 hjn hj
  go_enter Try.func19, Try.ntmps19
  go_wp2_with (first
    | ((with_reducible refine wpBox1K (.pointer (some ⟨s.b, 0, none⟩)) 43 (ptr_cells _) ?_ ?_); rfl; intro w1 r1 b1 s1; have R1 := Lib.hid r1; have B1 := Lib.hid b1; clear r1 b1 s1)
    | ((with_reducible refine wpBox1K (.string t) 9 (fstr_cells _) ?_ ?_); rfl; intro w2 r2 b2 s2; have R2 := Lib.hid (R1.out.step b2); have RT2 := Lib.hid r2; have c1 := (R1.out.step b2).cell 0; have c2 := r2.cell 0; have B2 := Lib.hid (B1.out.next b2); have c5 := H5.out w2 B2.out; have c6 := H6.out w2 B2.out; clear r2 b2 s2)
    | (go_at_call 40; (with_reducible refine (HX.out w2 B2.out).mono ?_); rintro e u1 ⟨rfl, rfl⟩)
    | (go_at_call 41; (first | (with_reducible refine (HY.out w2 B2.out).mono ?_) | (with_reducible refine (HYn.out w2 B2.out).mono ?_)); rintro e u1 ⟨rfl, rfl⟩))
  go_ret
  exact ⟨rfl, B2.out⟩
set_option maxHeartbeats 1000000 in
theorem program_good (s : Sh) (D : Dv) (a : Nat) (t : ByteArray) (w : World) (h : Dev w s D) (hd : D.dn = false) (hx : (a : Int) < 9223372036854775808) (hs : t.size = 16) (hm : (a : Int).tmod 16 = 0) (hb : bey D.C.length a 16 = false) (hl : D.L.getD (a / 64) false = false) :
    Calls Try.prog 19 #[.pointer (some ⟨s.b, 0, none⟩), .int .i64 (a : Int), .string t] w fun e w' => e = .returned (.int .i64 (idl (burnB D))) ∧ Dev w' s (workD D a 16 (fP t.data.toList) (gP t.data.toList D.fm)) ∧ Onl s.S w w' := by
  have HX : Hid (∀ w1, Below w.heap.size w w1 → Calls Try.prog 40 #[.pointer (some ⟨s.b, 0, none⟩)] w1 fun e w' => e = .returned (.int .i64 0) ∧ w1 = w') := Lib.hid fun w1 hb => by
    have := idle_any s D w1 (h.step hb); rwa [hd] at this
  have HY : Hid (∀ w1, Below w.heap.size w w1 → Calls Try.prog 41 #[.pointer (some ⟨s.b, 0, none⟩), .int .i64 (a : Int), .int .i64 16] w1 fun e w' => e = .returned (.bool false) ∧ w1 = w') := Lib.hid fun w1 hb1 => by
    have := beyond_any s D (a : Int) 16 w1 (h.step hb1) hx; rwa [hb] at this
  have HYn : Hid (∀ w1, Below w.heap.size w w1 → Calls Try.prog 41 #[.pointer (some ⟨s.b, 0, none⟩), .int .i64 (a : Int), .int .i64 (t.size : Int)] w1 fun e w' => e = .returned (.bool false) ∧ w1 = w') := Lib.hid fun w1 hb1 => by
    rw [hs]; exact HY.out w1 hb1
  have hz1 : ((t.size : Int) != 16) = false := by rw [hs]; rfl
  have hm1 : ((a : Int).tmod 16 != 0) = false := by rw [hm]; rfl
  have hca := h.ok.cells
  have hb2 := of_decide_eq_false hb
  have hjn : a / 64 < D.L.length := by omega
  have H5 : Hid (∀ w1, Below w.heap.size w w1 → w1.cell? ⟨s.b, 5, none⟩ = some (.slice (some ⟨s.o2, 0, none⟩) D.L.length s.k2)) := Lib.hid fun w1 hb => (h.step hb).c5
  have H6 : Hid (∀ w1, Below w.heap.size w w1 → w1.cell? ⟨s.o2, a / 64, none⟩ = some (.bool false)) := Lib.hid fun w1 hb => by
    have := (h.step hb).cl (a / 64) hjn
    rwa [show D.L[a / 64] = false by rw [List.getD_eq_getElem?_getD, List.getElem?_eq_getElem hjn] at hl; exact hl] at this
  have H4 : Hid (∀ w1, Below w.heap.size w w1 → w1.cell? ⟨s.b, 4, none⟩ = some (.slice (some ⟨s.o1, 0, none⟩) D.C.length s.k1)) := Lib.hid fun w1 hb => (h.step hb).c4
  have hrm := h.room
  have HDS : Hid (∀ w1, Below w.heap.size w w1 → Dev w1 s D) := Lib.hid fun w1 hb => h.step hb
  have HWK : Hid (∀ w4 vb vp vd cp q, Dev w4 s D → 16 ≤ q → CapP w4 s a cp vb vp vd q t → Calls Try.prog 42 #[.pointer (some ⟨s.b, 0, none⟩), .int .i64 16, .func (.func 43) #[] #[.pointer (some ⟨vb, 0, none⟩), .pointer (some ⟨vp, 0, none⟩)], .func (.func 44) #[] #[.pointer (some ⟨vb, 0, none⟩), .pointer (some ⟨vp, 0, none⟩), .pointer (some ⟨vd, 0, none⟩)]] w4
      fun e w' => e = .returned (.int .i64 (idl (burnB D))) ∧ Dev w' s (workD D a 16 (fP t.data.toList) (gP t.data.toList D.fm)) ∧ Onl s.S w4 w') := Lib.hid fun w4 vb vp vd cp q h4 hq hv => workP_any s D a 16 cp vb vp vd q t w4 h4 hv (by omega) (by omega) (by omega) hq hd
  have HWKn : Hid (∀ w4 vb vp vd cp q, Dev w4 s D → 16 ≤ q → CapP w4 s a cp vb vp vd q t → Calls Try.prog 42 #[.pointer (some ⟨s.b, 0, none⟩), .int .i64 (t.size : Int), .func (.func 43) #[] #[.pointer (some ⟨vb, 0, none⟩), .pointer (some ⟨vp, 0, none⟩)], .func (.func 44) #[] #[.pointer (some ⟨vb, 0, none⟩), .pointer (some ⟨vp, 0, none⟩), .pointer (some ⟨vd, 0, none⟩)]] w4
      fun e w' => e = .returned (.int .i64 (idl (burnB D))) ∧ Dev w' s (workD D a 16 (fP t.data.toList) (gP t.data.toList D.fm)) ∧ Onl s.S w4 w') := Lib.hid fun w4 vb vp vd cp q h4 hq hv => by rw [hs]; exact HWK.out w4 vb vp vd cp q h4 hq hv
  have HNV : Hid (∀ k, w.heap.size ≤ k → k ∉ s.S) := Lib.hid fun k hk => not_mem_new h hk
  have HLT : Hid (∀ k ∈ s.S, k < w.heap.size) := Lib.hid h.lt
  have hmf : ∀ (fn : Fn) (first cap : Array Value) (w : World), (Instr.makeFunc fn first cap).run Try.prog w = .ok (.func fn first cap) w := fun _ _ _ _ => rfl
  obtain ⟨n, hn⟩ : ∃ n, D.L.length = n := ⟨_, rfl⟩
  obtain ⟨j, hj⟩ : ∃ j, a / 64 = j := ⟨_, rfl⟩
  have q1 : (a : Int).tdiv 64 = (j : Int) := by rw [← hj]; rfl
  have q2 : (a : Int) / 64 = (j : Int) := by rw [← hj]; rfl
  have q3 : (j : Int) < n := by omega
  have hm3 : ((a : Int) % 16 != 0) = false := by
    have : (a : Int) % 16 = (a : Int).tmod 16 := (Int.tmod_eq_emod_of_nonneg (by omega)).symm
    rw [this, hm]; rfl
  have hm2 : (a : Int) % 16 = 0 := beq_iff_eq.1 (by simpa using hm3)
  have q4 : a / 64 = j := hj
  have hjb : (j : Int) ≤ 512 := by have := h.ok.top; omega
  have q5 : wrap64 (j : Int) = j := by unfold wrap64; omega
  rw [hn] at H5
  rw [hj] at H6
  obtain ⟨m, hme⟩ : ∃ m, D.C.length = m := ⟨_, rfl⟩
  obtain ⟨k1, hk1⟩ : ∃ k, s.k1 = k := ⟨_, rfl⟩
  rw [hme, hk1] at H4
  have e1 : (a : Int) ≤ m := by omega
  have e2 : (m : Int) ≤ k1 := by omega
  have e3 : ¬ k1 - a = 0 := by omega
  have e4 : ¬ (k1 : Int) - a = 0 := by omega
  have e5 : ¬ k1 = a := by omega
  have e6 : ¬ k1 ≤ a := by omega
  have e7 : a ≤ m := by omega
  have e8 : m ≤ k1 := by omega
  have e9 : (a : Int) < k1 := by omega
  have HQ : Hid (16 ≤ m - a) := Lib.hid (by omega)
  clear h hd hx hm hb hl hn hca hb2 hjn hj hrm hme hk1
  go_enter Try.func19, Try.ntmps19
  go_wp2_with (first
    | ((with_reducible refine wpBox1K (.pointer (some ⟨s.b, 0, none⟩)) 43 (ptr_cells _) ?_ ?_); rfl; intro w1 r1 b1 s1; have R1 := Lib.hid r1; have B1 := Lib.hid b1; clear r1 b1 s1)
    | ((with_reducible refine wpBox1K (.string t) 9 (fstr_cells _) ?_ ?_); rfl; intro w2 r2 b2 s2; have R2 := Lib.hid (R1.out.step b2); have RT2 := Lib.hid r2; have c1 := (R1.out.step b2).cell 0; have c2 := r2.cell 0; have B2 := Lib.hid (B1.out.next b2); have c4 := H4.out w2 B2.out; have c5 := H5.out w2 B2.out; have c6 := H6.out w2 B2.out; have D2 := Lib.hid (HDS.out w2 B2.out); have O2 := Lib.hid (Onl.of_below (S := s.S) B2.out); have S1 := Lib.hid B1.out.size; clear r2 b2 s2)
    | (go_at_call 40; (with_reducible refine (HX.out w2 B2.out).mono ?_); rintro e u1 ⟨rfl, rfl⟩)
    | (go_at_call 41; (first | (with_reducible refine (HY.out w2 B2.out).mono ?_) | (with_reducible refine (HYn.out w2 B2.out).mono ?_)); rintro e u1 ⟨rfl, rfl⟩)
    | ((with_reducible refine wpAlloc1K (.slice none 0 0) 58 (slice_cells _ _ _) zero_bytes ?_ ?_); rfl; intro w3 r3 b3 s3; have D3 := Lib.hid (D2.out.step b3); have R3 := Lib.hid (R2.out.step b3); have RT3 := Lib.hid (RT2.out.step b3); have RB3 := Lib.hid r3; have O3 := Lib.hid (O2.out.step b3); clear r3 b3 s3)
    | ((with_reducible refine RB3.out.wpStore1K 0 58 (.slice (some ⟨s.o1, a, none⟩) (m - a) (k1 - a)) finfo_bytes (by decide) (slice_cells _ _ _) (slice_one _ _ _) ?_ ?_); rfl; intro w4 r4 o4 s4; have D4 := Lib.hid (D3.out.onl (S := [w2.heap.size]) (Onl.of_only o4 (by simp)) (fun k hk hq => by have := D2.out.lt k hk; simp at hq; omega)); have R4 := Lib.hid (R3.out.only o4 (by have := R2.out.lt; omega)); have RT4 := Lib.hid (RT3.out.only o4 (by have := RT2.out.lt; omega)); have RB4 : Hid (Row w4 w2.heap.size 58 [.slice (some ⟨s.o1, a, none⟩) (m - a) (k1 - a)]) := Lib.hid r4; have O4 := Lib.hid (O3.out.only o4 (Or.inr O2.out.size)); have c14 := R4.out.cell 0; have c24 := RB4.out.cell 0; have c34 := RT4.out.cell 0; have CP : Hid (CapP w4 s a (k1 - a) w2.heap.size w1.heap.size w.heap.size (m - a) t) := Lib.hid ⟨c24, c34, c14, RB4.out.lt, RT4.out.lt, R4.out.lt, HNV.out _ O2.out.size, HNV.out _ S1.out, HNV.out _ (Nat.le_refl _)⟩; clear r4 o4 s4)
    | (go_at_call 42; (first | (with_reducible refine (HWK.out w4 _ _ _ _ _ D4.out HQ.out CP.out).mono ?_) | (with_reducible refine (HWKn.out w4 _ _ _ _ _ D4.out HQ.out CP.out).mono ?_)); rintro e w5 ⟨rfl, d5, o5⟩; have D5 := Lib.hid d5; have O5 := Lib.hid (O4.out.trans o5); clear d5 o5))
  go_ret
  exact ⟨rfl, D5.out, O5.out⟩
theorem program_any (s : Sh) (D : Dv) (x : Int) (t : ByteArray) (w : World) (h : Dev w s D) (hx : x < 9223372036854775808) (hs : t.size ≤ 140737488355328) :
    Calls Try.prog 19 #[.pointer (some ⟨s.b, 0, none⟩), .int .i64 x, .string t] w fun e w' => e = .returned (.int .i64 (programE D x t.data.toList)) ∧ Dev w' s (programD D x t.data.toList) ∧ Onl s.S w w' := by
  have hst : t.data.toList.length = t.size := size_list t
  have bad : ∀ e w', programB D x t.data.toList = false → Below w.heap.size w w' → programE D x t.data.toList = e → Ending.returned (.int .i64 e) = .returned (.int .i64 (programE D x t.data.toList)) ∧ Dev w' s (programD D x t.data.toList) ∧ Onl s.S w w' := fun e w' h1 hb h2 =>
    ⟨by rw [h2], by rw [programD, h1]; exact h.step hb, Onl.of_below hb⟩
  cases hd : D.dn with
  | true =>
    refine (program_down s D x t w h hd).mono ?_
    rintro e w' ⟨rfl, hb⟩
    exact bad _ _ (by rw [programB, hd]; rfl) hb (by rw [programE, hd]; rfl)
  | false =>
    by_cases hal : x.tmod 16 ≠ 0 ∨ t.size ≠ 16
    · refine (program_align s D x t w h hd hs hal).mono ?_
      rintro e w' ⟨rfl, hb⟩
      exact bad _ _ (by rw [programB, hd, hst, decide_eq_true hal]; rfl) hb (by rw [programE, hd, hst, if_pos hal]; rfl)
    · have h16 : t.size = 16 := by omega
      have hm : x.tmod 16 = 0 := by omega
      cases hb : bey D.C.length x 16 with
      | true =>
        refine (program_out s D x t w h hd hx h16 hm hb).mono ?_
        rintro e w' ⟨rfl, hbl⟩
        exact bad _ _ (by rw [programB, hb]; simp) hbl (by rw [programE, hd, hst, if_neg hal, hb]; rfl)
      | false =>
        have hb2 := of_decide_eq_false hb
        obtain ⟨a, rfl⟩ : ∃ a : Nat, x = a := ⟨x.toNat, by omega⟩
        cases hl : D.L.getD (a / 64) false with
        | true =>
          refine (program_locked s D a t w h hd hx h16 hm hb hl).mono ?_
          rintro e w' ⟨rfl, hbl⟩
          exact bad _ _ (by rw [programB, Int.toNat_natCast, hl]; simp) hbl (by rw [programE, hd, hst, if_neg hal, hb, Int.toNat_natCast, hl]; rfl)
        | false =>
          refine (program_good s D a t w h hd hx h16 hm hb hl).mono ?_
          rintro e w' ⟨rfl, h1, h2⟩
          have hE : programB D (a : Int) t.data.toList = true := by rw [programB, hd, hst, decide_eq_false hal, hb, Int.toNat_natCast, hl]; rfl
          exact ⟨by rw [programE, hd, hst, if_neg hal, hb, Int.toNat_natCast, hl]; rfl, by rw [programD, if_pos hE, Int.toNat_natCast]; exact h1, h2⟩
end Go.Proofs.Ytpeofjlecgenbaa

/- A region that draws its order and writes again a slot that it reads. -/
namespace Go.Proofs.Ytpeofjlecgenbaa
open Go.RowKit

section
variable {P : Program} {ops : Array Oper} {Q : Exit → Act → World → Prop}

theorem getD_tf' {l : Array Bool} {i : Nat} (h : i < l.size) : l.getD i true = l.getD i false := by simp [Array.getD, h]
/-- As region_invX; what an operation that waits for this one is to write still holds what it held. -/
theorem region_invY {id : Nat} {a : Act} {w : World} (D : List (Nat × Nat)) (φ : Nat → Value → World → Prop) (G : World → Prop) (hm : P.follows .mixedOrders = true)
    (hord : ordX ops = true) (hD1 : D.map (·.1) = List.range ops.size) (hD2 : (D.map (·.2)).Nodup) (hD3 : (D.all fun p => (ops[p.1]?.bind (·.dst)) == some p.2) = true) (hD4 : (D.all fun p => Nat.blt p.2 a.tmps.size) = true)
    (hmono : ∀ i v w w', φ i v w → Below w.heap.size w w' → φ i v w') (hG : G w.drew)
    (step : ∀ p ∈ D, ∀ u w, G w → Came ops φ u w p.1 → (∀ p' ∈ D, reachB ops ops.size p'.1 p.1 = true → u p'.1 = a.tmps.getD p'.2 undef) →
      wpOp P ops Q p.1 (fun a' w' => a'.defers = (puts D a u).defers ∧ φ p.1 (a'.tmps.getD p.2 undef) w' ∧ G w' ∧ Below w.heap.size w w') (puts D a u) w)
    (fin : ∀ u w, G w → (∀ p ∈ D, φ p.1 (u p.1) w) → Q .normal (puts D a u) w) : (Code.region id ops true).wp P Q a w := by
  refine wp_region_any hm ?_
  have hnd1 : (D.map (·.1)).Nodup := by rw [hD1]; exact List.nodup_range
  have key : ∀ (fuel : Nat) (listed : Array Bool) (w : World) (u : Nat → Value) (L : List Nat), listed.size = ops.size → L.length ≤ fuel → (∀ i, listed.getD i true = false → i ∈ L) → Anc ops listed → (∀ p ∈ D, listed.getD p.1 false = false → u p.1 = a.tmps.getD p.2 undef) → G w →
      (∀ i, i < ops.size → listed.getD i true = true → φ i (u i) w) → wpAny P .any ops Q fuel listed (puts D a u) w := by
    intro fuel
    induction fuel with
    | zero =>
      intro listed w u L hs hL hin hanc hold hg hφ
      have hall : ∀ i, listed.getD i true = true := fun i => by
        cases hi : listed.getD i true with
        | true => rfl
        | false => have := hin i hi; rw [List.length_eq_zero_iff.1 (Nat.le_zero.1 hL)] at this; cases this
      refine ⟨?_, fin u w hg fun p hp => hφ p.1 ?_ (hall _)⟩
      · rw [List.eq_nil_iff_forall_not_mem]
        intro i hi
        have := (mem_ready.1 hi).2.1
        rw [hall i] at this
        cases this
      · have : p.1 ∈ D.map (·.1) := List.mem_map.2 ⟨p, hp, rfl⟩
        rw [hD1] at this
        exact List.mem_range.1 this
    | succ fuel ih =>
      intro listed w u L hs hL hin hanc hold hg hφ
      refine ⟨fun hr => fin u w hg fun p hp => hφ p.1 ?_ (all_listedX hord hs hr _), fun i hi => ?_⟩
      · have : p.1 ∈ D.map (·.1) := List.mem_map.2 ⟨p, hp, rfl⟩
        rw [hD1] at this
        exact List.mem_range.1 this
      · obtain ⟨h1, h2, o, ho, h3⟩ := mem_ready.1 hi
        have hiD : i ∈ D.map (·.1) := by rw [hD1]; exact List.mem_range.2 h1
        obtain ⟨⟨i', d⟩, hp, rfl⟩ := List.mem_map.1 hiD
        have hst := step _ hp u w hg (fun o' ho' e he hb => by
          have heq : o' = o := Option.some.inj (ho'.symm.trans ho)
          subst heq
          have hl := h3 e he hb
          have hlt : e.on < ops.size := by
            rw [← hs]
            by_cases hl2 : e.on < listed.size
            · exact hl2
            · simp [Array.getD, hl2] at hl
          refine hφ e.on hlt ?_
          have hl2 : e.on < listed.size := by omega
          simpa [Array.getD, hl2] using hl) (fun p' hp' hr => by
            refine hold p' hp' ?_
            cases hl : listed.getD p'.1 false with
            | false => rfl
            | true =>
              have := reach_listed hanc ops.size p'.1 i' (fun o' ho' e he hb => hanc p'.1 o' ho' hl e he hb) hr
              have hii : i' < listed.size := by omega
              rw [← getD_tf' hii, h2] at this
              cases this)
        have hd3 := List.all_eq_true.1 hD3 _ hp
        have hd4 := List.all_eq_true.1 hD4 _ hp
        simp only [ho, Option.bind_some, beq_iff_eq] at hd3
        have hd5 : d < a.tmps.size := by simp [Nat.blt] at hd4; omega
        have hst2 := wpOp_value (R := fun v w' => φ i' v w' ∧ G w' ∧ Below w.heap.size w w') ho hd3 (by rw [puts_size]; exact hd5) hst
        clear hst
        refine wpOp_mono ?_ hst2
        rintro a' w' ⟨v, rfl, hv, hg', hb'⟩
        rw [puts_put u i' d v D a hnd1 hD2 hp]
        refine ih _ w' (upd u i' v) (L.erase i') (by simpa using hs) ?_ ?_ ?_ ?_ hg' ?_
        · rw [List.length_erase_of_mem (hin i' h2)]
          omega
        · intro j hj
          have hji : j ≠ i' := fun e => by
            subst e
            have : j < listed.size := by omega
            simp [Array.getD, this] at hj
          refine (List.mem_erase_of_ne hji).2 (hin j ?_)
          simp only [Array.getD] at hj ⊢
          split at hj
          · rename_i hl
            rw [Array.size_setIfInBounds] at hl
            rw [dif_pos hl]
            rwa [Array.getInternal_eq_getElem, Array.getElem_setIfInBounds_ne (h := Ne.symm hji)] at hj
          · cases hj
        · intro j o' ho' hl e he hb
          by_cases ej : i' = j
          · subst ej
            obtain rfl := Option.some.inj (ho'.symm.trans ho)
            have := h3 e he hb
            by_cases e2 : i' = e.on
            · rw [← e2, getD_set_self (by omega)]
            · rw [getD_set_other e2]; exact this
          · rw [getD_set_other ej] at hl
            have := hanc j o' ho' hl e he hb
            by_cases e2 : i' = e.on
            · rw [← e2, getD_set_self (by omega)]
            · rw [getD_set_other e2]; exact this
        · intro p' hp' hl
          have hne : i' ≠ p'.1 := fun e => by
            rw [← e, getD_set_self (by omega)] at hl
            cases hl
          rw [getD_set_other hne] at hl
          have e1 : upd u i' v p'.1 = u p'.1 := by simp [upd, Ne.symm hne]
          rw [e1]
          exact hold p' hp' hl
        · intro j hj hl
          by_cases hji : j = i'
          · subst hji
            simpa [upd] using hv
          · have e1 : upd u i' v j = u j := by simp [upd, hji]
            rw [e1]
            refine hmono j _ w w' (hφ j hj ?_) hb'
            have hl2 : j < listed.size := by omega
            simp only [Array.getD, Array.size_setIfInBounds, hl2, dif_pos, Array.getInternal_eq_getElem] at hl ⊢
            rwa [Array.getElem_setIfInBounds_ne (h := Ne.symm hji)] at hl
  have hu : ∃ u : Nat → Value, (∀ p ∈ D, u p.1 = a.tmps.getD p.2 undef) ∧ puts D a u = a := by
    suffices hsf : ∃ u : Nat → Value, ∀ p ∈ D, u p.1 = a.tmps.getD p.2 undef by
      obtain ⟨u, hu⟩ := hsf
      exact ⟨u, hu, puts_self u a D hu⟩
    refine ⟨fun i => ((D.find? fun p => p.1 == i).map fun p => a.tmps.getD p.2 undef).getD undef, fun p hp => ?_⟩
    have : D.find? (fun q => q.1 == p.1) = some p := by
      clear fin step hD2 hD1 hD3 hD4 key
      induction D with
      | nil => cases hp
      | cons q D ih =>
        rw [List.map_cons, List.nodup_cons] at hnd1
        rcases List.mem_cons.1 hp with rfl | hp
        · simp
        · have hne : (q.1 == p.1) = false := by
            rw [beq_eq_false_iff_ne]
            intro e
            exact hnd1.1 (List.mem_map.2 ⟨p, hp, e.symm⟩)
          rw [List.find?_cons, hne]
          exact ih hnd1.2 hp
    simp only [this, Option.map_some, Option.getD_some]
  obtain ⟨u, hu0, hu⟩ := hu
  have := key ops.size (Array.replicate ops.size false) w.drew u (List.range ops.size) (by simp) (by simp) (fun i hi => by
    rw [List.mem_range]
    by_cases hl : i < ops.size
    · exact hl
    · simp [Array.getD, hl] at hi) (fun i o _ hl => by
    have hfF : ∀ i, (Array.replicate ops.size false).getD i false = false := fun i => by
      by_cases h : i < ops.size <;> simp [Array.getD, h]
    rw [hfF] at hl; cases hl) (fun p hp _ => hu0 p hp) hG (fun i hi hl => by simp [Array.getD, hi] at hl)
  rw [hu] at this
  exact this

end

end Go.Proofs.Ytpeofjlecgenbaa

/- As region_invY, with another relation of worlds. -/
namespace Go.Proofs.Ytpeofjlecgenbaa
open Go.RowKit
section
variable {P : Program} {ops : Array Oper} {Q : Exit → Act → World → Prop}
theorem region_invR (R : World → World → Prop) {id : Nat} {a : Act} {w : World} (D : List (Nat × Nat)) (φ : Nat → Value → World → Prop) (G : World → Prop) (hm : P.follows .mixedOrders = true)
    (hord : ordX ops = true) (hD1 : D.map (·.1) = List.range ops.size) (hD2 : (D.map (·.2)).Nodup) (hD3 : (D.all fun p => (ops[p.1]?.bind (·.dst)) == some p.2) = true) (hD4 : (D.all fun p => Nat.blt p.2 a.tmps.size) = true)
    (hmono : ∀ i v w w', φ i v w → R w w' → φ i v w') (hG : G w.drew)
    (step : ∀ p ∈ D, ∀ u w, G w → Came ops φ u w p.1 → (∀ p' ∈ D, reachB ops ops.size p'.1 p.1 = true → u p'.1 = a.tmps.getD p'.2 undef) →
      wpOp P ops Q p.1 (fun a' w' => a'.defers = (puts D a u).defers ∧ φ p.1 (a'.tmps.getD p.2 undef) w' ∧ G w' ∧ R w w') (puts D a u) w)
    (fin : ∀ u w, G w → (∀ p ∈ D, φ p.1 (u p.1) w) → Q .normal (puts D a u) w) : (Code.region id ops true).wp P Q a w := by
  refine wp_region_any hm ?_
  have hnd1 : (D.map (·.1)).Nodup := by rw [hD1]; exact List.nodup_range
  have key : ∀ (fuel : Nat) (listed : Array Bool) (w : World) (u : Nat → Value) (L : List Nat), listed.size = ops.size → L.length ≤ fuel → (∀ i, listed.getD i true = false → i ∈ L) → Anc ops listed → (∀ p ∈ D, listed.getD p.1 false = false → u p.1 = a.tmps.getD p.2 undef) → G w →
      (∀ i, i < ops.size → listed.getD i true = true → φ i (u i) w) → wpAny P .any ops Q fuel listed (puts D a u) w := by
    intro fuel
    induction fuel with
    | zero =>
      intro listed w u L hs hL hin hanc hold hg hφ
      have hall : ∀ i, listed.getD i true = true := fun i => by
        cases hi : listed.getD i true with
        | true => rfl
        | false => have := hin i hi; rw [List.length_eq_zero_iff.1 (Nat.le_zero.1 hL)] at this; cases this
      refine ⟨?_, fin u w hg fun p hp => hφ p.1 ?_ (hall _)⟩
      · rw [List.eq_nil_iff_forall_not_mem]
        intro i hi
        have := (mem_ready.1 hi).2.1
        rw [hall i] at this
        cases this
      · have : p.1 ∈ D.map (·.1) := List.mem_map.2 ⟨p, hp, rfl⟩
        rw [hD1] at this
        exact List.mem_range.1 this
    | succ fuel ih =>
      intro listed w u L hs hL hin hanc hold hg hφ
      refine ⟨fun hr => fin u w hg fun p hp => hφ p.1 ?_ (all_listedX hord hs hr _), fun i hi => ?_⟩
      · have : p.1 ∈ D.map (·.1) := List.mem_map.2 ⟨p, hp, rfl⟩
        rw [hD1] at this
        exact List.mem_range.1 this
      · obtain ⟨h1, h2, o, ho, h3⟩ := mem_ready.1 hi
        have hiD : i ∈ D.map (·.1) := by rw [hD1]; exact List.mem_range.2 h1
        obtain ⟨⟨i', d⟩, hp, rfl⟩ := List.mem_map.1 hiD
        have hst := step _ hp u w hg (fun o' ho' e he hb => by
          have heq : o' = o := Option.some.inj (ho'.symm.trans ho)
          subst heq
          have hl := h3 e he hb
          have hlt : e.on < ops.size := by
            rw [← hs]
            by_cases hl2 : e.on < listed.size
            · exact hl2
            · simp [Array.getD, hl2] at hl
          refine hφ e.on hlt ?_
          have hl2 : e.on < listed.size := by omega
          simpa [Array.getD, hl2] using hl) (fun p' hp' hr => by
            refine hold p' hp' ?_
            cases hl : listed.getD p'.1 false with
            | false => rfl
            | true =>
              have := reach_listed hanc ops.size p'.1 i' (fun o' ho' e he hb => hanc p'.1 o' ho' hl e he hb) hr
              have hii : i' < listed.size := by omega
              rw [← getD_tf' hii, h2] at this
              cases this)
        have hd3 := List.all_eq_true.1 hD3 _ hp
        have hd4 := List.all_eq_true.1 hD4 _ hp
        simp only [ho, Option.bind_some, beq_iff_eq] at hd3
        have hd5 : d < a.tmps.size := by simp [Nat.blt] at hd4; omega
        have hst2 := wpOp_value (R := fun v w' => φ i' v w' ∧ G w' ∧ R w w') ho hd3 (by rw [puts_size]; exact hd5) hst
        clear hst
        refine wpOp_mono ?_ hst2
        rintro a' w' ⟨v, rfl, hv, hg', hb'⟩
        rw [puts_put u i' d v D a hnd1 hD2 hp]
        refine ih _ w' (upd u i' v) (L.erase i') (by simpa using hs) ?_ ?_ ?_ ?_ hg' ?_
        · rw [List.length_erase_of_mem (hin i' h2)]
          omega
        · intro j hj
          have hji : j ≠ i' := fun e => by
            subst e
            have : j < listed.size := by omega
            simp [Array.getD, this] at hj
          refine (List.mem_erase_of_ne hji).2 (hin j ?_)
          simp only [Array.getD] at hj ⊢
          split at hj
          · rename_i hl
            rw [Array.size_setIfInBounds] at hl
            rw [dif_pos hl]
            rwa [Array.getInternal_eq_getElem, Array.getElem_setIfInBounds_ne (h := Ne.symm hji)] at hj
          · cases hj
        · intro j o' ho' hl e he hb
          by_cases ej : i' = j
          · subst ej
            obtain rfl := Option.some.inj (ho'.symm.trans ho)
            have := h3 e he hb
            by_cases e2 : i' = e.on
            · rw [← e2, getD_set_self (by omega)]
            · rw [getD_set_other e2]; exact this
          · rw [getD_set_other ej] at hl
            have := hanc j o' ho' hl e he hb
            by_cases e2 : i' = e.on
            · rw [← e2, getD_set_self (by omega)]
            · rw [getD_set_other e2]; exact this
        · intro p' hp' hl
          have hne : i' ≠ p'.1 := fun e => by
            rw [← e, getD_set_self (by omega)] at hl
            cases hl
          rw [getD_set_other hne] at hl
          have e1 : upd u i' v p'.1 = u p'.1 := by simp [upd, Ne.symm hne]
          rw [e1]
          exact hold p' hp' hl
        · intro j hj hl
          by_cases hji : j = i'
          · subst hji
            simpa [upd] using hv
          · have e1 : upd u i' v j = u j := by simp [upd, hji]
            rw [e1]
            refine hmono j _ w w' (hφ j hj ?_) hb'
            have hl2 : j < listed.size := by omega
            simp only [Array.getD, Array.size_setIfInBounds, hl2, dif_pos, Array.getInternal_eq_getElem] at hl ⊢
            rwa [Array.getElem_setIfInBounds_ne (h := Ne.symm hji)] at hl
  have hu : ∃ u : Nat → Value, (∀ p ∈ D, u p.1 = a.tmps.getD p.2 undef) ∧ puts D a u = a := by
    suffices hsf : ∃ u : Nat → Value, ∀ p ∈ D, u p.1 = a.tmps.getD p.2 undef by
      obtain ⟨u, hu⟩ := hsf
      exact ⟨u, hu, puts_self u a D hu⟩
    refine ⟨fun i => ((D.find? fun p => p.1 == i).map fun p => a.tmps.getD p.2 undef).getD undef, fun p hp => ?_⟩
    have : D.find? (fun q => q.1 == p.1) = some p := by
      clear fin step hD2 hD1 hD3 hD4 key
      induction D with
      | nil => cases hp
      | cons q D ih =>
        rw [List.map_cons, List.nodup_cons] at hnd1
        rcases List.mem_cons.1 hp with rfl | hp
        · simp
        · have hne : (q.1 == p.1) = false := by
            rw [beq_eq_false_iff_ne]
            intro e
            exact hnd1.1 (List.mem_map.2 ⟨p, hp, e.symm⟩)
          rw [List.find?_cons, hne]
          exact ih hnd1.2 hp
    simp only [this, Option.map_some, Option.getD_some]
  obtain ⟨u, hu0, hu⟩ := hu
  have := key ops.size (Array.replicate ops.size false) w.drew u (List.range ops.size) (by simp) (by simp) (fun i hi => by
    rw [List.mem_range]
    by_cases hl : i < ops.size
    · exact hl
    · simp [Array.getD, hl] at hi) (fun i o _ hl => by
    have hfF : ∀ i, (Array.replicate ops.size false).getD i false = false := fun i => by
      by_cases h : i < ops.size <;> simp [Array.getD, h]
    rw [hfF] at hl; cases hl) (fun p hp _ => hu0 p hp) hG (fun i hi hl => by simp [Array.getD, hi] at hl)
  rw [hu] at this
  exact this

end

end Go.Proofs.Ytpeofjlecgenbaa

/- Contract of bytes.Repeat, of one byte. (gen_fla_rep.py) -/
namespace Go.Proofs.Ytpeofjlecgenbaa
open Go.RowKit FlaMath
set_option linter.unusedVariables false
set_option maxRecDepth 100000

def rep (n : Nat) (x : Nat) : List Value := List.replicate n (.int .u8 (x : Int))
theorem rep_length (n x : Nat) : (rep n x).length = n := by simp [rep]
theorem rep_add (n m x : Nat) : rep (n + m) x = rep n x ++ rep m x := by simp [rep, List.replicate_append_replicate]
theorem rep_get (n x j : Nat) (h : j < n) : (rep n x)[j]? = some (.int .u8 (x : Int)) := by simp [rep, h]
theorem fone_byte : One Try.prog 5 := One.of (by kernel_rfl)
/-- A block of tot cells whose first k are x. -/
def St (g x tot k : Nat) (w : World) : Prop := ∃ z, Row w g 5 (rep k x ++ z) ∧ k + z.length = tot
theorem St.less {g x tot k m : Nat} {w : World} (h : St g x tot (k + m) w) : St g x tot k w := by
  obtain ⟨z, h1, h2⟩ := h
  exact ⟨rep m x ++ z, by rw [← List.append_assoc, ← rep_add]; exact h1, by rw [List.length_append, rep_length]; omega⟩
theorem St.step {g x tot k : Nat} {w w' : World} (h : St g x tot k w) (hb : Below w.heap.size w w') : St g x tot k w' := by
  obtain ⟨z, h1, h2⟩ := h
  exact ⟨z, h1.step hb, h2⟩
theorem copy_run (g x tot b c d m cap1 cap2 : Nat) (w : World) (h : St g x tot b w) (hm : m = Nat.min c d) (hcb : m ≤ b) (hbt : b + m ≤ tot) (ty : TypeId) :
    ∃ w', (Builtin.copy_ #[58, 58] ty #[.slice (some ⟨g, b, none⟩) d cap1, .slice (some ⟨g, 0, none⟩) c cap2]).run Try.prog w = .ok (.int .i64 (m : Int)) w' ∧ St g x tot (b + m) w' ∧ Only g w w' := by
  obtain ⟨z, h1, h2⟩ := h
  have hr := run_copy_row (P := Try.prog) w 58 58 ty 5 g b d cap1 ⟨g, 0, none⟩ c cap2 (rep b x ++ z).toArray 5 (rep m x) Try.underlying58 finfo_byte h1 (by rw [rep_length]; exact hm)
    (fun j v hj => by
      have hj2 : j < m := by
        rcases Nat.lt_or_ge j m with h | h
        · exact h
        · rw [List.getElem?_eq_none (by rw [rep_length]; exact h)] at hj; cases hj
      rw [rep_get m x j hj2] at hj
      rw [Addr.add_lit, Nat.zero_add, h1.cell, List.getElem?_append_left (by rw [rep_length]; omega), rep_get b x j (by omega)]
      exact hj) (by simp only [List.size_toArray, List.length_append, rep_length]; omega) (fun v hv => by simp [rep] at hv; rw [hv.2]; rfl)
  refine ⟨_, by rw [hr, rep_length]; rfl, ⟨z.drop m, ?_, by rw [List.length_drop]; omega⟩, (Only.refl g w).putRow g _ (Or.inl rfl)⟩
  have e : ((rep b x ++ z).toArray.toList.take b ++ rep m x ++ (rep b x ++ z).toArray.toList.drop (b + m)) = rep (b + m) x ++ z.drop m := by
    rw [rep_add]
    show (rep b x ++ z).take b ++ rep m x ++ (rep b x ++ z).drop (b + m) = _
    rw [List.take_left' (rep_length b x), ← List.drop_drop, List.drop_left' (rep_length b x)]
  rw [e]
  exact h1.put _
theorem made (n : Nat) (w : World) (hn : n ≤ 281474976710656) :
    ∃ cs w1, (callFunc 56 #[.int .i64 (n : Int)]).run Try.prog w = .ok (.value (.slice (some ⟨w.heap.size, 0, none⟩) n cs)) w1 ∧ (∃ l : List Value, Row w1 w.heap.size 5 l ∧ l.length = cs) ∧ Below w.heap.size w w1 ∧ n ≤ cs := by
  obtain ⟨cs, hrun, hle, _⟩ := Lib.run_makeNoZero (P := Try.prog) w #[3] 58 5 Try.underlying58 n hn
  have hb0 : Below w.heap.size w w.drew.drew := ((Below.refl w.heap.size w).drew).drew
  refine ⟨cs.size, w.drew.drew.alloc (.cells cs 5), ?_, ⟨cs.toList, ?_, by simp⟩, hb0.alloc (Nat.le_refl _) _, hle⟩
  · rw [run_callFunc_extern Try.func56 (by kernel_rfl) (by kernel_rfl) (by kernel_rfl) (e := Extern.BytealgMakeNoZero.makeNoZero #[3] #[58]) (by kernel_rfl), hrun]
    rfl
  · have := Row.new w.drew.drew 5 cs.toList
    simpa using this

set_option maxHeartbeats 1000000 in
theorem brepeat_small (q x n : Nat) (w : World) (h1 : 1 ≤ n) (hn : n ≤ 32768) (hcc : n ≤ 8192) (hs : Lies w w.heap.size (some ⟨q, 0, none⟩) [.int .u8 (x : Int)]) :
    Calls Try.prog 38 #[.slice (some ⟨q, 0, none⟩) 1 1, .int .i64 (n : Int)] w fun e w' => ∃ g tot, e = .returned (.slice (some ⟨g, 0, none⟩) n n) ∧ w.heap.size ≤ g ∧ St g x tot n w' ∧ Below w.heap.size w w' := by
  have hMul := Try.bits_Mul 1 n (by omega) (by omega) w
  rw [show 1 * n / 18446744073709551616 = 0 by omega, show 1 * n % 18446744073709551616 = n by omega] at hMul
  have HMU : Hid (Calls Try.prog 32 #[.int .u64 1, .int .u64 (n : Int)] w fun e w' => e = .returned (.tuple #[.int .u64 0, .int .u64 (n : Int)]) ∧ w = w') := Lib.hid (Calls.mono hMul fun e w' h => ⟨h.1, h.2.symm⟩)
  obtain ⟨cs, w1, hcall, ⟨l, hl1, hl2⟩, hb1, hle⟩ := made n w (by omega)
  obtain ⟨B, hB⟩ : ∃ B, w.heap.size = B := ⟨_, rfl⟩
  rw [hB] at hcall hl1
  have HB := Lib.hid hB
  clear hB
  obtain ⟨y, zl, rfl⟩ : ∃ y zl, l = y :: zl := by
    cases l with
    | nil => simp at hl2; omega
    | cons y zl => exact ⟨y, zl, rfl⟩
  have R1 : Hid (Row w1 B 5 ([] ++ [y] ++ zl)) := Lib.hid hl1
  have HS1 : Hid (Lies w1 w1.heap.size (some ⟨q, 0, none⟩) [.int .u8 (x : Int)]) := Lib.hid (hs.step hb1)
  have B1 := Lib.hid hb1
  have HL2 : Hid (1 + zl.length = cs) := Lib.hid (by rw [← hl2, List.length_cons]; omega)
  have k1 : (1 : Int) ≤ n := by omega
  have k2 : (n : Int) ≤ 32768 := by omega
  have k3 : (n : Int) ≤ cs := by omega
  have k4 : ((n : Int) == 0) = false := beq_eq_false_iff_ne.2 (by omega)
  have k5 : IntKind.u64.wrap (n : Int) = n := by rw [IntKind.wrap_u64]; omega
  have k6 : IntKind.u64.wrap 1 = 1 := by decide
  have k7 : wrap64 (n : Int) = n := by unfold wrap64; omega
  have k8 : ¬ (9223372036854775807 : Int) < n := by omega
  have k9 : ¬ (8192 : Int) < n := by omega
  have HA1 : Hid (([] : List Value).length = 0) := Lib.hid rfl
  have HA2 : Hid (([.int .u8 (x : Int)] : List Value).length = 1) := Lib.hid rfl
  have HA3 : Hid (0 < 1) := Lib.hid (by decide)
  have HA4 : Hid ([y].length = 1) := Lib.hid rfl
  have HA5 : Hid ([Value.int .u8 (x : Int)].all (·.oneCell') = true) := Lib.hid rfl
  have HN := Lib.hid hn
  have HH1 := Lib.hid h1
  have HCC := Lib.hid hcc
  clear hMul hs hl1 hl2 hb1 hn h1 hcc
  go_enter Try.func38, Try.ntmps38
  go_wp2_with (first
    | (go_at_call 32; (with_reducible refine HMU.out.mono ?_); rintro e u1 ⟨rfl, rfl⟩)
    | ((with_reducible refine R1.out.wpCopyLK HA1.out 58 n 1 Try.underlying58 fone_byte HS1.out HA2.out HA3.out HH1.out HA4.out HA5.out ?_ ?_); rfl; intro w2 r2 o2 s2; have R2 := Lib.hid r2; have O2 := Lib.hid o2; have S2 := Lib.hid s2; clear r2 o2 s2))
  have HST0 : Hid (St B x cs 1 w2) := Lib.hid ⟨zl, R2.out, HL2.out⟩
  have HO0 : Hid (Onl [] w w2) := Lib.hid ((Onl.of_below B1.out).only O2.out (Or.inr (Nat.le_of_eq HB.out)))
  clear R1 hcall
  go_loopw [10] (fun v wr => ∃ b : Nat, 1 ≤ b ∧ b ≤ n ∧ v = .int .i64 b ∧ St B x cs b wr ∧ Onl [] w wr) (fun v _ => n - (intOf v).toNat)
  case atStart => exact ⟨1, Nat.le_refl _, HH1.out, rfl, HST0.out, HO0.out⟩
  case round =>
    obtain ⟨b, hb1, hb2, rfl, hst, ho⟩ := hrel
    by_cases hlt : b < n
    · obtain ⟨c, hc⟩ : ∃ c, (if n < b then n else b) = c := ⟨_, rfl⟩
      have hc1 : 1 ≤ c ∧ c ≤ b := by
        have := HH1.out
        split at hc <;> omega
      have hmin : ∀ (ts : Array TypeId) (t : TypeId) (W : World), (Builtin.min_ ts t #[.int .i64 (b : Int), .int .i64 ((n : Int))]).run Try.prog W = .ok (.int .i64 (c : Int)) W := fun ts t W => by
        by_cases hq : n < b
        · have hcq : c = n := by rw [if_pos hq] at hc; exact hc.symm
          simp [Builtin.min_, Builtin.min2, hq, hcq]
        · have hcq : c = b := by rw [if_neg hq] at hc; exact hc.symm
          simp [Builtin.min_, Builtin.min2, hq, hcq]
      obtain ⟨m, hm⟩ : ∃ m, m = Nat.min c (n - b) := ⟨_, rfl⟩
      have hm1 : 1 ≤ m ∧ m ≤ c ∧ m ≤ n - b := by
        refine ⟨?_, by rw [hm]; exact Nat.min_le_left _ _, by rw [hm]; exact Nat.min_le_right _ _⟩
        rw [hm]
        exact Nat.le_min.2 ⟨hc1.1, by omega⟩
      have HMM := Lib.hid hm
      have HMB : Hid (m ≤ b) := Lib.hid (by omega)
      have HMB1 : Hid (1 ≤ m) := Lib.hid hm1.1
      have HMN : Hid (b + m ≤ n) := Lib.hid (by omega)
      have HMT : Hid (b + m ≤ cs) := Lib.hid (by omega)
      have HG : Hid (w.heap.size ≤ B) := Lib.hid (Nat.le_of_eq HB.out)
      have HST := Lib.hid hst
      have HO := Lib.hid ho
      have e1 : (b : Int) < n := by omega
      have e2 : (b : Int) ≤ n := by omega
      have e3 : ¬ n - b = 0 := by omega
      have e4 : ¬ (n : Int) - b = 0 := by omega
      have e5 : ¬ n = b := by omega
      have e6 : ¬ n ≤ b := by omega
      have e7 : (c : Int) ≤ n := by omega
      have e8 : 0 ≤ (c : Int) := by omega
      have e9 : b ≤ n := by omega
      have e10 : c ≤ n := by omega
      have ew : wrap64 ((b : Int) + m) = (b : Int) + m := by have := HN.out; unfold wrap64; omega
      have ew2 : IntKind.i64.wrap ((b : Int) + m) = (b : Int) + m := by rw [IntKind.wrap_i64]; unfold wrap64 at ew; exact ew
      clear hst ho hm hm1 hc hc1 hb1 hb2 k5 k6 k7 k8
      go_wp2
      refine region_invR (fun w1 w2 => St B x cs (b + m) w1 → St B x cs (b + m) w2) [(0, 67), (1, 68), (2, 69), (3, 70), (4, 71), (5, 72), (6, 73), (7, 74), (8, 75), (9, 10)]
        (fun i => [Is (.int .i64 (b : Int)), Is (.slice (some ⟨B, 0, none⟩) n n), Is (.int .i64 (b : Int)), Is (.slice (some ⟨B, b, none⟩) (n - b) (n - b)), Is (.slice (some ⟨B, 0, none⟩) n n), Is (.int .i64 (c : Int)), Is (.slice (some ⟨B, 0, none⟩) c n),
          (fun v wx => v = .int .i64 (m : Int) ∧ St B x cs (b + m) wx), Is (.int .i64 ((b : Int) + m)), Is (.int .i64 ((b : Int) + m))].getD i (Is undef))
        (fun wx => St B x cs b wx ∧ Onl [] w wx) (by kernel_rfl) (by kernel_rfl) (by decide) (by decide) (by kernel_rfl) rfl ?mono ⟨HST.out.step ((Below.refl _ _).drew), HO.out.step ((Below.refl _ _).drew)⟩ ?step ?fin
      case mono =>
        intro i
        match i with
        | 7 => exact fun v w1 w2 ⟨h1, h2⟩ hr => ⟨h1, hr h2⟩
        | 0 | 1 | 2 | 3 | 4 | 5 | 6 | 8 | 9 => exact fun v w1 w2 h _ => h
        | _ + 10 => exact fun v w1 w2 h _ => h
      case step =>
        refine List.forall_mem_cons.2 ⟨?s0, List.forall_mem_cons.2 ⟨?s1, List.forall_mem_cons.2 ⟨?s2, List.forall_mem_cons.2 ⟨?s3, List.forall_mem_cons.2 ⟨?s4, List.forall_mem_cons.2 ⟨?s5, List.forall_mem_cons.2 ⟨?s6, List.forall_mem_cons.2 ⟨?s7, List.forall_mem_cons.2 ⟨?s8, List.forall_mem_cons.2 ⟨?s9, (fun p hp => absurd hp (by simp))⟩⟩⟩⟩⟩⟩⟩⟩⟩⟩
        case s0 =>
          intro u wx hg hC hOld
          have hO9 : u 9 = .int .i64 (b : Int) := hOld (9, 10) (by decide) (by kernel_rfl)
          clear hC hOld
          refine wpOp_step rfl (fun K hK => ?_)
          simp only [puts, List.foldl]
          go_simp
          exact hK _ _ ⟨rfl, rfl, hg, id⟩
        case s1 =>
          intro u wx hg hC hOld
          clear hC hOld
          refine wpOp_step rfl (fun K hK => ?_)
          simp only [puts, List.foldl]
          go_simp
          exact hK _ _ ⟨rfl, rfl, hg, id⟩
        case s2 =>
          intro u wx hg hC hOld
          have hO9 : u 9 = .int .i64 (b : Int) := hOld (9, 10) (by decide) (by kernel_rfl)
          clear hC hOld
          refine wpOp_step rfl (fun K hK => ?_)
          simp only [puts, List.foldl]
          go_simp
          exact hK _ _ ⟨rfl, rfl, hg, id⟩
        case s3 =>
          intro u wx hg hC hOld
          have h1 : u 1 = .slice (some ⟨B, 0, none⟩) n n := hC.at 1 (by kernel_rfl)
          have h2 : u 2 = .int .i64 (b : Int) := hC.at 2 (by kernel_rfl)
          clear hC hOld
          refine wpOp_step rfl (fun K hK => ?_)
          simp only [puts, List.foldl]
          go_simp
          exact hK _ _ ⟨rfl, rfl, hg, id⟩
        case s4 =>
          intro u wx hg hC hOld
          clear hC hOld
          refine wpOp_step rfl (fun K hK => ?_)
          simp only [puts, List.foldl]
          go_simp
          exact hK _ _ ⟨rfl, rfl, hg, id⟩
        case s5 =>
          intro u wx hg hC hOld
          clear hC hOld
          refine wpOp_step rfl (fun K hK => ?_)
          simp only [puts, List.foldl]
          go_simp
          exact hK _ _ ⟨rfl, rfl, hg, id⟩
        case s6 =>
          intro u wx hg hC hOld
          have h4 : u 4 = .slice (some ⟨B, 0, none⟩) n n := hC.at 4 (by kernel_rfl)
          have h5 : u 5 = .int .i64 (c : Int) := hC.at 5 (by kernel_rfl)
          clear hC hOld
          refine wpOp_step rfl (fun K hK => ?_)
          simp only [puts, List.foldl]
          go_simp
          exact hK _ _ ⟨rfl, rfl, hg, id⟩
        case s7 =>
          intro u wx hg hC hOld
          have h3 : u 3 = .slice (some ⟨B, b, none⟩) (n - b) (n - b) := hC.at 3 (by kernel_rfl)
          have h6 : u 6 = .slice (some ⟨B, 0, none⟩) c n := hC.at 6 (by kernel_rfl)
          obtain ⟨wy, hrun, hst, hon⟩ := copy_run B x cs b c (n - b) m (n - b) n wx hg.1 HMM.out HMB.out HMT.out 3
          clear hC hOld
          refine wpOp_step rfl (fun K hK => ?_)
          simp only [puts, List.foldl]
          go_simp
          exact hK _ _ ⟨rfl, ⟨rfl, hst⟩, ⟨hst.less, hg.2.only hon (Or.inr HG.out)⟩, fun _ => hst⟩
        case s8 =>
          intro u wx hg hC hOld
          have h0 : u 0 = .int .i64 (b : Int) := hC.at 0 (by kernel_rfl)
          obtain ⟨h7, hst⟩ : u 7 = .int .i64 (m : Int) ∧ St B x cs (b + m) wx := hC.at 7 (by kernel_rfl)
          clear hC hOld
          refine wpOp_step rfl (fun K hK => ?_)
          simp only [puts, List.foldl]
          go_simp
          exact hK _ _ ⟨rfl, rfl, hg, id⟩
        case s9 =>
          intro u wx hg hC hOld
          have h8 : u 8 = .int .i64 ((b : Int) + m) := hC.at 8 (by kernel_rfl)
          clear hC hOld
          refine wpOp_step rfl (fun K hK => ?_)
          simp only [puts, List.foldl]
          go_simp
          exact hK _ _ ⟨rfl, rfl, hg, id⟩
      case fin =>
        intro u wx hg hφ
        have h9 : u 9 = .int .i64 ((b : Int) + m) := hφ (9, 10) (by decide)
        obtain ⟨h7, hst⟩ : u 7 = .int .i64 (m : Int) ∧ St B x cs (b + m) wx := hφ (7, 74) (by decide)
        have HST2 := Lib.hid hst
        have HO2 := Lib.hid hg.2
        clear hφ hst hg
        simp only [puts, List.foldl]
        go_simp
        go_wp2
        go_roundw
        case rel => exact ⟨b + m, by have := HMB1.out; omega, by have := HMN.out; omega, by simp, HST2.out, HO2.out⟩
        case measure => have := HMN.out; have := HMB1.out; simp [intOf]; omega
    · have eb : b = n := by omega
      subst eb
      have HST := Lib.hid hst
      have HO := Lib.hid ho
      clear hst ho
      go_wp2
      go_ret
      exact ⟨B, cs, rfl, Nat.le_of_eq HB.out, HST.out, HO.out.below (by simp) (Nat.le_refl _)⟩

set_option maxHeartbeats 1000000 in
theorem brepeat_great (q x n : Nat) (w : World) (h1 : 1 ≤ n) (hn : n ≤ 32768) (hcc : 8192 < n) (hs : Lies w w.heap.size (some ⟨q, 0, none⟩) [.int .u8 (x : Int)]) :
    Calls Try.prog 38 #[.slice (some ⟨q, 0, none⟩) 1 1, .int .i64 (n : Int)] w fun e w' => ∃ g tot, e = .returned (.slice (some ⟨g, 0, none⟩) n n) ∧ w.heap.size ≤ g ∧ St g x tot n w' ∧ Below w.heap.size w w' := by
  have hMul := Try.bits_Mul 1 n (by omega) (by omega) w
  rw [show 1 * n / 18446744073709551616 = 0 by omega, show 1 * n % 18446744073709551616 = n by omega] at hMul
  have HMU : Hid (Calls Try.prog 32 #[.int .u64 1, .int .u64 (n : Int)] w fun e w' => e = .returned (.tuple #[.int .u64 0, .int .u64 (n : Int)]) ∧ w = w') := Lib.hid (Calls.mono hMul fun e w' h => ⟨h.1, h.2.symm⟩)
  obtain ⟨cs, w1, hcall, ⟨l, hl1, hl2⟩, hb1, hle⟩ := made n w (by omega)
  obtain ⟨B, hB⟩ : ∃ B, w.heap.size = B := ⟨_, rfl⟩
  rw [hB] at hcall hl1
  have HB := Lib.hid hB
  clear hB
  obtain ⟨y, zl, rfl⟩ : ∃ y zl, l = y :: zl := by
    cases l with
    | nil => simp at hl2; omega
    | cons y zl => exact ⟨y, zl, rfl⟩
  have R1 : Hid (Row w1 B 5 ([] ++ [y] ++ zl)) := Lib.hid hl1
  have HS1 : Hid (Lies w1 w1.heap.size (some ⟨q, 0, none⟩) [.int .u8 (x : Int)]) := Lib.hid (hs.step hb1)
  have B1 := Lib.hid hb1
  have HL2 : Hid (1 + zl.length = cs) := Lib.hid (by rw [← hl2, List.length_cons]; omega)
  have k1 : (1 : Int) ≤ n := by omega
  have k2 : (n : Int) ≤ 32768 := by omega
  have k3 : (n : Int) ≤ cs := by omega
  have k4 : ((n : Int) == 0) = false := beq_eq_false_iff_ne.2 (by omega)
  have k5 : IntKind.u64.wrap (n : Int) = n := by rw [IntKind.wrap_u64]; omega
  have k6 : IntKind.u64.wrap 1 = 1 := by decide
  have k7 : wrap64 (n : Int) = n := by unfold wrap64; omega
  have k8 : ¬ (9223372036854775807 : Int) < n := by omega
  have k9 : (8192 : Int) < n := by omega
  have HA1 : Hid (([] : List Value).length = 0) := Lib.hid rfl
  have HA2 : Hid (([.int .u8 (x : Int)] : List Value).length = 1) := Lib.hid rfl
  have HA3 : Hid (0 < 1) := Lib.hid (by decide)
  have HA4 : Hid ([y].length = 1) := Lib.hid rfl
  have HA5 : Hid ([Value.int .u8 (x : Int)].all (·.oneCell') = true) := Lib.hid rfl
  have HN := Lib.hid hn
  have HH1 := Lib.hid h1
  have HCC := Lib.hid hcc
  clear hMul hs hl1 hl2 hb1 hn h1 hcc
  go_enter Try.func38, Try.ntmps38
  go_wp2_with (first
    | (go_at_call 32; (with_reducible refine HMU.out.mono ?_); rintro e u1 ⟨rfl, rfl⟩)
    | ((with_reducible refine R1.out.wpCopyLK HA1.out 58 n 1 Try.underlying58 fone_byte HS1.out HA2.out HA3.out HH1.out HA4.out HA5.out ?_ ?_); rfl; intro w2 r2 o2 s2; have R2 := Lib.hid r2; have O2 := Lib.hid o2; have S2 := Lib.hid s2; clear r2 o2 s2))
  have HST0 : Hid (St B x cs 1 w2) := Lib.hid ⟨zl, R2.out, HL2.out⟩
  have HO0 : Hid (Onl [] w w2) := Lib.hid ((Onl.of_below B1.out).only O2.out (Or.inr (Nat.le_of_eq HB.out)))
  clear R1 hcall
  go_loopw [10] (fun v wr => ∃ b : Nat, 1 ≤ b ∧ b ≤ n ∧ v = .int .i64 b ∧ St B x cs b wr ∧ Onl [] w wr) (fun v _ => n - (intOf v).toNat)
  case atStart => exact ⟨1, Nat.le_refl _, HH1.out, rfl, HST0.out, HO0.out⟩
  case round =>
    obtain ⟨b, hb1, hb2, rfl, hst, ho⟩ := hrel
    by_cases hlt : b < n
    · obtain ⟨c, hc⟩ : ∃ c, (if 8192 < b then 8192 else b) = c := ⟨_, rfl⟩
      have hc1 : 1 ≤ c ∧ c ≤ b := by
        have := HH1.out
        split at hc <;> omega
      have hmin : ∀ (ts : Array TypeId) (t : TypeId) (W : World), (Builtin.min_ ts t #[.int .i64 (b : Int), .int .i64 ((8192 : Int))]).run Try.prog W = .ok (.int .i64 (c : Int)) W := fun ts t W => by
        by_cases hq : 8192 < b
        · have hcq : c = 8192 := by rw [if_pos hq] at hc; exact hc.symm
          have hq2 : (8192 : Int) < (b : Int) := by omega
          simp [Builtin.min_, Builtin.min2, hq2, hcq]
        · have hcq : c = b := by rw [if_neg hq] at hc; exact hc.symm
          have hq2 : ¬ (8192 : Int) < (b : Int) := by omega
          simp [Builtin.min_, Builtin.min2, hq2, hcq]
      obtain ⟨m, hm⟩ : ∃ m, m = Nat.min c (n - b) := ⟨_, rfl⟩
      have hm1 : 1 ≤ m ∧ m ≤ c ∧ m ≤ n - b := by
        refine ⟨?_, by rw [hm]; exact Nat.min_le_left _ _, by rw [hm]; exact Nat.min_le_right _ _⟩
        rw [hm]
        exact Nat.le_min.2 ⟨hc1.1, by omega⟩
      have HMM := Lib.hid hm
      have HMB : Hid (m ≤ b) := Lib.hid (by omega)
      have HMB1 : Hid (1 ≤ m) := Lib.hid hm1.1
      have HMN : Hid (b + m ≤ n) := Lib.hid (by omega)
      have HMT : Hid (b + m ≤ cs) := Lib.hid (by omega)
      have HG : Hid (w.heap.size ≤ B) := Lib.hid (Nat.le_of_eq HB.out)
      have HST := Lib.hid hst
      have HO := Lib.hid ho
      have e1 : (b : Int) < n := by omega
      have e2 : (b : Int) ≤ n := by omega
      have e3 : ¬ n - b = 0 := by omega
      have e4 : ¬ (n : Int) - b = 0 := by omega
      have e5 : ¬ n = b := by omega
      have e6 : ¬ n ≤ b := by omega
      have e7 : (c : Int) ≤ n := by omega
      have e8 : 0 ≤ (c : Int) := by omega
      have e9 : b ≤ n := by omega
      have e10 : c ≤ n := by omega
      have ew : wrap64 ((b : Int) + m) = (b : Int) + m := by have := HN.out; unfold wrap64; omega
      have ew2 : IntKind.i64.wrap ((b : Int) + m) = (b : Int) + m := by rw [IntKind.wrap_i64]; unfold wrap64 at ew; exact ew
      clear hst ho hm hm1 hc hc1 hb1 hb2 k5 k6 k7 k8
      go_wp2
      refine region_invR (fun w1 w2 => St B x cs (b + m) w1 → St B x cs (b + m) w2) [(0, 67), (1, 68), (2, 69), (3, 70), (4, 71), (5, 72), (6, 73), (7, 74), (8, 75), (9, 10)]
        (fun i => [Is (.int .i64 (b : Int)), Is (.slice (some ⟨B, 0, none⟩) n n), Is (.int .i64 (b : Int)), Is (.slice (some ⟨B, b, none⟩) (n - b) (n - b)), Is (.slice (some ⟨B, 0, none⟩) n n), Is (.int .i64 (c : Int)), Is (.slice (some ⟨B, 0, none⟩) c n),
          (fun v wx => v = .int .i64 (m : Int) ∧ St B x cs (b + m) wx), Is (.int .i64 ((b : Int) + m)), Is (.int .i64 ((b : Int) + m))].getD i (Is undef))
        (fun wx => St B x cs b wx ∧ Onl [] w wx) (by kernel_rfl) (by kernel_rfl) (by decide) (by decide) (by kernel_rfl) rfl ?mono ⟨HST.out.step ((Below.refl _ _).drew), HO.out.step ((Below.refl _ _).drew)⟩ ?step ?fin
      case mono =>
        intro i
        match i with
        | 7 => exact fun v w1 w2 ⟨h1, h2⟩ hr => ⟨h1, hr h2⟩
        | 0 | 1 | 2 | 3 | 4 | 5 | 6 | 8 | 9 => exact fun v w1 w2 h _ => h
        | _ + 10 => exact fun v w1 w2 h _ => h
      case step =>
        refine List.forall_mem_cons.2 ⟨?s0, List.forall_mem_cons.2 ⟨?s1, List.forall_mem_cons.2 ⟨?s2, List.forall_mem_cons.2 ⟨?s3, List.forall_mem_cons.2 ⟨?s4, List.forall_mem_cons.2 ⟨?s5, List.forall_mem_cons.2 ⟨?s6, List.forall_mem_cons.2 ⟨?s7, List.forall_mem_cons.2 ⟨?s8, List.forall_mem_cons.2 ⟨?s9, (fun p hp => absurd hp (by simp))⟩⟩⟩⟩⟩⟩⟩⟩⟩⟩
        case s0 =>
          intro u wx hg hC hOld
          have hO9 : u 9 = .int .i64 (b : Int) := hOld (9, 10) (by decide) (by kernel_rfl)
          clear hC hOld
          refine wpOp_step rfl (fun K hK => ?_)
          simp only [puts, List.foldl]
          go_simp
          exact hK _ _ ⟨rfl, rfl, hg, id⟩
        case s1 =>
          intro u wx hg hC hOld
          clear hC hOld
          refine wpOp_step rfl (fun K hK => ?_)
          simp only [puts, List.foldl]
          go_simp
          exact hK _ _ ⟨rfl, rfl, hg, id⟩
        case s2 =>
          intro u wx hg hC hOld
          have hO9 : u 9 = .int .i64 (b : Int) := hOld (9, 10) (by decide) (by kernel_rfl)
          clear hC hOld
          refine wpOp_step rfl (fun K hK => ?_)
          simp only [puts, List.foldl]
          go_simp
          exact hK _ _ ⟨rfl, rfl, hg, id⟩
        case s3 =>
          intro u wx hg hC hOld
          have h1 : u 1 = .slice (some ⟨B, 0, none⟩) n n := hC.at 1 (by kernel_rfl)
          have h2 : u 2 = .int .i64 (b : Int) := hC.at 2 (by kernel_rfl)
          clear hC hOld
          refine wpOp_step rfl (fun K hK => ?_)
          simp only [puts, List.foldl]
          go_simp
          exact hK _ _ ⟨rfl, rfl, hg, id⟩
        case s4 =>
          intro u wx hg hC hOld
          clear hC hOld
          refine wpOp_step rfl (fun K hK => ?_)
          simp only [puts, List.foldl]
          go_simp
          exact hK _ _ ⟨rfl, rfl, hg, id⟩
        case s5 =>
          intro u wx hg hC hOld
          clear hC hOld
          refine wpOp_step rfl (fun K hK => ?_)
          simp only [puts, List.foldl]
          go_simp
          exact hK _ _ ⟨rfl, rfl, hg, id⟩
        case s6 =>
          intro u wx hg hC hOld
          have h4 : u 4 = .slice (some ⟨B, 0, none⟩) n n := hC.at 4 (by kernel_rfl)
          have h5 : u 5 = .int .i64 (c : Int) := hC.at 5 (by kernel_rfl)
          clear hC hOld
          refine wpOp_step rfl (fun K hK => ?_)
          simp only [puts, List.foldl]
          go_simp
          exact hK _ _ ⟨rfl, rfl, hg, id⟩
        case s7 =>
          intro u wx hg hC hOld
          have h3 : u 3 = .slice (some ⟨B, b, none⟩) (n - b) (n - b) := hC.at 3 (by kernel_rfl)
          have h6 : u 6 = .slice (some ⟨B, 0, none⟩) c n := hC.at 6 (by kernel_rfl)
          obtain ⟨wy, hrun, hst, hon⟩ := copy_run B x cs b c (n - b) m (n - b) n wx hg.1 HMM.out HMB.out HMT.out 3
          clear hC hOld
          refine wpOp_step rfl (fun K hK => ?_)
          simp only [puts, List.foldl]
          go_simp
          exact hK _ _ ⟨rfl, ⟨rfl, hst⟩, ⟨hst.less, hg.2.only hon (Or.inr HG.out)⟩, fun _ => hst⟩
        case s8 =>
          intro u wx hg hC hOld
          have h0 : u 0 = .int .i64 (b : Int) := hC.at 0 (by kernel_rfl)
          obtain ⟨h7, hst⟩ : u 7 = .int .i64 (m : Int) ∧ St B x cs (b + m) wx := hC.at 7 (by kernel_rfl)
          clear hC hOld
          refine wpOp_step rfl (fun K hK => ?_)
          simp only [puts, List.foldl]
          go_simp
          exact hK _ _ ⟨rfl, rfl, hg, id⟩
        case s9 =>
          intro u wx hg hC hOld
          have h8 : u 8 = .int .i64 ((b : Int) + m) := hC.at 8 (by kernel_rfl)
          clear hC hOld
          refine wpOp_step rfl (fun K hK => ?_)
          simp only [puts, List.foldl]
          go_simp
          exact hK _ _ ⟨rfl, rfl, hg, id⟩
      case fin =>
        intro u wx hg hφ
        have h9 : u 9 = .int .i64 ((b : Int) + m) := hφ (9, 10) (by decide)
        obtain ⟨h7, hst⟩ : u 7 = .int .i64 (m : Int) ∧ St B x cs (b + m) wx := hφ (7, 74) (by decide)
        have HST2 := Lib.hid hst
        have HO2 := Lib.hid hg.2
        clear hφ hst hg
        simp only [puts, List.foldl]
        go_simp
        go_wp2
        go_roundw
        case rel => exact ⟨b + m, by have := HMB1.out; omega, by have := HMN.out; omega, by simp, HST2.out, HO2.out⟩
        case measure => have := HMN.out; have := HMB1.out; simp [intOf]; omega
    · have eb : b = n := by omega
      subst eb
      have HST := Lib.hid hst
      have HO := Lib.hid ho
      clear hst ho
      go_wp2
      go_ret
      exact ⟨B, cs, rfl, Nat.le_of_eq HB.out, HST.out, HO.out.below (by simp) (Nat.le_refl _)⟩

theorem brepeat_any (q x n : Nat) (w : World) (h1 : 1 ≤ n) (hn : n ≤ 32768) (hs : Lies w w.heap.size (some ⟨q, 0, none⟩) [.int .u8 (x : Int)]) :
    Calls Try.prog 38 #[.slice (some ⟨q, 0, none⟩) 1 1, .int .i64 (n : Int)] w fun e w' => ∃ g tot, e = .returned (.slice (some ⟨g, 0, none⟩) n n) ∧ w.heap.size ≤ g ∧ St g x tot n w' ∧ Below w.heap.size w w' := by
  rcases Nat.lt_or_ge 8192 n with h | h
  · exact brepeat_great q x n w h1 hn h hs
  · exact brepeat_small q x n w h1 hn h hs
end Go.Proofs.Ytpeofjlecgenbaa

/- make in a region that draws its order. -/
namespace Go.Proofs.Ytpeofjlecgenbaa
open Go.RowKit
set_option linter.unusedVariables false
theorem opMake {P : Program} {o : Oper} {a : Act} {w : World} {K : Act → World → Prop} {Q : Exit → Act → World → Prop} (T e : TypeId) (zv : Value) (n c : Nat) (hT : P.underlying T = some (.slice e)) (hz : (P.info? e).map (fun i => (i.zero, i.size, i.bytes)) = some (some zv, 1, 8) ∨ (P.info? e).map (fun i => (i.zero, i.size, i.bytes)) = some (some zv, 1, 1)) (hzc : zv.cells = #[zv])
    (hn : n ≤ c) (hc : c ≤ 1099511627776) (ho : makeOf o a = some (T, .int .i64 (n : Int), .int .i64 (c : Int)))
    (k : ∀ w', Row w' w.heap.size e (List.replicate c zv) → Below w.heap.size w w' → w'.heap.size = w.heap.size + 1 → K (a.put o.dst (.slice (some ⟨w.heap.size, 0, none⟩) n c)) w') : o.wp P a w K Q := by
  obtain ⟨hg, x, y, hop, hx, hy⟩ := makeOf_spec ho
  cases hq : P.info? e with
  | none => rw [hq] at hz; rcases hz with h | h <;> cases h
  | some i =>
    rw [hq] at hz
    have hi : i.zero = some zv ∧ i.size = 1 ∧ i.bytes ≤ 8 := by
      rcases hz with h | h <;> simp only [Option.map_some, Option.some.injEq, Prod.mk.injEq] at h <;> exact ⟨h.1, h.2.1, by omega⟩
    have hb : (i.bytes : Int) * (c : Int) ≤ 281474976710656 := by
      have h1 : i.bytes * c ≤ 8 * 1099511627776 := Nat.mul_le_mul hi.2.2 hc
      have h2 : ((i.bytes * c : Nat) : Int) ≤ 281474976710656 := by omega
      rwa [Int.natCast_mul] at h2
    have hr := run_make (P := P) w T e i zv hT hq hi.1 .i64 .i64 (n : Int) (c : Int) (by omega) (by omega) hb (by omega)
    rw [Int.toNat_natCast, Int.toNat_natCast, hi.2.1, Nat.mul_one, hzc] at hr
    have hm : madeCells #[zv] c = (List.replicate c zv).toArray := by
      apply Array.ext'
      rw [toList_madeCells_one]
    rw [hm] at hr
    unfold Oper.wp execOp
    simp only [hop, hx, hy, Sem.run_bind, hr, Result.andThen_ok]
    exact k _ (Row.new w e _) ((Below.refl _ _).alloc (Nat.le_refl _) _) (by simp)
theorem opMakeK {P : Program} {o : Oper} {A : Act} {wx : World} {K : Act → World → Prop} {Q : Exit → Act → World → Prop} {φ : Value → World → Prop} {G : World → Prop} (d : Nat) (hd : o.dst = some d) (hs : d < A.tmps.size)
    (hK : ∀ a' w', (a'.defers = A.defers ∧ φ (a'.tmps.getD d undef) w' ∧ G w' ∧ Below wx.heap.size wx w') → K a' w')
    (T e : TypeId) (zv : Value) (n c : Nat) (hT : P.underlying T = some (.slice e)) (hz : (P.info? e).map (fun i => (i.zero, i.size, i.bytes)) = some (some zv, 1, 8) ∨ (P.info? e).map (fun i => (i.zero, i.size, i.bytes)) = some (some zv, 1, 1)) (hzc : zv.cells = #[zv])
    (hn : n ≤ c) (hc : c ≤ 1099511627776) (ho : makeOf o A = some (T, .int .i64 (n : Int), .int .i64 (c : Int)))
    (k : ∀ w', Row w' wx.heap.size e (List.replicate c zv) → Below wx.heap.size wx w' → φ (.slice (some ⟨wx.heap.size, 0, none⟩) n c) w' ∧ G w') : o.wp P A wx K Q :=
  opMake T e zv n c hT hz hzc hn hc ho fun w' h1 h2 _ => hK _ _ ⟨by rw [hd]; rfl, by rw [hd, put_get A d _ hs]; exact (k w' h1 h2).1, (k w' h1 h2).2, h2⟩
theorem makeOf_tmp {o : Oper} {a : Act} (T : TypeId) (k : Nat) {v : Value} (hg : o.guard = none) (hop : o.op = .makeSlice T (.tmp k) (.tmp k)) (h : a.tmps.getD k undef = v) : makeOf o a = some (T, v, v) := by
  unfold makeOf
  rw [hg, hop]
  show some (T, a.eval (.tmp k), a.eval (.tmp k)) = _
  rw [show a.eval (.tmp k) = a.tmps.getD k undef from rfl, h]
end Go.Proofs.Ytpeofjlecgenbaa

/- Contract of flash.New. (gen_fla_new.py) -/
namespace Go.Proofs.Ytpeofjlecgenbaa
open Go.RowKit FlaMath
set_option linter.unusedVariables false
set_option maxRecDepth 100000

/-- A new device. -/
def D0 (n : Nat) : Dv := ⟨0, 0, false, 0, List.replicate (n * 64) 255, List.replicate n false, List.replicate n 0, 0, false⟩
def Stv (B n : Nat) : Value → World → Prop := fun v w => ∃ g tot, v = .slice (some ⟨g, 0, none⟩) n n ∧ B ≤ g ∧ St g 255 tot n w
theorem Stv.monot (B n : Nat) : Monot (Stv B n) := fun _ _ _ ⟨g, t, h1, h2, h3⟩ hb => ⟨g, t, h1, h2, h3.step hb⟩
def Mk (B n : Nat) (t : TypeId) (z : Value) : Value → World → Prop := fun v w => ∃ g, v = .slice (some ⟨g, 0, none⟩) n n ∧ B ≤ g ∧ Row w g t (List.replicate n z)
theorem Mk.monot (B n : Nat) (t : TypeId) (z : Value) : Monot (Mk B n t z) := fun _ _ _ ⟨g, h1, h2, h3⟩ hb => ⟨g, h1, h2, h3.step hb⟩
theorem row_ne {w : World} {a b : Nat} {t t' : TypeId} {l l' : List Value} (h : Row w a t l) (h' : Row w b t' l') (hne : t ≠ t') : a ≠ b := by
  intro e
  subst e
  have : some (Obj.cells l.toArray t (0, 0)) = some (Obj.cells l'.toArray t' (0, 0)) := h.symm.trans h'
  injection this with this
  injection this with h1 h2 h3
  exact hne h2
theorem fmk_bool : (Try.prog.info? 4).map (fun i => (i.zero, i.size, i.bytes)) = some (some (.bool false), 1, 8) ∨ (Try.prog.info? 4).map (fun i => (i.zero, i.size, i.bytes)) = some (some (.bool false), 1, 1) := Or.inr (by kernel_rfl)
theorem fmk_int : (Try.prog.info? 3).map (fun i => (i.zero, i.size, i.bytes)) = some (some (.int .i64 0), 1, 8) ∨ (Try.prog.info? 3).map (fun i => (i.zero, i.size, i.bytes)) = some (some (.int .i64 0), 1, 1) := Or.inl (by kernel_rfl)
theorem D0_ok (n : Nat) (h1 : 1 ≤ n) (h2 : n ≤ 512) : (D0 n).Ok := ⟨by simp [D0]; omega, by simp [D0]; omega, by simp [D0]; omega, by simp [D0]⟩
theorem rep_bytes (n : Nat) : rep n 255 = bytes (List.replicate n 255) := by simp [rep, bytes]

theorem flnew_bad (n : Int) (w : World) (h : n < 1 ∨ 512 < n) : Calls Try.prog 17 #[.int .i64 n] w fun e w' => e = .returned (.tuple #[.pointer none, .int .i64 1]) ∧ w = w' := by
  by_cases h1 : n < 1
  · clear h
    go_enter Try.func17, Try.ntmps17
    go_wp2
    go_ret2
    exact ⟨rfl, rfl⟩
  · have h2 : 512 < n := by omega
    clear h
    go_enter Try.func17, Try.ntmps17
    go_wp2
    go_ret2
    exact ⟨rfl, rfl⟩

set_option maxHeartbeats 1000000 in
theorem flnew_any (n : Nat) (w : World) (h1 : 1 ≤ n) (h2 : n ≤ 512) :
    Calls Try.prog 17 #[.int .i64 (n : Int)] w fun e w' => ∃ s : Sh, e = .returned (.tuple #[.pointer (some ⟨s.b, 0, none⟩), .int .i64 0]) ∧ Dev w' s (D0 n) ∧ (∀ k ∈ s.S, w.heap.size ≤ k) ∧ Below w.heap.size w w' := by
  obtain ⟨N, hN⟩ : ∃ N, n * 64 = N := ⟨_, rfl⟩
  have HN := Lib.hid hN
  have H1 := Lib.hid h1
  have H2 := Lib.hid h2
  have HR : Hid (∀ wx q, Lies wx wx.heap.size (some ⟨q, 0, none⟩) [.int .u8 255] → Calls Try.prog 38 #[.slice (some ⟨q, 0, none⟩) 1 1, .int .i64 (N : Int)] wx fun e w' => ∃ g tot, e = .returned (.slice (some ⟨g, 0, none⟩) N N) ∧ wx.heap.size ≤ g ∧ St g 255 tot N w' ∧ Below wx.heap.size wx w') := Lib.hid fun wx q h => brepeat_any q 255 N wx (by omega) (by omega) h
  have k1 : (n : Int) ≤ 512 := by omega
  have k2 : 1 ≤ (n : Int) := by omega
  have ew2 : IntKind.i64.wrap ((n : Int) * 64) = (N : Int) := by rw [IntKind.wrap_i64]; omega
  have ew : wrap64 ((n : Int) * 64) = (N : Int) := by rw [← hN]; unfold wrap64; omega
  clear hN h1 h2
  go_enter Try.func17, Try.ntmps17
  go_wp2
  refine region_tail 8 [(0, 10), (1, 11), (2, 12), (3, 13), (4, 14), (5, 15), (6, 16), (7, 17)]
    (fun ii => [New [.int .u8 255], Is (.int .i64 (n : Int)), Is (.int .i64 (N : Int)), Stv w.heap.size N, Is (.int .i64 (n : Int)), Mk w.heap.size n 4 (.bool false), Is (.int .i64 (n : Int)), Mk w.heap.size n 3 (.int .i64 0)].getD ii (Is undef))
    (fun w' => Below w.heap.size w w') (by kernel_rfl) (by decide) (by kernel_rfl) (by kernel_rfl) (by kernel_rfl) (by decide) (by decide) (by kernel_rfl) rfl ?mono ((Below.refl _ _).drew) ?step ?fin
  case mono =>
    intro i
    match i with
    | 0 => exact New.monot _
    | 3 => exact Stv.monot _ _
    | 5 | 7 => exact Mk.monot _ _ _ _
    | 1 | 2 | 4 | 6 => exact Is.monot _
    | _ + 8 => exact Is.monot _
  case step =>
    refine List.forall_mem_cons.2 ⟨?s0, List.forall_mem_cons.2 ⟨?s1, List.forall_mem_cons.2 ⟨?s2, List.forall_mem_cons.2 ⟨?s3, List.forall_mem_cons.2 ⟨?s4, List.forall_mem_cons.2 ⟨?s5, List.forall_mem_cons.2 ⟨?s6, List.forall_mem_cons.2 ⟨?s7, List.forall_mem_nil _⟩⟩⟩⟩⟩⟩⟩⟩
    case s0 =>
      intro u wx hg hC
      clear hC
      refine wpOp_step rfl (fun K hK => ?_)
      simp only [puts, List.foldl]
      go_simp
      exact hK _ _ ⟨rfl, ⟨wx.heap.size, rfl, Lies.new [_] _ _⟩, hg.alloc hg.size _, alloc_below _ _⟩
    case s1 =>
      intro u wx hg hC
      clear hC
      refine wpOp_step rfl (fun K hK => ?_)
      simp only [puts, List.foldl]
      go_simp
      exact hK _ _ ⟨rfl, rfl, hg, Below.refl _ _⟩
    case s2 =>
      intro u wx hg hC
      have h1 : u 1 = .int .i64 (n : Int) := hC.at 1 (by kernel_rfl)
      clear hC
      refine wpOp_step rfl (fun K hK => ?_)
      simp only [puts, List.foldl]
      go_simp
      exact hK _ _ ⟨rfl, rfl, hg, Below.refl _ _⟩
    case s3 =>
      intro u wx hg hC
      obtain ⟨q, h0, hl⟩ : New [.int .u8 255] (u 0) wx := hC.at 0 (by kernel_rfl)
      simp only [List.length_singleton] at h0
      have h2 : u 2 = .int .i64 (N : Int) := hC.at 2 (by kernel_rfl)
      clear hC
      refine wpOp_step rfl (fun K hK => ?_)
      simp only [puts, List.foldl]
      go_simp
      refine (HR.out wx q hl).mono ?_
      rintro e w' ⟨g, tot, rfl, hg1, hst, hb'⟩
      exact hK _ _ ⟨rfl, ⟨g, tot, rfl, Nat.le_trans hg.size hg1, hst⟩, hg.next hb', hb'⟩
    case s4 =>
      intro u wx hg hC
      clear hC
      refine wpOp_step rfl (fun K hK => ?_)
      simp only [puts, List.foldl]
      go_simp
      exact hK _ _ ⟨rfl, rfl, hg, Below.refl _ _⟩
    case s5 =>
      intro u wx hg hC
      have hJ : u 4 = .int .i64 (n : Int) := hC.at 4 (by kernel_rfl)
      clear hC
      refine wpOp_step rfl (fun K hK => ?_)
      generalize hA : puts [(0, 10), (1, 11), (2, 12), (3, 13), (4, 14), (5, 15), (6, 16), (7, 17)] _ u = A at hK ⊢
      have hs : A.tmps.getD 14 undef = .int .i64 (n : Int) := by rw [← hA, ← hJ]; exact puts_get u 4 14 _ _ (by decide) (by decide) (by kernel_rfl)
      have hsz : 15 < A.tmps.size := by rw [← hA]; exact puts_room u (by kernel_rfl)
      clear hA hJ
      refine opMakeK (φ := Mk w.heap.size n 4 (.bool false)) (G := fun w' => Below w.heap.size w w') 15 ?_ ?_ ?_ 92 4 (.bool false) n n ?_ ?_ ?_ ?_ ?_ ?_ ?_
      · rfl
      · exact hsz
      · exact hK
      · exact Try.underlying92
      · exact fmk_bool
      · rfl
      · exact Nat.le_refl _
      · have := H2.out; omega
      · exact makeOf_tmp 92 14 rfl rfl hs
      · exact fun w' r' b' => ⟨⟨wx.heap.size, rfl, hg.size, r'⟩, hg.next b'⟩
    case s6 =>
      intro u wx hg hC
      clear hC
      refine wpOp_step rfl (fun K hK => ?_)
      simp only [puts, List.foldl]
      go_simp
      exact hK _ _ ⟨rfl, rfl, hg, Below.refl _ _⟩
    case s7 =>
      intro u wx hg hC
      have hJ : u 6 = .int .i64 (n : Int) := hC.at 6 (by kernel_rfl)
      clear hC
      refine wpOp_step rfl (fun K hK => ?_)
      generalize hA : puts [(0, 10), (1, 11), (2, 12), (3, 13), (4, 14), (5, 15), (6, 16), (7, 17)] _ u = A at hK ⊢
      have hs : A.tmps.getD 16 undef = .int .i64 (n : Int) := by rw [← hA, ← hJ]; exact puts_get u 6 16 _ _ (by decide) (by decide) (by kernel_rfl)
      have hsz : 17 < A.tmps.size := by rw [← hA]; exact puts_room u (by kernel_rfl)
      clear hA hJ
      refine opMakeK (φ := Mk w.heap.size n 3 (.int .i64 0)) (G := fun w' => Below w.heap.size w w') 17 ?_ ?_ ?_ 69 3 (.int .i64 0) n n ?_ ?_ ?_ ?_ ?_ ?_ ?_
      · rfl
      · exact hsz
      · exact hK
      · exact Try.underlying69
      · exact fmk_int
      · rfl
      · exact Nat.le_refl _
      · have := H2.out; omega
      · exact makeOf_tmp 69 16 rfl rfl hs
      · exact fun w' r' b' => ⟨⟨wx.heap.size, rfl, hg.size, r'⟩, hg.next b'⟩
  case fin =>
    intro u w4 hb4 hφ
    obtain ⟨g1, tot, e3, hg1, z, hr1, ht1⟩ : Stv w.heap.size N (u 3) w4 := hφ (3, 13) (by decide)
    obtain ⟨g2, e5, hg2, hr2⟩ : Mk w.heap.size n 4 (.bool false) (u 5) w4 := hφ (5, 15) (by decide)
    obtain ⟨g3, e7, hg3, hr3⟩ : Mk w.heap.size n 3 (.int .i64 0) (u 7) w4 := hφ (7, 17) (by decide)
    clear hφ
    have n12 := row_ne hr1 hr2 (by decide)
    have n13 := row_ne hr1 hr3 (by decide)
    have n23 := row_ne hr2 hr3 (by decide)
    have R1 := Lib.hid hr1
    have R2 := Lib.hid hr2
    have R3 := Lib.hid hr3
    have B4 := Lib.hid hb4
    have HG := Lib.hid (And.intro hg1 (And.intro hg2 hg3))
    have HNE := Lib.hid (And.intro n12 (And.intro n13 n23))
    simp only [puts, List.foldl]
    go_simp
    clear hb4 hr1 hr2 hr3 hg1 hg2 hg3 n12 n13 n23 ht1 e3 e5 e7
    go_wp2_with ((with_reducible refine wpBoxK [Value.int .i64 0, .int .u8 0, .bool false, .int .i64 0, .slice (some ⟨g1, 0, none⟩) N N, .slice (some ⟨g2, 0, none⟩) n n, .slice (some ⟨g3, 0, none⟩) n n, .int .i64 0, .bool false] 96 ?_ ?_); rfl; intro w5 r5 b5 s5; have R5 := Lib.hid r5; have B5 := Lib.hid b5; clear r5 b5 s5)
    go_ret2
    refine ⟨⟨w4.heap.size, g1, N, z, g2, n, [], g3, n, []⟩, rfl, ⟨?_, ?_, ?_, ?_, ?_, ?_, ?_, D0_ok n H1.out H2.out⟩, ?_, B4.out.next B5.out⟩
    · have e : devL ⟨w4.heap.size, g1, N, z, g2, n, [], g3, n, []⟩ (D0 n) = [Value.int .i64 0, .int .u8 0, .bool false, .int .i64 0, .slice (some ⟨g1, 0, none⟩) N N, .slice (some ⟨g2, 0, none⟩) n n, .slice (some ⟨g3, 0, none⟩) n n, .int .i64 0, .bool false] := by
        simp [devL, D0, HN.out]
      rw [e]; exact R5.out
    · have e : bytes (D0 n).C = rep N 255 := by rw [rep_bytes, ← HN.out]; rfl
      show Row _ g1 _ (bytes (D0 n).C ++ z)
      rw [e]; exact R1.out.step B5.out
    · show Row _ g2 _ (fbools (List.replicate n false) ++ [])
      rw [List.append_nil, show fbools (List.replicate n false) = List.replicate n (.bool false) by simp [fbools]]; exact R2.out.step B5.out
    · show Row _ g3 _ (ints (List.replicate n 0) ++ [])
      rw [List.append_nil, show ints (List.replicate n 0) = List.replicate n (.int .i64 0) by simp [ints]]; exact R3.out.step B5.out
    · have q1 := R1.out.lt
      have q2 := R2.out.lt
      have q3 := R3.out.lt
      obtain ⟨a1, a2, a3⟩ := HNE.out
      simp only [Sh.S, List.nodup_cons, List.mem_cons, List.not_mem_nil, or_false, not_or, not_false_eq_true, List.nodup_nil, and_true]
      exact ⟨⟨by omega, by omega, by omega⟩, ⟨a1, a2⟩, a3⟩
    · show (List.replicate (n * 64) (255 : UInt8)).length ≤ N
      rw [List.length_replicate, HN.out]; exact Nat.le_refl _
    · show N ≤ _
      have := H2.out; have := HN.out; omega
    · intro k hk
      obtain ⟨a1, a2, a3⟩ := HG.out
      have := B4.out.size
      simp only [Sh.S, List.mem_cons, List.not_mem_nil, or_false] at hk
      rcases hk with rfl | rfl | rfl | rfl
      · exact this
      · exact a1
      · exact a2
      · exact a3
end Go.Proofs.Ytpeofjlecgenbaa

/- The document's example: awake. -/
namespace Go.Proofs.Ytpeofjlecgenbaa
open Go.RowKit FlaMath
set_option linter.unusedVariables false
set_option maxRecDepth 100000

theorem frep (c : UInt8) (w : World) : Calls Try.prog 16 #[.string { data := #[c] }, .int .i64 16] w fun e w' => e = .returned (.string (str (List.replicate 16 c))) ∧ Below w.heap.size w w' := by
  have := Try.strings_Repeat { data := #[c] } 16 w (by omega) (by show 1 * 16 ≤ _; omega)
  exact this
def l15 : List UInt8 := List.replicate 16 15
def l60 : List UInt8 := List.replicate 16 60
theorem aw1 : programE (D0 2) 16 l15 = 0 := by kernel_rfl
theorem aw2 : programE (programD (D0 2) 16 l15) 16 l60 = 0 := by kernel_rfl
theorem aw3 : readE (programD (programD (D0 2) 16 l15) 16 l60) 16 16 = 0 := by kernel_rfl
theorem aw4 : readS (programD (programD (D0 2) 16 l15) 16 l60) 16 16 = List.replicate 16 12 := by kernel_rfl
end Go.Proofs.Ytpeofjlecgenbaa

/- Lists of calls that came in; great. -/
namespace Go.Proofs.Ytpeofjlecgenbaa
open Go.RowKit FlaMath
set_option linter.unusedVariables false
set_option maxRecDepth 100000

structure OpV where
  k : Int
  at_ : Int
  n : Int
  s : ByteArray
  fb : Int
  fm : UInt8
def opL (o : OpV) : List Value := [.int .i64 o.k, .int .i64 o.at_, .int .i64 o.n, .string o.s, .int .i64 o.fb, .int .u8 (o.fm.toNat : Int)]
structure OpV.In (o : OpV) : Prop where
  hk : -9223372036854775808 ≤ o.k ∧ o.k < 9223372036854775808
  ha : -9223372036854775808 ≤ o.at_ ∧ o.at_ < 9223372036854775808
  hn : -9223372036854775808 ≤ o.n ∧ o.n < 9223372036854775808
  hs : o.s.size ≤ 140737488351232
def TT : Open.Ty := .pair (.int .i64) (.pair (.int .u8) .unit)
def TO : Open.Ty := .pair (.int .i64) (.pair (.int .i64) (.pair (.int .i64) (.pair .str (.pair TT .unit))))
theorem fwf_int {n : Int} (h : (Lit.int .i64 n).wf = true) : -9223372036854775808 ≤ n ∧ n < 9223372036854775808 := by
  have h2 := h
  simp [Lit.wf, IntKind.min, IntKind.max, IntKind.bits, IntKind.signed] at h2
  omega
theorem fwf_byte {n : Int} (h : (Lit.int .u8 n).wf = true) : ∃ b : UInt8, n = (b.toNat : Int) := by
  have h2 := h
  simp [Lit.wf, IntKind.min, IntKind.max, IntKind.bits, IntKind.signed] at h2
  refine ⟨UInt8.ofNat n.toNat, ?_⟩
  rw [UInt8.toNat_ofNat', Nat.mod_eq_of_lt (by omega)]
  omega
theorem reads_torn {w : World} {cs : List Value} {x : TT.den} (h : Open.Reads w TT cs x) : ∃ (fb : Int) (m : UInt8), cs = [.int .i64 fb, .int .u8 (m.toNat : Int)] := by
  have hl : cs.length = 2 := h.length
  match cs, hl with
  | [s, t], _ =>
    obtain ⟨⟨h1, _⟩, ⟨h2, h3⟩, _⟩ := h
    obtain ⟨b, hb⟩ := fwf_byte h3
    have e1 : s = .int .i64 x.1 := by simpa [Open.Ty.size] using h1
    have e2 : t = .int .u8 x.2.1 := by simpa [Open.Ty.size] using h2
    exact ⟨x.1, b, by rw [e1, e2, hb]⟩
theorem reads_op {w : World} {cs : List Value} {x : TO.den} (h : Open.Reads w TO cs x) : ∃ o : OpV, cs = opL o ∧ o.In := by
  have hl : cs.length = 6 := h.length
  match cs, hl with
  | [a, b, c, d, e, f], _ =>
    obtain ⟨⟨h1, g1⟩, ⟨h2, g2⟩, ⟨h3, g3⟩, ⟨h4, g4⟩, h5, _⟩ := h
    have e1 : a = .int .i64 x.1 := by simpa [Open.Ty.size] using h1
    have e2 : b = .int .i64 x.2.1 := by simpa [Open.Ty.size] using h2
    have e3 : c = .int .i64 x.2.2.1 := by simpa [Open.Ty.size] using h3
    have e4 : d = .string x.2.2.2.1 := by simpa [Open.Ty.size] using h4
    obtain ⟨fb, m, e5⟩ := reads_torn h5
    have e6 : e = .int .i64 fb ∧ f = .int .u8 (m.toNat : Int) := by simpa [Open.Ty.size, TT] using e5
    exact ⟨⟨x.1, x.2.1, x.2.2.1, x.2.2.2.1, fb, m⟩, by rw [e1, e2, e3, e4, e6.1, e6.2]; rfl, fwf_int g1, fwf_int g2, fwf_int g3, g4⟩
/-- The calls L lie at a. -/
def OpsAt (w : World) (a : Option Addr) (L : List OpV) : Prop :=
  0 < L.length → ∃ bl off, a = some ⟨bl, off, none⟩ ∧ bl < w.heap.size ∧ ∀ i (h : i < L.length), w.rangeAt bl (off + i * 6) (opL L[i])
theorem OpsAt.step {w w' : World} {a : Option Addr} {L : List OpV} (h : OpsAt w a L) (hb : Below w.heap.size w w') : OpsAt w' a L := by
  intro hp
  obtain ⟨bl, off, e, hl, hc⟩ := h hp
  exact ⟨bl, off, e, Nat.lt_of_lt_of_le hl hb.size, fun i hi j v hj => (hb.cell (p := ⟨bl, off + i * 6 + j, none⟩) hl).trans (hc i hi j v hj)⟩
theorem reads_ops {w : World} {by_ : Nat} {a : Option Addr} {cap : Nat} {l : List TO.den} (h : Open.Reads w (.sl by_ TO) [.slice a l.length cap] l) :
    ∃ L : List OpV, L.length = l.length ∧ (∀ o ∈ L, o.In) ∧ OpsAt w a L ∧ L.length ≤ 9223372036854775807 := by
  obtain ⟨a', cap', e, h1, h2, h3, h4⟩ := h
  have ea : a = a' := by simp only [List.cons.injEq, Value.slice.injEq] at e; exact e.1.1
  subst ea
  by_cases hp : 0 < l.length
  · obtain ⟨bl, off, e1, e2, e3⟩ := h4 hp
    obtain ⟨L, hL, hc⟩ := Open.choose_list (fun i (o : OpV) => w.rangeAt bl (off + i * 6) (opL o) ∧ o.In) l.length (fun i hi => by
      obtain ⟨cs', l1, l2, l3⟩ := e3 i hi
      obtain ⟨o, e4, e5⟩ := reads_op l3
      refine ⟨o, fun j v hj => ?_, e5⟩
      have hj6 : j < TO.size := by
        rw [← l1, e4]
        exact (List.getElem?_eq_some_iff.1 hj).1
      have := l2 j hj6
      rw [e4, hj] at this
      rw [← this, show off + i * 6 + j = off + (i * TO.size + j) from by show off + i * 6 + j = off + (i * 6 + j); omega]) ()
    exact ⟨L, hL, fun o ho => by
      obtain ⟨i, hi, rfl⟩ := List.mem_iff_getElem.1 ho
      exact (hc i hi).2, fun _ => ⟨bl, off, e1, e2, fun i hi => (hc i hi).1⟩, by omega⟩
  · exact ⟨[], by simp; omega, by simp, fun h => absurd h (by simp), by simp⟩

section
variable {P : Program}
theorem wpLoadAtK {ops : Array Oper} {rest : List Oper} {o : Oper} {a : Act} {w : World} {Q : Exit → Act → World → Prop} {g i : Nat} {y : List Value} (hy : w.rangeAt g i y) (ty : TypeId) {n : Nat} (hf : Fits P ty n) (hl : y.length = n)
    (ho : loadOf o a = some (ty, .pointer (some ⟨g, i, none⟩))) (k : wpList P ops Q rest (a.put o.dst (.agg y.toArray)) w) : wpList P ops Q (o :: rest) a w := by
  obtain ⟨hg, x, ho, hx⟩ := loadOf_spec ho
  obtain ⟨d, hu, hd⟩ := hf.row
  exact wpList_load_mid hg ty x ho g i hx y d hy hu hd (by rw [hl]; exact hf.size) k
end
def op0 : List Value := [.int .i64 0, .int .i64 0, .int .i64 0, .string { data := #[] }, .int .i64 0, .int .u8 0]
def gr (L : List OpV) : Bool := decide (150 < L.length) || L.any fun o => decide (1000 < o.s.size)
end Go.Proofs.Ytpeofjlecgenbaa

/- FlashNone's walk. -/
namespace Go.Proofs.Ytpeofjlecgenbaa
open Go.RowKit FlaMath
set_option linter.unusedVariables false
set_option maxRecDepth 100000

theorem OpsAt.one (o : OpV) (w : World) (t : TypeId) : OpsAt (w.alloc (.cells (opL o).toArray t)) (some ⟨w.heap.size, 0, none⟩) [o] := by
  intro _
  refine ⟨_, _, rfl, by simp, fun i hi => ?_⟩
  have h0 : i = 0 := by simp at hi; exact hi
  subst h0
  intro j v hj
  have := (Row.new w t (opL o)).cell j
  rw [show (opL o)[j]? = some v from hj] at this
  simpa using this
end Go.Proofs.Ytpeofjlecgenbaa

/- What calls leave of a device: FlashKeeps' mathematics. -/
namespace Go.Proofs.Ytpeofjlecgenbaa
open Go.RowKit FlaMath
set_option linter.unusedVariables false
set_option maxRecDepth 100000

theorem FlaMath_dump_eq (D : Dv) (a : Nat) (h : a < D.L.length) : dump D (a : Int) = sec D.C a := by
  rw [dump, if_pos (by omega), Int.toNat_natCast]
theorem sec_same {C C' : List UInt8} (h : C'.length = C.length) (i : Nat) (he : ∀ j (hj : j < C.length), i * 64 ≤ j → j < i * 64 + 64 → C'[j]'(by rw [h]; exact hj) = C[j]) : sec C' i = sec C i := by
  apply List.ext_getElem (by simp [sec, h])
  intro j h1 h2
  simp [sec] at h1 h2 ⊢
  exact he (i * 64 + j) (by omega) (by omega) (by omega)
theorem work_out (C : List UInt8) (o n r : Nat) (f g : Nat → UInt8 → UInt8) (hr : r ≤ n) (j : Nat) (hj : j < C.length) (ho : ¬ (o ≤ j ∧ j < o + n)) : (FlaMath.work C o n r f g)[j]'(by rw [work_length]; exact hj) = C[j] := by
  rw [work_get _ _ _ _ _ _ _ hj, if_neg (by omega), if_neg (by omega)]
theorem sec_work (C : List UInt8) (o n r : Nat) (f g : Nat → UInt8 → UInt8) (hr : r ≤ n) (i : Nat) (h : o + n ≤ i * 64 ∨ i * 64 + 64 ≤ o) : sec (FlaMath.work C o n r f g) i = sec C i :=
  sec_same (work_length _ _ _ _ _ _) i fun j hj h1 h2 => work_out C o n r f g hr j hj (by omega)
theorem done_le (b : Bool) (fb : Int) (n : Nat) : (if b then reach fb n else n) ≤ n := by
  split
  · exact reach_le _ _
  · exact Nat.le_refl _
theorem workD_C (D : Dv) (o n : Nat) (f g : Nat → UInt8 → UInt8) : ∃ r, r ≤ n ∧ (workD D o n f g).C = FlaMath.work D.C o n r f g := ⟨_, done_le _ _ _, rfl⟩
theorem workD_L (D : Dv) (o n : Nat) (f g : Nat → UInt8 → UInt8) : (workD D o n f g).L = D.L := burned_L D
theorem workD_E (D : Dv) (o n : Nat) (f g : Nat → UInt8 → UInt8) : (workD D o n f g).E = D.E := burned_E D
theorem eraseD_L (D : Dv) (i : Int) : (eraseD D i).L = D.L := by
  unfold eraseD
  split
  · rw [workD_L]; rfl
  · rfl
theorem programD_L (D : Dv) (x : Int) (l : List UInt8) : (programD D x l).L = D.L := by
  unfold programD
  split
  · rw [workD_L]
  · rfl
theorem programD_E (D : Dv) (x : Int) (l : List UInt8) : (programD D x l).E = D.E := by
  unfold programD
  split
  · rw [workD_E]
  · rfl
theorem readD_C (D : Dv) (x y op : Int) : (D.readD x y op).C = D.C ∧ (D.readD x y op).L = D.L ∧ (D.readD x y op).E = D.E := by
  unfold Dv.readD
  split <;> exact ⟨rfl, rfl, rfl⟩

/-- What FlashKeeps holds through its rounds. -/
structure Kept (n a : Nat) (W : List UInt8) (D : Dv) : Prop where
  len : D.L.length = n
  lk : D.L.getD a false = true
  sec : sec D.C a = W
theorem Kept.same {n a : Nat} {W : List UInt8} {D D' : Dv} (h : Kept n a W D) (hC : D'.C = D.C) (hL : D'.L = D.L) : Kept n a W D' := ⟨by rw [hL]; exact h.len, by rw [hL]; exact h.lk, by rw [hC]; exact h.sec⟩
theorem Kept.erase {n a : Nat} {W : List UInt8} {D : Dv} (h : Kept n a W D) (i : Int) : Kept n a W (eraseD D i) := by
  refine ⟨by rw [eraseD_L]; exact h.len, by rw [eraseD_L]; exact h.lk, ?_⟩
  cases hB : eraseB D i with
  | false => rw [eraseD, hB]; exact h.sec
  | true =>
    rw [eraseD, if_pos hB]
    obtain ⟨r, hr, hC⟩ := workD_C (worn D i.toNat) (i.toNat * 64) 64 fE (gE D.fm)
    rw [hC, sec_work _ _ _ _ _ _ hr]
    · exact h.sec
    · have hne : i.toNat ≠ a := by
        intro e
        simp only [eraseB, Bool.and_eq_true, Bool.not_eq_true'] at hB
        rw [e, h.lk] at hB
        exact absurd hB.2 (by simp)
      omega
theorem Kept.program {n a : Nat} {W : List UInt8} {D : Dv} (h : Kept n a W D) (x : Int) (l : List UInt8) : Kept n a W (programD D x l) := by
  refine ⟨by rw [programD_L]; exact h.len, by rw [programD_L]; exact h.lk, ?_⟩
  cases hB : programB D x l with
  | false => rw [programD, hB]; exact h.sec
  | true =>
    rw [programD, if_pos hB]
    obtain ⟨r, hr, hC⟩ := workD_C D x.toNat 16 (fP l) (gP l D.fm)
    rw [hC, sec_work _ _ _ _ _ _ hr]
    · exact h.sec
    · simp only [programB, Bool.and_eq_true, Bool.not_eq_true', decide_eq_false_iff_not, bey] at hB
      obtain ⟨⟨⟨_, h1⟩, h2⟩, h3⟩ := hB
      have hne : x.toNat / 64 ≠ a := by
        intro e
        rw [e, h.lk] at h3
        exact absurd h3 (by simp)
      have hm : x.tmod 16 = 0 := by omega
      have hx : 0 ≤ x := by omega
      rw [Int.tmod_eq_emod_of_nonneg hx] at hm
      omega
/-- The first k sectors' bytes. -/
def catd (D : Dv) (k : Nat) : List UInt8 := (List.range k).flatMap fun (i : Nat) => dump D (i : Int)
theorem catd_succ (D : Dv) (k : Nat) : catd D (k + 1) = catd D k ++ dump D k := by simp [catd, List.range_succ]
theorem dump_len (D : Dv) (i : Int) : (dump D i).length ≤ 64 := by
  unfold dump sec
  split
  · rw [List.length_take]; omega
  · exact Nat.zero_le _
theorem catd_len (D : Dv) (k : Nat) : (catd D k).length ≤ 64 * k := by
  induction k with
  | zero => simp [catd]
  | succ k ih =>
    rw [catd_succ, List.length_append]
    have := dump_len D k
    omega
theorem catd_same {D D' : Dv} (hC : D'.C = D.C) (hL : D'.L = D.L) (k : Nat) : catd D' k = catd D k := by
  unfold catd dump
  rw [hC, hL]
theorem Kept.dump {n a : Nat} {W : List UInt8} {D : Dv} (h : Kept n a W D) (ha : a < n) : dump D a = W := by
  rw [FlaMath_dump_eq D a (by rw [h.len]; exact ha)]
  exact h.sec
/-- The device as the rounds begin. -/
theorem kept0 (n a : Nat) (l : List UInt8) (ha : a < n) (hn : n ≤ 12) : Kept n a (dump (programD (D0 n) ((a * 64 : Nat) : Int) l) a) ((programD (D0 n) ((a * 64 : Nat) : Int) l).lock a ((a + 1 : Nat) : Int)) ∧
    lockE (programD (D0 n) ((a * 64 : Nat) : Int) l).L.length a ((a + 1 : Nat) : Int) = 0 := by
  have hL : (programD (D0 n) ((a * 64 : Nat) : Int) l).L = List.replicate n false := programD_L _ _ _
  have hlen : (programD (D0 n) ((a * 64 : Nat) : Int) l).L.length = n := by rw [hL, List.length_replicate]
  have hb : ¬ ((a : Int) < 0 ∨ ((a + 1 : Nat) : Int) < a ∨ (n : Int) < ((a + 1 : Nat) : Int)) := by omega
  refine ⟨?_, by rw [lockE, hlen, if_neg hb]⟩
  rw [Dv.lock, hlen, if_neg hb, Int.toNat_natCast, Int.toNat_natCast]
  refine ⟨by show (lockF _ _ _).length = n; rw [lockF_length, hlen], ?_, ?_⟩
  · show (lockF _ _ _).getD a false = true
    rw [hL, lockF, List.getD_eq_getElem?_getD, List.getElem?_mapIdx, List.getElem?_eq_getElem (by rw [List.length_replicate]; exact ha)]
    simp
  · show sec _ a = _
    rw [FlaMath_dump_eq _ a (by rw [hlen]; exact ha)]
end Go.Proofs.Ytpeofjlecgenbaa

/- Contracts of flash: Wear, Copy. (gen_fla_copy.py) -/
namespace Go.Proofs.Ytpeofjlecgenbaa
open Go.RowKit FlaMath
set_option linter.unusedVariables false
set_option maxRecDepth 100000

def wearF (L : List Bool) (E : List Int) (l : List Int) : Int := l.foldl (fun (a : Int) (i : Int) => if 0 ≤ i ∧ i < L.length then wrap64 (a + E.getD i.toNat 0) else a) 0
theorem wearF_snoc (L : List Bool) (E : List Int) (l : List Int) (i : Int) : wearF L E (l ++ [i]) = if 0 ≤ i ∧ i < L.length then wrap64 (wearF L E l + E.getD i.toNat 0) else wearF L E l := by simp [wearF, List.foldl_append]
theorem fone_bool : One Try.prog 4 := One.of (by kernel_rfl)
theorem fone_int : One Try.prog 3 := One.of (by kernel_rfl)

theorem fbools_one (l : List Bool) : (fbools l).all (·.oneCell') = true := by simp [fbools, List.all_eq_true]; exact ⟨fun _ => rfl, fun _ => rfl⟩
theorem fbytes_one (l : List UInt8) : (bytes l).all (·.oneCell') = true := by simp [bytes, List.all_eq_true]; intro x _; rfl
theorem fints_one (l : List Int) : (ints l).all (·.oneCell') = true := by simp [ints, List.all_eq_true]; intro x _; rfl
theorem fla_row_lies {w : World} {g : Nat} {t : TypeId} {x z : List Value} (h : Row w g t (x ++ z)) : Lies w w.heap.size (some ⟨g, 0, none⟩) x := by
  intro _
  refine ⟨g, 0, rfl, h.lt, fun j u hj => ?_⟩
  rw [Nat.zero_add, h.cell, List.getElem?_append_left (List.getElem?_eq_some_iff.1 hj).1]
  exact hj
theorem devL_one (s : Sh) (D : Dv) : (devL s D).all (·.oneCell') = true := by simp [devL, List.all]; exact ⟨rfl, rfl, rfl, rfl, rfl, rfl, rfl, rfl, rfl⟩
theorem fits_dev : Fits Try.prog 96 9 := ⟨⟨_, Try.underlying96, rfl⟩, by kernel_rfl⟩
def dev0 : List Value := [.int .i64 0, .int .u8 0, .bool false, .int .i64 0, .slice none 0 0, .slice none 0 0, .slice none 0 0, .int .i64 0, .bool false]
theorem zero_dev : ∀ u, (zeroValue 96).run Try.prog u = .ok (.agg dev0.toArray) u := fun u => by kernel_rfl
theorem finfo_bools : (Try.prog.info? 92).map (·.size) = some 1 := by kernel_rfl
theorem finfo_ints : (Try.prog.info? 69).map (·.size) = some 1 := by kernel_rfl
end Go.Proofs.Ytpeofjlecgenbaa

/- What a torn erase, a torn program leave: FlashTears' mathematics. -/
namespace Go.Proofs.Ytpeofjlecgenbaa
open Go.RowKit FlaMath
set_option linter.unusedVariables false
set_option maxRecDepth 100000

/-- Where x has a bit, y has it. -/
def Sub (x y : UInt8) : Prop := ∀ i, x.toNat.testBit i = true → y.toNat.testBit i = true
theorem Sub.refl (x : UInt8) : Sub x x := fun _ h => h
theorem Sub.full (x : UInt8) : Sub x 255 := fun i h => by
  have hx : x.toNat < 2 ^ 8 := x.toNat_lt
  have hi : i < 8 := by
    rcases Nat.lt_or_ge i 8 with h' | h'
    · exact h'
    · rw [Nat.testBit_lt_two_pow (Nat.lt_of_lt_of_le hx (Nat.pow_le_pow_right (by omega) h'))] at h; cases h
  have : (255 : UInt8).toNat = 2 ^ 8 - 1 := rfl
  rw [this, Nat.testBit_two_pow_sub_one]
  exact decide_eq_true hi
theorem Sub.or (x m : UInt8) : Sub x (x ||| m) := fun i h => by rw [UInt8.toNat_or, Nat.testBit_or, h]; rfl
theorem Sub.and (x m : UInt8) : Sub (x &&& m) x := fun i h => by
  rw [UInt8.toNat_and, Nat.testBit_and, Bool.and_eq_true] at h
  exact h.1
theorem Sub.andNot {x y : UInt8} (h : Sub x y) : bits .andNot .u8 (x.toNat : Int) (y.toNat : Int) = 0 := by
  rw [u8_andNot_nat _ _ x.toNat_lt y.toNat_lt]
  have e : x.toNat &&& (255 - y.toNat) = 0 := by
    apply Nat.eq_of_testBit_eq
    intro i
    have hy : y.toNat < 2 ^ 8 := y.toNat_lt
    rw [Nat.testBit_and, show 255 - y.toNat = 2 ^ 8 - (y.toNat + 1) by omega, Nat.testBit_two_pow_sub_succ hy, Nat.zero_testBit]
    cases hx : x.toNat.testBit i with
    | false => rfl
    | true => rw [h i hx]; simp
  rw [e]; rfl
theorem sec_get (C : List UInt8) (k i : Nat) (hi : i < 64) : (sec C k).getD i 0 = C.getD (k * 64 + i) 0 := by
  rw [sec, List.getD_eq_getElem?_getD, List.getD_eq_getElem?_getD, List.getElem?_take_of_lt hi, List.getElem?_drop]
theorem work_getD (C : List UInt8) (o n r : Nat) (f g : Nat → UInt8 → UInt8) (j : Nat) (hj : j < C.length) :
    (FlaMath.work C o n r f g).getD j 0 = if o ≤ j ∧ j < o + r then f (j - o) (C.getD j 0) else if j = o + r ∧ r < n then g r (C.getD j 0) else C.getD j 0 := by
  have h1 := work_get C o n r f g j hj
  have e1 : (FlaMath.work C o n r f g).getD j 0 = (FlaMath.work C o n r f g)[j]'(by rw [work_length]; exact hj) := by
    rw [List.getD_eq_getElem?_getD, List.getElem?_eq_getElem (by rw [work_length]; exact hj)]; rfl
  have e2 : C.getD j 0 = C[j] := by rw [List.getD_eq_getElem?_getD, List.getElem?_eq_getElem hj]; rfl
  rw [e1, e2, h1]

/-- A device of three sectors that is up, and a fuse of nought laid. -/
structure Up3 (D : Dv) : Prop where
  len : D.L = List.replicate 3 false
  cel : D.C.length = 192
  up : D.dn = false
theorem rot_keeps (D : Dv) (x : Int) (l : List UInt8) : (D.rot x l).L = D.L ∧ (D.rot x l).dn = D.dn ∧ (D.rot x l).C.length = D.C.length := by
  unfold Dv.rot
  split
  · exact ⟨rfl, rfl, rotF_length _ _ _⟩
  · exact ⟨rfl, rfl, rfl⟩
theorem up3_rot (x : Int) (l : List UInt8) : Up3 ((D0 3).rot x l) := by
  obtain ⟨h1, h2, h3⟩ := rot_keeps (D0 3) x l
  exact ⟨h1, by rw [h3]; simp [D0], h2⟩
theorem fuse_burns (D : Dv) (fb : Int) (fm : UInt8) : burnB (D.fuse 0 fb fm) = true := by
  have h1 : wrap64 (0 - 1) < 0 := by unfold wrap64; omega
  have h2 : burnB (D.fuse 0 fb fm) = (decide ((0 : Int) ≤ 0) && decide (wrap64 (0 - 1) < 0)) := rfl
  rw [h2, decide_eq_true h1]; rfl
structure Tears (D D3 : Dv) (er : Bool) : Prop where
  dn : D3.dn = true
  s0 : dump D3 0 = dump D 0
  s2 : dump D3 2 = dump D 2
  sub : ∀ i, i < 64 → if er then Sub ((dump D 1).getD i 0) ((dump D3 1).getD i 0) else Sub ((dump D3 1).getD i 0) ((dump D 1).getD i 0) ∧ ((i < 16 ∨ 32 ≤ i) → (dump D 1).getD i 0 = (dump D3 1).getD i 0)
theorem dump_i (D : Dv) (k : Nat) (h : k < D.L.length) : dump D (k : Int) = sec D.C k := FlaMath_dump_eq D k h
theorem tear_erase (D : Dv) (fb : Int) (fm : UInt8) (h : Up3 D) : eraseE (D.fuse 0 fb fm) 1 = 5 ∧ Tears D (eraseD (D.fuse 0 fb fm) 1) true := by
  have hL : (D.fuse 0 fb fm).L = List.replicate 3 false := h.len
  have hdn : (D.fuse 0 fb fm).dn = false := h.up
  have hb := fuse_burns D fb fm
  have hB : eraseB (D.fuse 0 fb fm) 1 = true := by rw [eraseB, hL, hdn]; decide
  have hE : eraseE (D.fuse 0 fb fm) 1 = 5 := by rw [eraseE, hL, hdn, hb]; decide
  have hl : D.L.length = 3 := by rw [h.len]; rfl
  have hl3 : (eraseD (D.fuse 0 fb fm) 1).L.length = 3 := by rw [eraseD_L, hL]; rfl
  obtain ⟨r, hr, hC⟩ := workD_C (worn (D.fuse 0 fb fm) 1) (1 * 64) 64 fE (gE (D.fuse 0 fb fm).fm)
  have hC3 : (eraseD (D.fuse 0 fb fm) 1).C = FlaMath.work D.C (1 * 64) 64 r fE (gE fm) := by rw [eraseD, if_pos hB]; exact hC
  refine ⟨hE, ⟨?_, ?_, ?_, fun i hi => ?_⟩⟩
  · rw [eraseD, if_pos hB]; exact hb
  · have e1 := dump_i D 0 (by omega)
    have e2 := dump_i (eraseD (D.fuse 0 fb fm) 1) 0 (by omega)
    rw [hC3, sec_work _ _ _ _ _ _ hr 0 (by omega)] at e2
    exact e2.trans e1.symm
  · have e1 := dump_i D 2 (by omega)
    have e2 := dump_i (eraseD (D.fuse 0 fb fm) 1) 2 (by omega)
    rw [hC3, sec_work _ _ _ _ _ _ hr 2 (by omega)] at e2
    exact e2.trans e1.symm
  · have e1 := dump_i D 1 (by omega)
    have e2 := dump_i (eraseD (D.fuse 0 fb fm) 1) 1 (by omega)
    have e1' : dump D 1 = sec D.C 1 := e1
    have e2' : dump (eraseD (D.fuse 0 fb fm) 1) 1 = sec (eraseD (D.fuse 0 fb fm) 1).C 1 := e2
    rw [if_pos rfl, e1', e2', hC3, sec_get _ _ _ hi, sec_get _ _ _ hi, work_getD _ _ _ _ _ _ _ (by rw [h.cel]; omega)]
    split
    · exact Sub.full _
    · split
      · exact Sub.or _ _
      · exact Sub.refl _
theorem tear_program (D : Dv) (fb : Int) (fm : UInt8) (l : List UInt8) (hlen : l.length = 16) (h : Up3 D) : programE (D.fuse 0 fb fm) 80 l = 5 ∧ Tears D (programD (D.fuse 0 fb fm) 80 l) false := by
  have hL : (D.fuse 0 fb fm).L = List.replicate 3 false := h.len
  have hdn : (D.fuse 0 fb fm).dn = false := h.up
  have hcl : (D.fuse 0 fb fm).C.length = 192 := h.cel
  have hb := fuse_burns D fb fm
  have hB : programB (D.fuse 0 fb fm) 80 l = true := by rw [programB, hL, hdn, hcl, hlen]; decide
  have hE : programE (D.fuse 0 fb fm) 80 l = 5 := by rw [programE, hL, hdn, hcl, hlen, hb]; decide
  have hl : D.L.length = 3 := by rw [h.len]; rfl
  have hl3 : (programD (D.fuse 0 fb fm) 80 l).L.length = 3 := by rw [programD_L, hL]; rfl
  obtain ⟨r, hr, hC⟩ := workD_C (D.fuse 0 fb fm) 80 16 (fP l) (gP l (D.fuse 0 fb fm).fm)
  have hC3 : (programD (D.fuse 0 fb fm) 80 l).C = FlaMath.work D.C 80 16 r (fP l) (gP l fm) := by rw [programD, if_pos hB]; exact hC
  refine ⟨hE, ⟨?_, ?_, ?_, fun i hi => ?_⟩⟩
  · rw [programD, if_pos hB]; exact hb
  · have e1 := dump_i D 0 (by omega)
    have e2 := dump_i (programD (D.fuse 0 fb fm) 80 l) 0 (by omega)
    rw [hC3, sec_work _ _ _ _ _ _ hr 0 (by omega)] at e2
    exact e2.trans e1.symm
  · have e1 := dump_i D 2 (by omega)
    have e2 := dump_i (programD (D.fuse 0 fb fm) 80 l) 2 (by omega)
    rw [hC3, sec_work _ _ _ _ _ _ hr 2 (by omega)] at e2
    exact e2.trans e1.symm
  · have e1 := dump_i D 1 (by omega)
    have e2 := dump_i (programD (D.fuse 0 fb fm) 80 l) 1 (by omega)
    have e1' : dump D 1 = sec D.C 1 := e1
    have e2' : dump (programD (D.fuse 0 fb fm) 80 l) 1 = sec (programD (D.fuse 0 fb fm) 80 l).C 1 := e2
    rw [if_neg (by simp), e1', e2', hC3, sec_get _ _ _ hi, sec_get _ _ _ hi, work_getD _ _ _ _ _ _ _ (by rw [h.cel]; omega)]
    refine ⟨?_, fun ho => ?_⟩
    · split
      · exact Sub.and _ _
      · split
        · exact Sub.and _ _
        · exact Sub.refl _
    · rw [if_neg (by omega), if_neg (by omega)]
theorem dump_len64 (D : Dv) (h : D.Ok) (k : Nat) (hk : k < D.L.length) : (dump D (k : Int)).length = 64 := by
  rw [dump_i D k hk, sec, List.length_take, List.length_drop, h.cells]; omega
end Go.Proofs.Ytpeofjlecgenbaa
