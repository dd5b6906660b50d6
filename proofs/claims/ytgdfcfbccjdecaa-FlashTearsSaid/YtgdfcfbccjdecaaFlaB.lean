/- Contracts of flash: sector, Locked, Dump. -/
import Derived.Test.YtgdfcfbccjdecaaFlaA
namespace Go.Proofs.Ytgdfcfbccjdecaa
open Go.RowKit FlaMath
set_option linter.unusedVariables false
set_option maxRecDepth 100000

theorem sector_any (s : Sh) (D : Dv) (i : Nat) (w : World) (h : Dev w s D) (hi : i < D.L.length) :
    Calls Try.prog 38 #[.pointer (some ⟨s.b, 0, none⟩), .int .i64 (i : Int)] w fun e w' => e = .returned (.slice (some ⟨s.o1, i * 64, none⟩) 64 (s.k1 - i * 64)) ∧ w = w' := by
  have h4 := h.c4
  have h1 := h.ok.cells
  have h2 := h.ok.top
  have h3 := h.room
  have hw : wrap64 ((i : Int) * 64) = (i : Int) * 64 := by unfold wrap64; omega
  obtain ⟨n, hn⟩ : ∃ n, D.C.length = n := ⟨_, rfl⟩
  rw [hn] at h4 h1 h3
  obtain ⟨k, hk⟩ : ∃ k, s.k1 = k := ⟨_, rfl⟩
  rw [hk] at h4 h3 ⊢
  clear hn hk h
  have e1 : (i : Int) * 64 ≤ n := by omega
  have e2 : 0 ≤ (i : Int) * 64 := by omega
  have e3 : (64 : Int) ≤ (k : Int) - (i : Int) * 64 := by omega
  have e4 : (i : Int) * 64 ≤ k := by omega
  have e5 : ((i : Int) * 64).toNat = i * 64 := by omega
  have e6 : (n : Int) ≤ k := by omega
  go_enter Try.func38, Try.ntmps38
  go_wp2
  go_ret
  exact ⟨by simp, rfl⟩

theorem locked_nil (i : Int) (w : World) : Calls Try.prog 18 #[.pointer none, .int .i64 i] w fun e w' => e = .returned (.bool false) ∧ w = w' := by
  have HX := Lib.hid (has_nil i w)
  go_enter Try.func18, Try.ntmps18
  go_wp2_with (go_at_call 37; (with_reducible refine HX.out.mono ?_); rintro e u1 ⟨rfl, rfl⟩)
  go_ret
  exact ⟨rfl, rfl⟩
/-- Whether a sector is locked. -/
def lkd (L : List Bool) (i : Int) : Bool := if 0 ≤ i ∧ i < L.length then L.getD i.toNat false else false
theorem locked_any (s : Sh) (D : Dv) (i : Int) (w : World) (h : Dev w s D) :
    Calls Try.prog 18 #[.pointer (some ⟨s.b, 0, none⟩), .int .i64 i] w fun e w' => e = .returned (.bool (lkd D.L i)) ∧ w = w' := by
  have HX := Lib.hid (has_any s D i w h)
  have h5 := h.c5
  by_cases hi : 0 ≤ i ∧ i < D.L.length
  · rw [decide_eq_true hi] at HX
    obtain ⟨j, rfl⟩ : ∃ j : Nat, i = j := ⟨i.toNat, by omega⟩
    have hj : j < D.L.length := by omega
    have hc := h.cl j hj
    have HD : Hid (lkd D.L (j : Int) = D.L[j]) := Lib.hid (by rw [lkd, if_pos hi]; simp [List.getD_eq_getElem?_getD, hj])
    have hj2 : (j : Int) < D.L.length := by omega
    obtain ⟨x, hx⟩ : ∃ x, D.L[j] = x := ⟨_, rfl⟩
    rw [hx] at hc HD
    obtain ⟨n, hn⟩ : ∃ n, D.L.length = n := ⟨_, rfl⟩
    rw [hn] at h5 hj2
    clear hn hx hi hj h
    go_enter Try.func18, Try.ntmps18
    go_wp2_with (go_at_call 37; (with_reducible refine HX.out.mono ?_); rintro e u1 ⟨rfl, rfl⟩)
    go_ret
    exact ⟨ret_bool HD.out.symm, rfl⟩
  · rw [decide_eq_false hi] at HX
    have HD : Hid (lkd D.L i = false) := Lib.hid (by rw [lkd, if_neg hi])
    clear h hi
    go_enter Try.func18, Try.ntmps18
    go_wp2_with (go_at_call 37; (with_reducible refine HX.out.mono ?_); rintro e u1 ⟨rfl, rfl⟩)
    go_ret
    exact ⟨ret_bool HD.out.symm, rfl⟩

/-- A sector's bytes. -/
def sec (C : List UInt8) (i : Nat) : List UInt8 := (C.drop (i * 64)).take 64
def dump (D : Dv) (i : Int) : List UInt8 := if 0 ≤ i ∧ i < D.L.length then sec D.C i.toNat else []
theorem Dev.read {w : World} {s : Sh} {D : Dv} (h : Dev w s D) (o n cap : Nat) (ho : o + n ≤ D.C.length) :
    (convert 48 9 (.slice (some ⟨s.o1, o, none⟩) n cap)).run Try.prog w = .ok (.string (str ((D.C.drop o).take n))) w := by
  refine conv_bytes s.o1 o cap ((D.C.drop o).take n) n w (by simp; omega) fun j hj => ?_
  have h3 : j < n := by simp at hj; omega
  have h2 := h.cc (o + j) (by omega)
  simpa using h2
theorem dump_nil (i : Int) (w : World) : Calls Try.prog 12 #[.pointer none, .int .i64 i] w fun e w' => e = .returned (.string (str [])) ∧ w = w' := by
  have HX := Lib.hid (has_nil i w)
  go_enter Try.func12, Try.ntmps12
  go_wp2_with (go_at_call 37; (with_reducible refine HX.out.mono ?_); rintro e u1 ⟨rfl, rfl⟩)
  go_ret
  exact ⟨rfl, rfl⟩
theorem dump_any (s : Sh) (D : Dv) (i : Int) (w : World) (h : Dev w s D) :
    Calls Try.prog 12 #[.pointer (some ⟨s.b, 0, none⟩), .int .i64 i] w fun e w' => e = .returned (.string (str (dump D i))) ∧ w = w' := by
  have HX := Lib.hid (has_any s D i w h)
  by_cases hi : 0 ≤ i ∧ i < D.L.length
  · rw [decide_eq_true hi] at HX
    obtain ⟨j, rfl⟩ : ∃ j : Nat, i = j := ⟨i.toNat, by omega⟩
    have hj : j < D.L.length := by omega
    have h1 := h.ok.cells
    have HS := Lib.hid (sector_any s D j w h hj)
    have hr := h.read (j * 64) 64 (s.k1 - j * 64) (by omega)
    have HD : Hid (str (dump D (j : Int)) = str ((D.C.drop (j * 64)).take 64)) := Lib.hid (by rw [dump, if_pos hi]; rfl)
    clear h h1 hj hi
    go_enter Try.func12, Try.ntmps12
    go_wp2_with (first
      | (go_at_call 37; (with_reducible refine HX.out.mono ?_); rintro e u1 ⟨rfl, rfl⟩)
      | (go_at_call 38; (with_reducible refine HS.out.mono ?_); rintro e u1 ⟨rfl, rfl⟩))
    go_ret
    exact ⟨ret_str HD.out.symm, rfl⟩
  · rw [decide_eq_false hi] at HX
    have HD : Hid (str (dump D i) = str []) := Lib.hid (by rw [dump, if_neg hi])
    clear h hi
    go_enter Try.func12, Try.ntmps12
    go_wp2_with (go_at_call 37; (with_reducible refine HX.out.mono ?_); rintro e u1 ⟨rfl, rfl⟩)
    go_ret
    exact ⟨ret_str HD.out.symm, rfl⟩
end Go.Proofs.Ytgdfcfbccjdecaa
