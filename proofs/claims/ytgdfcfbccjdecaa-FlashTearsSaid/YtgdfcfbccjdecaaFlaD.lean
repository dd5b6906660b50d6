/- Contracts of flash: Lock. -/
import Derived.Test.YtgdfcfbccjdecaaFlaC
namespace Go.Proofs.Ytgdfcfbccjdecaa
open Go.RowKit FlaMath
set_option linter.unusedVariables false
set_option maxRecDepth 100000

theorem Dev.setL {w w' : World} {s : Sh} {D : Dv} (h : Dev w s D) (k : Nat) (x : Bool) (hk : k < D.L.length) (hr : Row w' s.o2 4 ((fbools D.L ++ s.z2).set k (.bool x))) (ho : Only s.o2 w w') : Dev w' s { D with L := D.L.set k x } :=
  h.putL _ (by rw [List.set_append_left _ _ (by rw [fbools_length]; exact hk), fbools_set] at hr; exact hr) ho (by simp)
theorem Dev.setC {w w' : World} {s : Sh} {D : Dv} (h : Dev w s D) (k : Nat) (x : UInt8) (hk : k < D.C.length) (hr : Row w' s.o1 5 ((bytes D.C ++ s.z1).set k (.int .u8 (x.toNat : Int)))) (ho : Only s.o1 w w') : Dev w' s { D with C := D.C.set k x } :=
  h.putC _ (by rw [List.set_append_left _ _ (by rw [bytes_length]; exact hk), show (bytes D.C).set k (.int .u8 (x.toNat : Int)) = bytes (D.C.set k x) by simp [bytes, List.map_set]] at hr; exact hr) ho (by simp)
theorem Dev.setE {w w' : World} {s : Sh} {D : Dv} (h : Dev w s D) (k : Nat) (x : Int) (hk : k < D.E.length) (hr : Row w' s.o3 3 ((ints D.E ++ s.z3).set k (.int .i64 x))) (ho : Only s.o3 w w') : Dev w' s { D with E := D.E.set k x } :=
  h.putE _ (by rw [List.set_append_left _ _ (by rw [ints_length]; exact hk), show (ints D.E).set k (.int .i64 x) = ints (D.E.set k x) by simp [ints, List.map_set]] at hr; exact hr) ho (by simp)

theorem lock_nil (x y : Int) (w : World) : Calls Try.prog 13 #[.pointer none, .int .i64 x, .int .i64 y] w fun e w' => e = .returned (.int .i64 1) ∧ w = w' := by
  have HX := Lib.hid (none_nil w)
  go_enter Try.func13, Try.ntmps13
  go_wp2_with (go_at_call 39; (with_reducible refine HX.out.mono ?_); rintro e u1 ⟨rfl, rfl⟩)
  go_ret
  exact ⟨rfl, rfl⟩
theorem lock_loop (s : Sh) (D : Dv) (a c : Nat) (w : World) (h : Dev w s D) (hac : a ≤ c) (hc : c ≤ D.L.length) :
    Calls Try.prog 13 #[.pointer (some ⟨s.b, 0, none⟩), .int .i64 (a : Int), .int .i64 (c : Int)] w fun e w' => e = .returned (.int .i64 0) ∧ Dev w' s { D with L := lockF D.L a c } ∧ Onl s.S w w' := by
  have HX := Lib.hid (none_any s D w h)
  have HS := Lib.hid (sectors_any s D w h)
  have HD := Lib.hid h
  have h2 := h.ok.top
  obtain ⟨n, hn⟩ : ∃ n, D.L.length = n := ⟨_, rfl⟩
  rw [hn] at hc h2 HS
  have HN := Lib.hid hn
  have a1 : (a : Int) ≤ c := by omega
  have a2 : (c : Int) ≤ n := by omega
  have a3 : (n : Int) ≤ 512 := by omega
  have a4 : 0 ≤ (a : Int) := by omega
  have d1 : decide ((a : Int) < 0) = false := decide_eq_false (by omega)
  have d2 : decide ((c : Int) < a) = false := decide_eq_false (by omega)
  have d3 : decide (c < a) = false := decide_eq_false (by omega)
  have d4 : decide ((n : Int) < c) = false := decide_eq_false (by omega)
  have d5 : decide (n < c) = false := decide_eq_false (by omega)
  clear h hn h2
  go_enter Try.func13, Try.ntmps13
  go_wp2_with (first
    | (go_at_call 39; (with_reducible refine HX.out.mono ?_); rintro e u1 ⟨rfl, rfl⟩)
    | (go_at_call 21; (with_reducible refine HS.out.mono ?_); rintro e u1 ⟨rfl, rfl⟩))
  go_loopw [7] (fun x wr => ∃ k : Nat, a ≤ k ∧ k ≤ c ∧ x = .int .i64 k ∧ Dev wr s { D with L := lockF D.L a k } ∧ Onl s.S w wr) (fun x _ => c - (intOf x).toNat)
  case atStart => exact ⟨a, Nat.le_refl _, hac, rfl, by rw [lockF_self]; exact HD.out, Onl.refl _ _⟩
  case round =>
    obtain ⟨k, hk1, hk2, rfl, hd, ho⟩ := hrel
    have h5 : wr.cell? ⟨s.b, 5, none⟩ = some (.slice (some ⟨s.o2, 0, none⟩) n s.k2) := by have := hd.c5; rwa [show ({ D with L := lockF D.L a k } : Dv).L.length = n by rw [← HN.out]; exact lockF_length _ _ _] at this
    by_cases hlt : k < c
    · have e1 : (k : Int) < c := by omega
      have e2 : (k : Int) < n := by omega
      have HLE : Hid (k < (fbools (lockF D.L a k) ++ s.z2).length) := Lib.hid (by rw [List.length_append, fbools_length, lockF_length, HN.out]; omega)
      have HK : Hid (k < (lockF D.L a k).length) := Lib.hid (by rw [lockF_length, HN.out]; omega)
      have RL : Hid (Row wr s.o2 4 (fbools (lockF D.L a k) ++ s.z2)) := Lib.hid hd.l
      have H0 := Lib.hid hd
      have HO := Lib.hid ho
      clear hd ho
      go_wp2_with ((with_reducible refine RL.out.wpStore1K k 4 (.bool true) finfo_bool HLE.out (bool_cells _) (bool_one _) ?_ ?_); rfl; intro w1 r1 o1 s1; have R1 := Lib.hid r1; have O1 := Lib.hid o1; clear r1 o1 s1)
      go_roundw
      case rel =>
        have hd := H0.out.setL k true HK.out R1.out O1.out
        rw [show (({ D with L := lockF D.L a k } : Dv).L.set k true) = lockF D.L a (k + 1) from lockF_step _ _ _ hk1] at hd
        exact ⟨k + 1, by omega, by omega, by go_num, hd, HO.out.trans (Onl.of_only O1.out s.o2_mem)⟩
      case measure => simp [intOf]; omega
    · have ek : k = c := by omega
      subst ek
      have H0 := Lib.hid hd
      have HO := Lib.hid ho
      clear hd ho
      go_wp2
      go_ret
      exact ⟨rfl, H0.out, HO.out⟩
theorem lock_bad (s : Sh) (D : Dv) (x y : Int) (w : World) (h : Dev w s D) (hb : x < 0 ∨ y < x ∨ (D.L.length : Int) < y) :
    Calls Try.prog 13 #[.pointer (some ⟨s.b, 0, none⟩), .int .i64 x, .int .i64 y] w fun e w' => e = .returned (.int .i64 2) ∧ w = w' := by
  have HX := Lib.hid (none_any s D w h)
  have HS := Lib.hid (sectors_any s D w h)
  have h2 := h.ok.top
  obtain ⟨n, hn⟩ : ∃ n, D.L.length = n := ⟨_, rfl⟩
  rw [hn] at HS hb
  clear h hn h2
  by_cases h1 : x < 0
  · clear hb
    go_enter Try.func13, Try.ntmps13
    go_wp2_with (first
      | (go_at_call 39; (with_reducible refine HX.out.mono ?_); rintro e u1 ⟨rfl, rfl⟩)
      | (go_at_call 21; (with_reducible refine HS.out.mono ?_); rintro e u1 ⟨rfl, rfl⟩))
    go_ret
    exact ⟨rfl, rfl⟩
  · by_cases h2 : y < x
    · clear hb
      go_enter Try.func13, Try.ntmps13
      go_wp2_with (first
        | (go_at_call 39; (with_reducible refine HX.out.mono ?_); rintro e u1 ⟨rfl, rfl⟩)
        | (go_at_call 21; (with_reducible refine HS.out.mono ?_); rintro e u1 ⟨rfl, rfl⟩))
      go_ret
      exact ⟨rfl, rfl⟩
    · have h3 : (n : Int) < y := by omega
      clear hb
      go_enter Try.func13, Try.ntmps13
      go_wp2_with (first
        | (go_at_call 39; (with_reducible refine HX.out.mono ?_); rintro e u1 ⟨rfl, rfl⟩)
        | (go_at_call 21; (with_reducible refine HS.out.mono ?_); rintro e u1 ⟨rfl, rfl⟩))
      go_ret
      exact ⟨rfl, rfl⟩
theorem lock_any (s : Sh) (D : Dv) (x y : Int) (w : World) (h : Dev w s D) :
    Calls Try.prog 13 #[.pointer (some ⟨s.b, 0, none⟩), .int .i64 x, .int .i64 y] w fun e w' => e = .returned (.int .i64 (lockE D.L.length x y)) ∧ Dev w' s (D.lock x y) ∧ Onl s.S w w' := by
  by_cases hb : x < 0 ∨ y < x ∨ (D.L.length : Int) < y
  · refine (lock_bad s D x y w h hb).mono ?_
    rintro e w' ⟨rfl, rfl⟩
    exact ⟨by rw [lockE, if_pos hb], by rw [Dv.lock, if_pos hb]; exact h, Onl.refl _ _⟩
  · obtain ⟨a, rfl⟩ : ∃ a : Nat, x = a := ⟨x.toNat, by omega⟩
    obtain ⟨c, rfl⟩ : ∃ c : Nat, y = c := ⟨y.toNat, by omega⟩
    refine (lock_loop s D a c w h (by omega) (by omega)).mono ?_
    rintro e w' ⟨rfl, h1, h2⟩
    exact ⟨by rw [lockE, if_neg hb], by rw [Dv.lock, if_neg hb]; exact h1, h2⟩
end Go.Proofs.Ytgdfcfbccjdecaa
