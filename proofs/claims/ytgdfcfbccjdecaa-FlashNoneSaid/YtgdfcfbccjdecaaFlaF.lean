/- Contracts of flash: Rot. -/
import Derived.Test.YtgdfcfbccjdecaaFlaE
namespace Go.Proofs.Ytgdfcfbccjdecaa
open Go.RowKit FlaMath
set_option linter.unusedVariables false
set_option maxRecDepth 100000

/-- A list that lies in another block than those of S. -/
def OffS (w : World) (S : List Nat) (a : Option Addr) (xs : List Value) : Prop :=
  0 < xs.length → ∃ bl off, a = some ⟨bl, off, none⟩ ∧ bl < w.heap.size ∧ bl ∉ S ∧ ∀ j u, xs[j]? = some u → w.cell? ⟨bl, off + j, none⟩ = some u
theorem OffS.onl {w w' : World} {S : List Nat} {a : Option Addr} {xs : List Value} (h : OffS w S a xs) (ho : Onl S w w') : OffS w' S a xs := by
  intro hx
  obtain ⟨bl, off, e, hl, hne, hc⟩ := h hx
  refine ⟨bl, off, e, Nat.lt_of_lt_of_le hl ho.size, hne, fun j u hj => ?_⟩
  rw [World.cell?_of_block (a := ⟨bl, off + j, none⟩) (ho.2.2.2.2 bl hl hne)]
  exact hc j u hj
theorem Lies.offS {w : World} {B : Nat} {S : List Nat} {a : Option Addr} {xs : List Value} (h : Lies w B a xs) (hS : ∀ k ∈ S, B ≤ k) (hB : B ≤ w.heap.size) : OffS w S a xs := by
  intro hx
  obtain ⟨bl, off, e, hl, hc⟩ := h hx
  exact ⟨bl, off, e, by omega, fun hm => by have := hS bl hm; omega, hc⟩
theorem OffS.nil (w : World) (S : List Nat) (a : Option Addr) : OffS w S a [] := fun h => absurd h (by simp)

theorem rot_nil (x : Int) (av : Value) (w : World) : Calls Try.prog 20 #[.pointer none, .int .i64 x, av] w fun e w' => e = .returned (.int .i64 1) ∧ w = w' := by
  have HX := Lib.hid (none_nil w)
  go_enter Try.func20, Try.ntmps20
  go_wp2_with (go_at_call 39; (with_reducible refine HX.out.mono ?_); rintro e u1 ⟨rfl, rfl⟩)
  go_ret
  exact ⟨rfl, rfl⟩
theorem fla_u8_xor (x y : UInt8) : bits .xor .u8 (x.toNat : Int) (y.toNat : Int) = ((x ^^^ y).toNat : Int) := by rw [u8_xor_nat _ _ x.toNat_lt y.toNat_lt, UInt8.toNat_xor]
theorem u8_and (x y : UInt8) : bits .and .u8 (x.toNat : Int) (y.toNat : Int) = ((x &&& y).toNat : Int) := by rw [u8_and_nat _ _ x.toNat_lt y.toNat_lt, UInt8.toNat_and]
theorem u8_or (x y : UInt8) : bits .or .u8 (x.toNat : Int) (y.toNat : Int) = ((x ||| y).toNat : Int) := by rw [u8_or_nat _ _ x.toNat_lt y.toNat_lt, UInt8.toNat_or]
set_option maxHeartbeats 1000000 in
theorem rot_loop (s : Sh) (D : Dv) (a : Nat) (p : Option Addr) (cap : Nat) (l : List UInt8) (w : World) (h : Dev w s D) (ha : a + l.length ≤ D.C.length) (hr : OffS w s.S p (bytes l)) :
    Calls Try.prog 20 #[.pointer (some ⟨s.b, 0, none⟩), .int .i64 (a : Int), .slice p l.length cap] w fun e w' => e = .returned (.int .i64 0) ∧ Dev w' s { D with C := rotF D.C a l } ∧ Onl s.S w w' := by
  have HX := Lib.hid (none_any s D w h)
  have hc := h.ok.cells
  have ht := h.ok.top
  have hb : bey D.C.length a l.length = false := decide_eq_false (by omega)
  have HY : Hid (Calls Try.prog 27 #[.pointer (some ⟨s.b, 0, none⟩), .int .i64 (a : Int), .int .i64 (l.length : Int)] w fun e w' => e = .returned (.bool false) ∧ w = w') := Lib.hid (by
    have := beyond_any s D a l.length w h (by omega); rwa [hb] at this)
  have HD := Lib.hid h
  have HRR := Lib.hid hr
  obtain ⟨m, hm⟩ : ∃ m, D.C.length = m := ⟨_, rfl⟩
  obtain ⟨n, hn⟩ : ∃ n, l.length = n := ⟨_, rfl⟩
  rw [hm] at ha hc
  rw [hn] at ha HY ⊢
  have HM := Lib.hid hm
  have HN := Lib.hid hn
  have a1 : (a : Int) + n ≤ m := by omega
  have a2 : (m : Int) ≤ 32768 := by omega
  clear h hr hb hc ht hm hn
  go_enter Try.func20, Try.ntmps20
  go_wp2_with (first
    | (go_at_call 39; (with_reducible refine HX.out.mono ?_); rintro e u1 ⟨rfl, rfl⟩)
    | (go_at_call 27; (with_reducible refine HY.out.mono ?_); rintro e u1 ⟨rfl, rfl⟩))
  go_loopw [18] (fun x wr => ∃ k : Nat, k ≤ n ∧ x = .int .i64 k ∧ Dev wr s { D with C := rotF D.C a (l.take k) } ∧ Onl s.S w wr) (fun x _ => n - (intOf x).toNat)
  case atStart => exact ⟨0, Nat.zero_le _, rfl, by rw [List.take_zero, rotF_nil]; exact HD.out, Onl.refl _ _⟩
  case round =>
    obtain ⟨k, hk2, rfl, hd, ho⟩ := hrel
    have h4 : wr.cell? ⟨s.b, 4, none⟩ = some (.slice (some ⟨s.o1, 0, none⟩) m s.k1) := by have := hd.c4; rwa [show ({ D with C := rotF D.C a (l.take k) } : Dv).C.length = m by rw [← HM.out]; exact rotF_length _ _ _] at this
    by_cases hlt : k < n
    · have e2 : (a : Int) + k < m := by omega
      have e3 : 0 ≤ (a : Int) + k := by omega
      have e4 : ((a : Int) + k).toNat = a + k := by omega
      have ew : wrap64 ((a : Int) + k) = (a : Int) + k := by unfold wrap64; omega
      have HEW := Lib.hid ew
      clear ew
      have hkl : k < l.length := by rw [HN.out]; exact hlt
      have hak : a + k < D.C.length := by rw [HM.out]; omega
      obtain ⟨bl, off, rfl, hbl, hne, hcl⟩ := HRR.out.onl ho (by rw [bytes_length]; omega)
      have hz := hcl k _ (bytes_get l k hkl)
      have hy : wr.cell? ⟨s.o1, a + k, none⟩ = some (.int .u8 (D.C[a + k].toNat : Int)) := by
        have := hd.cc (a + k) (by show _ < (rotF _ _ _).length; rw [rotF_length]; exact hak)
        rwa [show ({ D with C := rotF D.C a (l.take k) } : Dv).C[a + k]'(by show _ < (rotF _ _ _).length; rw [rotF_length]; exact hak) = D.C[a + k] from rotF_at D.C a (l.take k) (a + k) hak (by rw [List.length_take]; omega)] at this
      have HST : Hid ((rotF D.C a (l.take k)).set (a + k) (D.C[a + k] ^^^ l[k]) = rotF D.C a (l.take (k + 1))) := Lib.hid (rotF_step D.C a k l hkl hak)
      obtain ⟨y, hye⟩ : ∃ y, D.C[a + k] = y := ⟨_, rfl⟩
      obtain ⟨z, hze⟩ : ∃ z, l[k] = z := ⟨_, rfl⟩
      rw [hye] at hy HST
      rw [hze] at hz HST
      have hxor := fla_u8_xor y z
      have e1 : (k : Int) < n := by omega
      have RL : Hid (Row wr s.o1 5 (bytes (rotF D.C a (l.take k)) ++ s.z1)) := Lib.hid hd.c
      have HLE : Hid (a + k < (bytes (rotF D.C a (l.take k)) ++ s.z1).length) := Lib.hid (by rw [List.length_append, bytes_length, rotF_length]; omega)
      have HK : Hid (a + k < (rotF D.C a (l.take k)).length) := Lib.hid (by rw [rotF_length]; exact hak)
      have H0 := Lib.hid hd
      have HO := Lib.hid ho
      have ew := HEW.out
      clear hd ho hcl hkl hak hye hze hne hbl
      go_wp2_with ((with_reducible refine RL.out.wpStore1K (a + k) 5 (.int .u8 ((y ^^^ z).toNat : Int)) finfo_byte HLE.out (int_cells _ _) (int_one _ _) ?_ ?_); rfl; intro w1 r1 o1 s1; have R1 := Lib.hid r1; have O1 := Lib.hid o1; clear r1 o1 s1)
      go_roundw
      case rel =>
        have hd := H0.out.setC (a + k) (y ^^^ z) HK.out R1.out O1.out
        rw [show (({ D with C := rotF D.C a (l.take k) } : Dv).C.set (a + k) (y ^^^ z)) = rotF D.C a (l.take (k + 1)) from HST.out] at hd
        exact ⟨k + 1, by omega, by go_num, hd, HO.out.trans (Onl.of_only O1.out s.o1_mem)⟩
      case measure => simp [intOf]; omega
    · have ek : k = n := by omega
      subst ek
      have H0 : Hid (Dev wr s { D with C := rotF D.C a l }) := Lib.hid (by rwa [List.take_of_length_le (by rw [HN.out]; omega)] at hd)
      have HO := Lib.hid ho
      clear hd ho
      go_wp2
      go_ret
      exact ⟨rfl, H0.out, HO.out⟩
theorem fla_rot_any (s : Sh) (D : Dv) (x : Int) (p : Option Addr) (cap : Nat) (l : List UInt8) (w : World) (h : Dev w s D) (hx : x < 9223372036854775808) (hr : OffS w s.S p (bytes l)) :
    Calls Try.prog 20 #[.pointer (some ⟨s.b, 0, none⟩), .int .i64 x, .slice p l.length cap] w fun e w' => e = .returned (.int .i64 (rotE D x l)) ∧ Dev w' s (D.rot x l) ∧ Onl s.S w w' := by
  cases hb : bey D.C.length x l.length with
  | true =>
    have hE : rotE D x l = 2 := by simp [rotE, hb]
    have hD : D.rot x l = D := by rw [Dv.rot, hE]; rfl
    have HX := Lib.hid (none_any s D w h)
    have HY : Hid (Calls Try.prog 27 #[.pointer (some ⟨s.b, 0, none⟩), .int .i64 x, .int .i64 (l.length : Int)] w fun e w' => e = .returned (.bool true) ∧ w = w') := Lib.hid (by
      have := beyond_any s D x l.length w h (by omega); rwa [hb] at this)
    rw [hE, hD]
    have HD := Lib.hid h
    clear h hE hD hb hr hx
    go_enter Try.func20, Try.ntmps20
    go_wp2_with (first
      | (go_at_call 39; (with_reducible refine HX.out.mono ?_); rintro e u1 ⟨rfl, rfl⟩)
      | (go_at_call 27; (with_reducible refine HY.out.mono ?_); rintro e u1 ⟨rfl, rfl⟩))
    go_ret
    exact ⟨rfl, HD.out, Onl.refl _ _⟩
  | false =>
    have hb2 := of_decide_eq_false hb
    have hE : rotE D x l = 0 := by simp [rotE, hb]
    obtain ⟨a, rfl⟩ : ∃ a : Nat, x = a := ⟨x.toNat, by omega⟩
    refine (rot_loop s D a p cap l w h (by omega) hr).mono ?_
    rintro e w' ⟨rfl, h1, h2⟩
    refine ⟨by rw [hE], ?_, h2⟩
    rw [Dv.rot, if_pos hE]; exact h1
end Go.Proofs.Ytgdfcfbccjdecaa
