/- A flash device in memory; those of its functions that only read. -/
import Derived.Test.YtgdfcfbccjdecaaSlice
import Derived.Test.YtgdfcfbccjdecaaFlaMath
namespace Go.Proofs.Ytgdfcfbccjdecaa
open Go.RowKit FlaMath
set_option linter.unusedVariables false
set_option maxRecDepth 100000

/-- Of what was there nothing has turned but the blocks of S. -/
def Onl (S : List Nat) (w w' : World) : Prop := w'.os = w.os ∧ w'.tape = w.tape ∧ w'.output = w.output ∧ w.heap.size ≤ w'.heap.size ∧ ∀ k, k < w.heap.size → k ∉ S → w'.heap[k]? = w.heap[k]?
theorem Onl.refl (S : List Nat) (w : World) : Onl S w w := ⟨rfl, rfl, rfl, Nat.le_refl _, fun _ _ _ => rfl⟩
theorem Onl.size {S : List Nat} {w w' : World} (h : Onl S w w') : w.heap.size ≤ w'.heap.size := h.2.2.2.1
theorem Onl.trans {S : List Nat} {a b c : World} (h : Onl S a b) (k : Onl S b c) : Onl S a c :=
  ⟨k.1.trans h.1, k.2.1.trans h.2.1, k.2.2.1.trans h.2.2.1, Nat.le_trans h.size k.size, fun j hj hs => (k.2.2.2.2 j (Nat.lt_of_lt_of_le hj h.size) hs).trans (h.2.2.2.2 j hj hs)⟩
theorem Onl.of_below {S : List Nat} {w w' : World} (h : Below w.heap.size w w') : Onl S w w' := ⟨h.os, h.tape, h.output, h.size, fun k hk _ => h.block k hk⟩
theorem Onl.of_only {S : List Nat} {g : Nat} {w w' : World} (h : Only g w w') (hg : g ∈ S) : Onl S w w' := ⟨h.1, h.2.1, h.2.2.1, h.2.2.2.1, fun k hk hs => h.2.2.2.2 k hk fun e => hs (e ▸ hg)⟩
theorem Onl.step {S : List Nat} {a b c : World} (h : Onl S a b) (k : Below b.heap.size b c) : Onl S a c := h.trans (Onl.of_below k)
theorem Onl.only {S : List Nat} {g : Nat} {a b c : World} (h : Onl S a b) (k : Only g b c) (hg : g ∈ S ∨ a.heap.size ≤ g) : Onl S a c :=
  ⟨k.1.trans h.1, k.2.1.trans h.2.1, k.2.2.1.trans h.2.2.1, Nat.le_trans h.size k.size, fun j hj hs => (k.2.2.2.2 j (Nat.lt_of_lt_of_le hj h.size) (fun e => by
    rcases hg with hg | hg
    · exact hs (e ▸ hg)
    · omega)).trans (h.2.2.2.2 j hj hs)⟩
theorem Onl.below {S : List Nat} {B : Nat} {w w' : World} (h : Onl S w w') (hg : ∀ k ∈ S, B ≤ k) (hB : B ≤ w.heap.size) : Below B w w' :=
  ⟨h.1, h.2.1, h.2.2.1, h.size, fun k hk => h.2.2.2.2 k (by omega) fun hm => by have := hg k hm; omega⟩
theorem Onl.mono {S T : List Nat} {w w' : World} (h : Onl S w w') (hs : ∀ k ∈ S, k ∈ T) : Onl T w w' := ⟨h.1, h.2.1, h.2.2.1, h.size, fun k hk hn => h.2.2.2.2 k hk fun hm => hn (hs k hm)⟩
theorem Row.onl {w w' : World} {g : Nat} {S : List Nat} {t : TypeId} {l : List Value} (h : Row w g t l) (ho : Onl S w w') (hne : g ∉ S) : Row w' g t l := (ho.2.2.2.2 g h.lt hne).trans h

def fbools (l : List Bool) : List Value := l.map Value.bool
theorem fbools_length (l : List Bool) : (fbools l).length = l.length := by simp [fbools]
theorem fbools_get (l : List Bool) (i : Nat) (h : i < l.length) : (fbools l)[i]? = some (.bool l[i]) := by simp [fbools, h]
theorem fbools_set (l : List Bool) (i : Nat) (b : Bool) : (fbools l).set i (.bool b) = fbools (l.set i b) := by simp [fbools, List.map_set]

/-- Where a device lies: its own block, and its three lists' blocks, rooms and cells behind. -/
structure Sh where
  b : Nat
  o1 : Nat
  k1 : Nat
  z1 : List Value
  o2 : Nat
  k2 : Nat
  z2 : List Value
  o3 : Nat
  k3 : Nat
  z3 : List Value
def Sh.S (s : Sh) : List Nat := [s.b, s.o1, s.o2, s.o3]
def devL (s : Sh) (D : Dv) : List Value := [.int .i64 D.fb, .int .u8 (D.fm.toNat : Int), .bool D.lit, .int .i64 D.left, .slice (some ⟨s.o1, 0, none⟩) D.C.length s.k1, .slice (some ⟨s.o2, 0, none⟩) D.L.length s.k2,
  .slice (some ⟨s.o3, 0, none⟩) D.E.length s.k3, .int .i64 D.ops, .bool D.dn]
theorem devL_length (s : Sh) (D : Dv) : (devL s D).length = 9 := rfl
structure Dev (w : World) (s : Sh) (D : Dv) : Prop where
  row : Row w s.b 58 (devL s D)
  c : Row w s.o1 5 (bytes D.C ++ s.z1)
  l : Row w s.o2 4 (fbools D.L ++ s.z2)
  e : Row w s.o3 3 (ints D.E ++ s.z3)
  ne : s.S.Nodup
  room : D.C.length ≤ s.k1
  cap : s.k1 ≤ 9223372036854775807
  ok : D.Ok
theorem Dev.step {w w' : World} {s : Sh} {D : Dv} (h : Dev w s D) (hb : Below w.heap.size w w') : Dev w' s D := ⟨h.row.step hb, h.c.step hb, h.l.step hb, h.e.step hb, h.ne, h.room, h.cap, h.ok⟩
theorem Dev.onl {w w' : World} {s : Sh} {D : Dv} {S : List Nat} (h : Dev w s D) (ho : Onl S w w') (hs : ∀ k ∈ s.S, k ∉ S) : Dev w' s D :=
  ⟨h.row.onl ho (hs _ (by simp [Sh.S])), h.c.onl ho (hs _ (by simp [Sh.S])), h.l.onl ho (hs _ (by simp [Sh.S])), h.e.onl ho (hs _ (by simp [Sh.S])), h.ne, h.room, h.cap, h.ok⟩
theorem Dev.lt {w : World} {s : Sh} {D : Dv} (h : Dev w s D) : ∀ k ∈ s.S, k < w.heap.size := by
  intro k hk
  simp [Sh.S] at hk
  rcases hk with rfl | rfl | rfl | rfl
  · exact h.row.lt
  · exact h.c.lt
  · exact h.l.lt
  · exact h.e.lt
section
variable {w : World} {s : Sh} {D : Dv} (h : Dev w s D)
include h
theorem Dev.c0 : w.cell? ⟨s.b, 0, none⟩ = some (.int .i64 D.fb) := h.row.cell 0
theorem Dev.c1 : w.cell? ⟨s.b, 1, none⟩ = some (.int .u8 (D.fm.toNat : Int)) := h.row.cell 1
theorem Dev.c2 : w.cell? ⟨s.b, 2, none⟩ = some (.bool D.lit) := h.row.cell 2
theorem Dev.c3 : w.cell? ⟨s.b, 3, none⟩ = some (.int .i64 D.left) := h.row.cell 3
theorem Dev.c4 : w.cell? ⟨s.b, 4, none⟩ = some (.slice (some ⟨s.o1, 0, none⟩) D.C.length s.k1) := h.row.cell 4
theorem Dev.c5 : w.cell? ⟨s.b, 5, none⟩ = some (.slice (some ⟨s.o2, 0, none⟩) D.L.length s.k2) := h.row.cell 5
theorem Dev.c6 : w.cell? ⟨s.b, 6, none⟩ = some (.slice (some ⟨s.o3, 0, none⟩) D.E.length s.k3) := h.row.cell 6
theorem Dev.c7 : w.cell? ⟨s.b, 7, none⟩ = some (.int .i64 D.ops) := h.row.cell 7
theorem Dev.c8 : w.cell? ⟨s.b, 8, none⟩ = some (.bool D.dn) := h.row.cell 8
theorem Dev.cc (i : Nat) (hi : i < D.C.length) : w.cell? ⟨s.o1, i, none⟩ = some (.int .u8 (D.C[i].toNat : Int)) := by
  rw [h.c.cell, List.getElem?_append_left (by rw [bytes_length]; exact hi)]; exact bytes_get _ _ hi
theorem Dev.cl (i : Nat) (hi : i < D.L.length) : w.cell? ⟨s.o2, i, none⟩ = some (.bool D.L[i]) := by
  rw [h.l.cell, List.getElem?_append_left (by rw [fbools_length]; exact hi)]; exact fbools_get _ _ hi
theorem Dev.ce (i : Nat) (hi : i < D.E.length) : w.cell? ⟨s.o3, i, none⟩ = some (.int .i64 D.E[i]) := by
  rw [h.e.cell, List.getElem?_append_left (by rw [ints_length]; exact hi)]; exact ints_get _ _ hi
end

theorem sectors_nil (w : World) : Calls Try.prog 21 #[.pointer none] w fun e w' => e = .returned (.int .i64 0) ∧ w = w' := by
  go_enter Try.func21, Try.ntmps21
  go_wp2
  go_ret
  exact ⟨rfl, rfl⟩
theorem sectors_any (s : Sh) (D : Dv) (w : World) (h : Dev w s D) : Calls Try.prog 21 #[.pointer (some ⟨s.b, 0, none⟩)] w fun e w' => e = .returned (.int .i64 (D.L.length : Int)) ∧ w = w' := by
  have h5 := h.c5
  go_enter Try.func21, Try.ntmps21
  go_wp2
  go_ret
  exact ⟨rfl, rfl⟩
theorem none_nil (w : World) : Calls Try.prog 39 #[.pointer none] w fun e w' => e = .returned (.bool true) ∧ w = w' := by
  have HX := Lib.hid (sectors_nil w)
  go_enter Try.func39, Try.ntmps39
  go_wp2_with (go_at_call 21; (with_reducible refine HX.out.mono ?_); rintro e u1 ⟨rfl, rfl⟩)
  go_ret
  exact ⟨rfl, rfl⟩
theorem none_any (s : Sh) (D : Dv) (w : World) (h : Dev w s D) : Calls Try.prog 39 #[.pointer (some ⟨s.b, 0, none⟩)] w fun e w' => e = .returned (.bool false) ∧ w = w' := by
  have HX := Lib.hid (sectors_any s D w h)
  have h1 := h.ok.one
  have hb : ((D.L.length : Int) == 0) = false := beq_eq_false_iff_ne.2 (by omega)
  clear h h1
  go_enter Try.func39, Try.ntmps39
  go_wp2_with (go_at_call 21; (with_reducible refine HX.out.mono ?_); rintro e u1 ⟨rfl, rfl⟩)
  go_ret
  exact ⟨rfl, rfl⟩
theorem idle_nil (w : World) : Calls Try.prog 26 #[.pointer none] w fun e w' => e = .returned (.int .i64 1) ∧ w = w' := by
  have HX := Lib.hid (none_nil w)
  go_enter Try.func26, Try.ntmps26
  go_wp2_with (go_at_call 39; (with_reducible refine HX.out.mono ?_); rintro e u1 ⟨rfl, rfl⟩)
  go_ret
  exact ⟨rfl, rfl⟩
theorem idle_any (s : Sh) (D : Dv) (w : World) (h : Dev w s D) : Calls Try.prog 26 #[.pointer (some ⟨s.b, 0, none⟩)] w fun e w' => e = .returned (.int .i64 (idl D.dn)) ∧ w = w' := by
  have HX := Lib.hid (none_any s D w h)
  have h8 := h.c8
  clear h
  obtain ⟨d, hd⟩ : ∃ d, D.dn = d := ⟨_, rfl⟩
  rw [hd] at h8 ⊢
  clear hd
  cases d with
  | false =>
    go_enter Try.func26, Try.ntmps26
    go_wp2_with (go_at_call 39; (with_reducible refine HX.out.mono ?_); rintro e u1 ⟨rfl, rfl⟩)
    go_ret
    exact ⟨rfl, rfl⟩
  | true =>
    go_enter Try.func26, Try.ntmps26
    go_wp2_with (go_at_call 39; (with_reducible refine HX.out.mono ?_); rintro e u1 ⟨rfl, rfl⟩)
    go_ret
    exact ⟨rfl, rfl⟩
theorem down_nil (w : World) : Calls Try.prog 19 #[.pointer none] w fun e w' => e = .returned (.bool true) ∧ w = w' := by
  have HX := Lib.hid (idle_nil w)
  go_enter Try.func19, Try.ntmps19
  go_wp2_with (go_at_call 26; (with_reducible refine HX.out.mono ?_); rintro e u1 ⟨rfl, rfl⟩)
  go_ret
  exact ⟨rfl, rfl⟩
theorem down_any (s : Sh) (D : Dv) (w : World) (h : Dev w s D) : Calls Try.prog 19 #[.pointer (some ⟨s.b, 0, none⟩)] w fun e w' => e = .returned (.bool D.dn) ∧ w = w' := by
  have HX := Lib.hid (idle_any s D w h)
  clear h
  obtain ⟨d, hd⟩ : ∃ d, D.dn = d := ⟨_, rfl⟩
  rw [hd] at HX ⊢
  clear hd
  cases d with
  | false =>
    have HX2 := Lib.hid (show Calls _ _ _ _ fun e w' => e = .returned (.int .i64 0) ∧ w = w' from HX.out)
    go_enter Try.func19, Try.ntmps19
    go_wp2_with (go_at_call 26; (with_reducible refine HX2.out.mono ?_); rintro e u1 ⟨rfl, rfl⟩)
    go_ret
    exact ⟨rfl, rfl⟩
  | true =>
    have HX2 := Lib.hid (show Calls _ _ _ _ fun e w' => e = .returned (.int .i64 5) ∧ w = w' from HX.out)
    go_enter Try.func19, Try.ntmps19
    go_wp2_with (go_at_call 26; (with_reducible refine HX2.out.mono ?_); rintro e u1 ⟨rfl, rfl⟩)
    go_ret
    exact ⟨rfl, rfl⟩
theorem fops_nil (w : World) : Calls Try.prog 22 #[.pointer none] w fun e w' => e = .returned (.int .i64 0) ∧ w = w' := by
  go_enter Try.func22, Try.ntmps22
  go_wp2
  go_ret
  exact ⟨rfl, rfl⟩
theorem fops_any (s : Sh) (D : Dv) (w : World) (h : Dev w s D) : Calls Try.prog 22 #[.pointer (some ⟨s.b, 0, none⟩)] w fun e w' => e = .returned (.int .i64 D.ops) ∧ w = w' := by
  have h5 := h.c7
  go_enter Try.func22, Try.ntmps22
  go_wp2
  go_ret
  exact ⟨rfl, rfl⟩
theorem has_nil (i : Int) (w : World) : Calls Try.prog 37 #[.pointer none, .int .i64 i] w fun e w' => e = .returned (.bool false) ∧ w = w' := by
  have HX := Lib.hid (sectors_nil w)
  by_cases h0 : 0 ≤ i
  · have h1 : ¬ i < 0 := by omega
    go_enter Try.func37, Try.ntmps37
    go_wp2_with (go_at_call 21; (with_reducible refine HX.out.mono ?_); rintro e u1 ⟨rfl, rfl⟩)
    go_ret
    exact ⟨by first | rfl | exact ret_bool (decide_eq_false (by omega)), rfl⟩
  · go_enter Try.func37, Try.ntmps37
    go_wp2_with (go_at_call 21; (with_reducible refine HX.out.mono ?_); rintro e u1 ⟨rfl, rfl⟩)
    go_ret
    exact ⟨by first | rfl | exact ret_bool (decide_eq_false (by omega)), rfl⟩
theorem has_any (s : Sh) (D : Dv) (i : Int) (w : World) (h : Dev w s D) :
    Calls Try.prog 37 #[.pointer (some ⟨s.b, 0, none⟩), .int .i64 i] w fun e w' => e = .returned (.bool (decide (0 ≤ i ∧ i < D.L.length))) ∧ w = w' := by
  have HX := Lib.hid (sectors_any s D w h)
  clear h
  obtain ⟨n, hn⟩ : ∃ n, D.L.length = n := ⟨_, rfl⟩
  rw [hn] at HX ⊢
  clear hn
  by_cases h0 : 0 ≤ i
  · by_cases h1 : i < (n : Int)
    · have HD := Lib.hid (decide_eq_true (And.intro h0 h1))
      go_enter Try.func37, Try.ntmps37
      go_wp2_with (go_at_call 21; (with_reducible refine HX.out.mono ?_); rintro e u1 ⟨rfl, rfl⟩)
      go_ret
      exact ⟨ret_bool (by first | (simp; done) | (simp; omega)), rfl⟩
    · have HD : Hid (decide (0 ≤ i ∧ i < (n : Int)) = false) := Lib.hid (decide_eq_false (by omega))
      go_enter Try.func37, Try.ntmps37
      go_wp2_with (go_at_call 21; (with_reducible refine HX.out.mono ?_); rintro e u1 ⟨rfl, rfl⟩)
      go_ret
      exact ⟨ret_bool (by first | (simp; done) | (simp; omega)), rfl⟩
  · have HD : Hid (decide (0 ≤ i ∧ i < (n : Int)) = false) := Lib.hid (decide_eq_false (by omega))
    go_enter Try.func37, Try.ntmps37
    go_wp2_with (go_at_call 21; (with_reducible refine HX.out.mono ?_); rintro e u1 ⟨rfl, rfl⟩)
    go_ret
    exact ⟨ret_bool (by first | (simp; done) | (simp; omega)), rfl⟩
theorem beyond_any (s : Sh) (D : Dv) (x y : Int) (w : World) (h : Dev w s D) (hx : x < 9223372036854775808) :
    Calls Try.prog 27 #[.pointer (some ⟨s.b, 0, none⟩), .int .i64 x, .int .i64 y] w fun e w' => e = .returned (.bool (bey D.C.length x y)) ∧ w = w' := by
  have h4 := h.c4
  have hn : D.C.length ≤ 32768 := by have := h.ok.cells; have := h.ok.top; omega
  clear h
  obtain ⟨n, hn1⟩ : ∃ n, D.C.length = n := ⟨_, rfl⟩
  rw [hn1] at h4 hn ⊢
  clear hn1
  by_cases h0 : x < 0
  · have HD : Hid (bey n x y = true) := Lib.hid (decide_eq_true (Or.inl h0))
    go_enter Try.func27, Try.ntmps27
    go_wp2
    go_ret
    exact ⟨ret_bool HD.out.symm, rfl⟩
  · by_cases h1 : y < 0
    · have HD : Hid (bey n x y = true) := Lib.hid (decide_eq_true (Or.inr (Or.inl h1)))
      go_enter Try.func27, Try.ntmps27
      go_wp2
      go_ret
      exact ⟨ret_bool HD.out.symm, rfl⟩
    · have hw : wrap64 ((n : Int) - x) = (n : Int) - x := by unfold wrap64; omega
      by_cases h2 : (n : Int) - x < y
      · have HD : Hid (bey n x y = true) := Lib.hid (decide_eq_true (Or.inr (Or.inr h2)))
        clear hn hx
        go_enter Try.func27, Try.ntmps27
        go_wp2
        go_ret
        exact ⟨ret_bool HD.out.symm, rfl⟩
      · have HD : Hid (bey n x y = false) := Lib.hid (decide_eq_false (by omega))
        clear hn hx
        go_enter Try.func27, Try.ntmps27
        go_wp2
        go_ret
        exact ⟨ret_bool HD.out.symm, rfl⟩
end Go.Proofs.Ytgdfcfbccjdecaa
