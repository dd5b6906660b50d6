/- Contracts of solve: those that it calls, told by what their arguments read as; the solver in memory; mark, low, factor, others. -/
import Derived.Test.YtkcnmiaedcenoaaB3
namespace Go.Proofs.Ytkcnmiaedcenoaa
open Go.RowKit GfMath PolyMath RsMath SolMath
set_option linter.unusedVariables false
set_option maxRecDepth 100000

/-- A list, laid by the call, of lists that read as ls. -/
def Pls (ls : List (List Nat)) : Value → World → Prop := fun v w => ∃ blk ts, v = .slice (some ⟨blk, 0, none⟩) ls.length ls.length ∧ Polz w ts ls ∧ Lies w w.heap.size (some ⟨blk, 0, none⟩) (slvs ts)
theorem Pls.monot (ls : List (List Nat)) : Monot (Pls ls) := fun _ _ _ ⟨b, t, h1, h2, h3⟩ hb => ⟨b, t, h1, h2.step hb, h3.step hb⟩
theorem pls_two {w : World} {v1 v2 : Value} {A C : List Nat} {t : TypeId} (hA : By A) (hC : By C) (h1 : Rd A v1 w) (h2 : Rd C v2 w) : Pls [A, C] (.slice (some ⟨w.heap.size, 0, none⟩) 2 2) (w.alloc (.cells #[v1, v2] t)) := by
  obtain ⟨a1, c1, rfl, q1, l1⟩ := h1
  obtain ⟨a2, c2, rfl, q2, l2⟩ := h2
  exact ⟨_, _, rfl, (two_polz hA hC q1 q2 l1 l2).step (alloc_below _ _), Lies.new [.slice a1 A.length c1, .slice a2 C.length c2] w _⟩
theorem pmulV (b : Nat) (v : Value) (ls : List (List Nat)) (w : World) (hf : Fld w b) (h : Pls ls v w) (hn : ls.length ≤ 100) (hl : ∀ l ∈ ls, l.length ≤ 5000) :
    Calls Try.prog 37 #[.pointer (some ⟨b, 0, none⟩), v] w fun e w' => (∃ v, e = .returned v ∧ Reads w' v (pms ls)) ∧ Below w.heap.size w w' := by
  obtain ⟨blk, ts, rfl, h2, h3⟩ := h
  exact pmulz_any b _ _ ts ls w hf h2 hn hl h3
theorem paddV (b : Nat) (v : Value) (ls : List (List Nat)) (w : World) (h : Pls ls v w) (hn : ls.length ≤ 100) (hl : ∀ l ∈ ls, l.length ≤ 5000) :
    Calls Try.prog 36 #[.pointer (some ⟨b, 0, none⟩), v] w fun e w' => (∃ v, e = .returned v ∧ Reads w' v (addl ls)) ∧ Below w.heap.size w w' := by
  obtain ⟨blk, ts, rfl, h2, h3⟩ := h
  exact paddz_any b _ _ ts ls w h2 hn hl h3
theorem evalV (b : Nat) (v : Value) (l : List Nat) (x : Nat) (w : World) (hf : Fld w b) (h : Rd l v w) (hb : By l) (hx : x < 256) (hl : l.length ≤ 5000) :
    Calls Try.prog 47 #[.pointer (some ⟨b, 0, none⟩), v, .int .u8 (x : Int)] w fun e w' => e = .returned (.int .u8 (ev l x : Int)) ∧ Below w.heap.size w w' := by
  obtain ⟨a, c, rfl, _, h⟩ := h
  exact eval_any b a c l x w hf hb hx (by omega) h
theorem deriveV (b : Nat) (v : Value) (l : List Nat) (w : World) (h : Rd l v w) (hb : By l) (hl : l.length ≤ 5000) :
    Calls Try.prog 52 #[.pointer (some ⟨b, 0, none⟩), v] w fun e w' => (∃ v, e = .returned v ∧ Reads w' v (beh (dl l))) ∧ Below w.heap.size w w' := by
  obtain ⟨a, c, rfl, _, h⟩ := h
  exact derive_any b a c l w hb (by omega) h
theorem shiftV (v : Value) (l : List Nat) (n : Int) (w : World) (h : Rd l v w) (hl : l.length ≤ 5000) :
    Calls Try.prog 38 #[v, .int .i64 n] w fun e w' => (∃ v, e = .returned v ∧ Reads w' v (shl l (shn n))) ∧ Below w.heap.size w w' := by
  obtain ⟨a, c, rfl, h0, h⟩ := h
  exact shift_any a c l n w (by omega) h0 h
theorem mulV (b : Nat) (v : Value) (l : List Nat) (w : World) (hf : Fld w b) (h : Rd l v w) (hb : By l) (hl : l.length ≤ 5000) :
    Calls Try.prog 44 #[.pointer (some ⟨b, 0, none⟩), v] w fun e w' => e = .returned (.int .u8 (prod l : Int)) ∧ Below w.heap.size w w' := by
  obtain ⟨a, c, rfl, _, h⟩ := h
  exact mul_any b a c l w hf hb (by omega) h
theorem addV (b : Nat) (v : Value) (l : List Nat) (w : World) (h : Rd l v w) (hb : By l) (hl : l.length ≤ 5000) :
    Calls Try.prog 43 #[.pointer (some ⟨b, 0, none⟩), v] w fun e w' => e = .returned (.int .u8 (sum l : Int)) ∧ Below w.heap.size w w' := by
  obtain ⟨a, c, rfl, _, h⟩ := h
  exact (add_any b a c l w hb (by omega) h).mono fun e w' ⟨h1, h2⟩ => ⟨h1, h2 ▸ Below.refl _ _⟩
theorem divV (b x y : Nat) (w : World) (hf : Fld w b) (hx : x < 256) (hy : y < 256) :
    Calls Try.prog 35 #[.pointer (some ⟨b, 0, none⟩), .int .u8 (x : Int), .int .u8 (y : Int)] w fun e w' => e = .returned (.tuple #[.int .u8 (gm x (iv y) : Int), .bool (decide (y ≠ 0))]) ∧ Below w.heap.size w w' := by
  by_cases h0 : y = 0
  · subst h0
    refine (div_zero b x w).mono fun e w' ⟨h1, h2⟩ => ⟨?_, h2 ▸ Below.refl _ _⟩
    rw [h1, show iv 0 = 0 from rfl, gm_zero_right]
    rfl
  · refine (div_any b x y w hf hx hy h0).mono fun e w' ⟨h1, h2⟩ => ⟨?_, h2⟩
    rw [h1, decide_eq_true h0]
theorem invV (b x : Nat) (w : World) (hf : Fld w b) (hx : x < 256) :
    Calls Try.prog 53 #[.pointer (some ⟨b, 0, none⟩), .int .u8 (x : Int)] w fun e w' => e = .returned (.tuple #[.int .u8 (iv x : Int), .bool (decide (x ≠ 0))]) ∧ Below w.heap.size w w' := by
  by_cases h0 : x = 0
  · subst h0
    exact (inv_zero b w).mono fun e w' ⟨h1, h2⟩ => ⟨h1, h2 ▸ Below.refl _ _⟩
  · refine (inv_any b x w hf hx h0).mono fun e w' ⟨h1, h2⟩ => ⟨?_, h2⟩
    rw [h1, decide_eq_true h0]

/-- The cells of a solver. -/
def solL (b n p g lost : Nat) (V E T : Value) : List Value := [.pointer (some ⟨b, 0, none⟩), .int .i64 (n : Int), .int .i64 (p : Int), .slice (some ⟨g, 0, none⟩) n n, .int .i64 (lost : Int), V, E, T]
def bools (l : List Bool) : List Value := l.map Value.bool
theorem bools_length (l : List Bool) : (bools l).length = l.length := by simp [bools]
theorem bools_get (l : List Bool) (i : Nat) (h : i < l.length) : (bools l)[i]? = some (.bool (gAt l i)) := by simp [bools, gAt, h, List.getD_eq_getElem?_getD]
theorem bools_set (l : List Bool) (i : Nat) (b : Bool) : (bools l).set i (.bool b) = bools (l.set i b) := by simp [bools, List.map_set]
structure Sol (w : World) (s b n p g : Nat) (G : List Bool) (lost : Nat) (V E T : Value) : Prop where
  row : Row w s 61 (solL b n p g lost V E T)
  gone : Row w g 4 (bools G)
  fld : Fld w b
  ne : g ≠ s
  len : G.length = n
  slV : ∃ a n c, V = .slice a n c
  slE : ∃ a n c, E = .slice a n c
  slT : ∃ a n c, T = .slice a n c
theorem Sol.step {w w' : World} {s b n p g : Nat} {G : List Bool} {lost : Nat} {V E T : Value} (h : Sol w s b n p g G lost V E T) (hb : Below w.heap.size w w') : Sol w' s b n p g G lost V E T :=
  ⟨h.row.step hb, h.gone.step hb, h.fld.step hb, h.ne, h.len, h.slV, h.slE, h.slT⟩
section
variable {w : World} {s b n p g : Nat} {G : List Bool} {lost : Nat} {V E T : Value}
theorem Sol.lt (h : Sol w s b n p g G lost V E T) : s < w.heap.size := h.row.lt
theorem Fld.far {w : World} {b : Nat} (h : Fld w b) (p : Addr) (v : Value) (hp : b ≠ p.block) : Fld (w.setCell p v) b := by
  obtain ⟨P, h1, h2⟩ := h
  exact ⟨P, h1, h2.far p v hp⟩
theorem Sol.c0 (h : Sol w s b n p g G lost V E T) : w.cell? ⟨s, 0, none⟩ = some (.pointer (some ⟨b, 0, none⟩)) := by rw [h.row.cell]; rfl
theorem Sol.c1 (h : Sol w s b n p g G lost V E T) : w.cell? ⟨s, 1, none⟩ = some (.int .i64 (n : Int)) := by rw [h.row.cell]; rfl
theorem Sol.c2 (h : Sol w s b n p g G lost V E T) : w.cell? ⟨s, 2, none⟩ = some (.int .i64 (p : Int)) := by rw [h.row.cell]; rfl
theorem Sol.c3 (h : Sol w s b n p g G lost V E T) : w.cell? ⟨s, 3, none⟩ = some (.slice (some ⟨g, 0, none⟩) n n) := by rw [h.row.cell]; rfl
theorem Sol.c4 (h : Sol w s b n p g G lost V E T) : w.cell? ⟨s, 4, none⟩ = some (.int .i64 (lost : Int)) := by rw [h.row.cell]; rfl
theorem Sol.c5 (h : Sol w s b n p g G lost V E T) : w.cell? ⟨s, 5, none⟩ = some V := by rw [h.row.cell]; rfl
theorem Sol.c6 (h : Sol w s b n p g G lost V E T) : w.cell? ⟨s, 6, none⟩ = some E := by rw [h.row.cell]; rfl
theorem Sol.c7 (h : Sol w s b n p g G lost V E T) : w.cell? ⟨s, 7, none⟩ = some T := by rw [h.row.cell]; rfl
theorem Sol.nou8 (h : Sol w s b n p g G lost V E T) : ∀ x ∈ solL b n p g lost V E T, ∀ z, x ≠ .int .u8 z := by
  intro x hx z
  obtain ⟨_, _, _, rfl⟩ := h.slV
  obtain ⟨_, _, _, rfl⟩ := h.slE
  obtain ⟨_, _, _, rfl⟩ := h.slT
  simp only [solL, List.mem_cons, List.not_mem_nil, or_false] at hx
  rcases hx with rfl | rfl | rfl | rfl | rfl | rfl | rfl | rfl <;> simp
theorem Sol.gc (h : Sol w s b n p g G lost V E T) (i : Nat) (hi : i < n) : w.cell? ⟨g, i, none⟩ = some (.bool (gAt G i)) := by
  rw [h.gone.cell, bools_get _ _ (by rw [h.len]; exact hi)]
end

/-- Bytes don't lie where other things do. -/
theorem lies_apart {w : World} {g B : Nat} {t : TypeId} {xs : List Value} {a : Option Addr} {l : List Nat} (hrow : Row w g t xs) (hno : ∀ x ∈ xs, ∀ z, x ≠ .int .u8 z) (h : Lies w B a (u8s l)) (p : Addr) (hp : p.block = g) (v : Value) : Lies (w.setCell p v) B a (u8s l) := by
  intro h0
  obtain ⟨b, off, rfl, hb, hc⟩ := h h0
  refine ⟨b, off, rfl, hb, fun j u hu => ?_⟩
  have hne : b ≠ g := by
    rintro rfl
    have hx := hc j u hu
    rw [hrow.cell] at hx
    rw [u8s, List.getElem?_map] at hu
    obtain ⟨z, _, rfl⟩ := Option.map_eq_some_iff.1 hu
    exact hno _ (List.mem_of_getElem? hx) _ rfl
  have e1 : (w.setCell p v).heap[b]? = w.heap[b]? := heap_setCell_other w p b v (by rw [hp]; exact hne)
  rw [← hc j u hu]
  simp only [World.cell?, e1]
theorem bools_nou8 (G : List Bool) : ∀ x ∈ bools G, ∀ z, x ≠ .int .u8 z := by
  intro x hx z
  obtain ⟨b, _, rfl⟩ := List.mem_map.1 hx
  simp
theorem Reads.apart {w : World} {g : Nat} {t : TypeId} {xs : List Value} {v : Value} {l : List Nat} (hrow : Row w g t xs) (hno : ∀ x ∈ xs, ∀ z, x ≠ .int .u8 z) (h : Reads w v l) (p : Addr) (hp : p.block = g) (u : Value) : Reads (w.setCell p u) v l := by
  obtain ⟨a, c, e, h1, h2⟩ := h
  refine ⟨a, c, e, h1, ?_⟩
  rw [World.size_setCell]
  exact lies_apart hrow hno h2 p hp u
theorem Reads.sl {w : World} {v : Value} {l : List Nat} (h : Reads w v l) : ∃ a n c, v = .slice a n c := by
  obtain ⟨a, c, e, _⟩ := h
  exact ⟨_, _, _, e⟩
section
variable {w : World} {s b n p g : Nat} {G : List Bool} {lost : Nat} {V E T : Value}
theorem Sol.putV (h : Sol w s b n p g G lost V E T) (hb : b ≠ s) {v : Value} (hv : ∃ a n c, v = .slice a n c) : Sol (w.setCell ⟨s, 5, none⟩ v) s b n p g G lost v E T :=
  ⟨h.row.set 5 _, h.gone.far _ _ h.ne, h.fld.far _ _ hb, h.ne, h.len, hv, h.slE, h.slT⟩
theorem Sol.putE (h : Sol w s b n p g G lost V E T) (hb : b ≠ s) {v : Value} (hv : ∃ a n c, v = .slice a n c) : Sol (w.setCell ⟨s, 6, none⟩ v) s b n p g G lost V v T :=
  ⟨h.row.set 6 _, h.gone.far _ _ h.ne, h.fld.far _ _ hb, h.ne, h.len, h.slV, hv, h.slT⟩
theorem Sol.putT (h : Sol w s b n p g G lost V E T) (hb : b ≠ s) {v : Value} (hv : ∃ a n c, v = .slice a n c) : Sol (w.setCell ⟨s, 7, none⟩ v) s b n p g G lost V E v :=
  ⟨h.row.set 7 _, h.gone.far _ _ h.ne, h.fld.far _ _ hb, h.ne, h.len, h.slV, h.slE, hv⟩
end

theorem mark_any (s b n p g : Nat) (G : List Bool) (lost : Nat) (V E T : Value) (i : Nat) (w : World) (h : Sol w s b n p g G lost V E T) (hn : n ≤ 255) (hi : i < n) :
    Calls Try.prog 50 #[.pointer (some ⟨s, 0, none⟩), .int .i64 (i : Int)] w fun e w' => e = .returned (.int .u8 (mrk n i : Int)) ∧ Below w.heap.size w w' := by
  have h0 := h.c0
  have h1 := h.c1
  have hnb : (n : Int) ≤ 255 := by omega
  have hn0 : 1 ≤ (n : Int) := by omega
  have hib : (i : Int) ≤ 255 := by omega
  have hi2 : 0 ≤ (n : Int) - 1 - (i : Int) := by omega
  have HX : Hid (∀ d, Calls Try.prog 23 #[.pointer (some ⟨b, 0, none⟩), .int .i64 ((n : Int) - 1 - (i : Int))] (w.drewN d) fun e w' => e = .returned (.int .u8 (mrk n i : Int)) ∧ Below (w.drewN d).heap.size (w.drewN d) w') := Lib.hid fun d => by
    have e1 : (n : Int) - 1 - (i : Int) = ((n - 1 - i : Nat) : Int) := by omega
    rw [e1]
    have := exp_any b ((n - 1 - i : Nat) : Int) (w.drewN d) (h.fld.step ((Below.refl _ _).drewN d))
    rwa [exI_nat] at this
  have HB : Hid (Below w.heap.size w w.drew) := Lib.hid ((Below.refl _ _).drew)
  have HX2 : Hid (∀ wq, Below w.heap.size w wq → Calls Try.prog 23 #[.pointer (some ⟨b, 0, none⟩), .int .i64 ((n : Int) - 1 - (i : Int))] wq fun e w' => e = .returned (.int .u8 (mrk n i : Int)) ∧ Below wq.heap.size wq w') := Lib.hid fun wq hb => by
    have e1 : (n : Int) - 1 - (i : Int) = ((n - 1 - i : Nat) : Int) := by omega
    rw [e1]
    have := exp_any b ((n - 1 - i : Nat) : Int) wq (h.fld.step hb)
    rwa [exI_nat] at this
  obtain ⟨y, hy⟩ : ∃ y, mrk n i = y := ⟨_, rfl⟩
  rw [hy] at HX HX2 ⊢
  clear h hy HX
  go_enter Try.func50, Try.ntmps50
  go_wp2
  go_still_tail 11, (by kernel_rfl)
  change wpList _ _ _ _ _ w.drew
  generalize w.drew = wq at *
  go_wp2_with (go_at_call 23; (with_reducible refine (HX2.out wq HB.out).mono ?_); rintro e u1 ⟨rfl, b1⟩; have B1 := Lib.hid (HB.out.next b1); clear b1)
  go_ret
  exact ⟨rfl, B1.out⟩

theorem low_any (s b n p g : Nat) (G : List Bool) (lost : Nat) (V E T : Value) (v : Value) (l : List Nat) (w : World) (h : Sol w s b n p g G lost V E T) (hp1 : 1 ≤ p) (hp : p ≤ 255) (hl : l.length ≤ 5000) (hv : Rd l v w) :
    Calls Try.prog 51 #[.pointer (some ⟨s, 0, none⟩), v] w fun e w' => (∃ v, e = .returned v ∧ Reads w' v (lowl p l)) ∧ Below w.heap.size w w' := by
  have h2 := h.c2
  obtain ⟨a, c, rfl, hc, hr⟩ := hv
  have hpb : (p : Int) ≤ 255 := by omega
  have hp0 : 1 ≤ (p : Int) := by omega
  have hlb : (l.length : Int) ≤ 5000 := by omega
  by_cases hlt : l.length ≤ p
  · have HR : Hid (Reads w (.slice a l.length c) (lowl p l)) := Lib.hid (by
      rw [lowl, show l.length - p = 0 by omega, List.drop_zero]
      exact ⟨a, c, rfl, hc, hr⟩)
    have hd : (l.length : Int) - (p : Int) ≤ 0 := by omega
    have hm : max 0 ((l.length : Int) - (p : Int)) = 0 := by omega
    have hnl : ¬ (0 : Int) < (l.length : Int) - (p : Int) := by omega
    obtain ⟨L, hL⟩ : ∃ L, l.length = L := ⟨_, rfl⟩
    rw [hL] at HR hlb hd hm hnl hc ⊢
    clear h hr hL hlt hl
    go_enter Try.func51, Try.ntmps51
    go_wp2
    go_ret
    first
      | exact ⟨⟨_, rfl, HR.out⟩, Below.refl _ _⟩
      | (refine ⟨⟨_, rfl, ?_⟩, Below.refl _ _⟩; simpa using HR.out)
  · obtain ⟨k, hk⟩ : ∃ k, l.length - p = k := ⟨_, rfl⟩
    obtain ⟨bb, off, rfl, hbb, hcl⟩ := hr (by rw [u8s_length]; omega)
    have HR : Hid (Reads w (.slice (some ⟨bb, off + k, none⟩) (l.length - k) (c - k)) (lowl p l)) := Lib.hid (by
      have hlen : (lowl p l).length = l.length - k := by rw [lowl, List.length_drop, hk]
      refine ⟨some ⟨bb, off + k, none⟩, c - k, by rw [hlen], by rw [hlen]; omega, ?_⟩
      have h8 := Lies.drop (show Lies w w.heap.size (some ⟨bb, off, none⟩) (u8s l) from fun _ => ⟨bb, off, rfl, hbb, hcl⟩) k
      rw [lowl, hk, u8s, List.map_drop]
      exact h8)
    have hki : (l.length : Int) - (p : Int) = (k : Int) := by omega
    have hk0 : 0 < (k : Int) := by omega
    have hkl : (k : Int) ≤ (l.length : Int) := by omega
    have hkn : k ≤ l.length := by omega
    have hkc : ¬ c - k = 0 := by omega
    have hkc2 : k < c := by omega
    have hm : max 0 (k : Int) = (k : Int) := by omega
    obtain ⟨L, hL⟩ : ∃ L, l.length = L := ⟨_, rfl⟩
    rw [hL] at HR hlb hki hkl hkn hc ⊢
    clear h hr hL hlt hl hcl hk
    go_enter Try.func51, Try.ntmps51
    go_wp2
    go_ret
    exact ⟨⟨_, rfl, HR.out⟩, Below.refl _ _⟩

theorem factor_any (v : Value) (l : List Nat) (z : Int) (w : World) (hl : l.length ≤ 5000) (hz : -100000 ≤ z) (hz2 : z ≤ 100000) (hv : Rd l v w) :
    Calls Try.prog 56 #[v, .int .i64 z] w fun e w' => e = .returned (.int .u8 (fcI l z : Int)) ∧ w = w' := by
  obtain ⟨a, c, rfl, hc, hr⟩ := hv
  have hlb : (l.length : Int) ≤ 5000 := by omega
  by_cases h0 : z < 0
  · have HF : Hid (fcI l z = 0) := Lib.hid (if_pos h0)
    clear hr
    go_enter Try.func56, Try.ntmps56
    go_wp2
    go_ret
    exact ⟨ret_int (by rw [HF.out]; rfl), rfl⟩
  · by_cases h1 : (l.length : Int) ≤ z
    · have HF : Hid (fcI l z = 0) := Lib.hid (by unfold fcI; rw [if_neg h0]; exact cf_out _ _ (by omega))
      clear hr
      go_enter Try.func56, Try.ntmps56
      go_wp2
      go_ret
      exact ⟨ret_int (by rw [HF.out]; rfl), rfl⟩
    · obtain ⟨k, rfl⟩ : ∃ k : Nat, z = k := ⟨z.toNat, by omega⟩
      have hk : k < l.length := by omega
      have hki : (k : Int) < (l.length : Int) := by omega
      obtain ⟨bb, off, rfl, hbb, hcl⟩ := hr (by rw [u8s_length]; omega)
      have hcell : w.cell? ⟨bb, off + (l.length - 1 - k), none⟩ = some (.int .u8 (fcI l (k : Int) : Int)) := by
        rw [show fcI l (k : Int) = sq l (l.length - 1 - k) by unfold fcI; rw [if_neg (by omega), Int.toNat_natCast, cf_in _ _ hk]]
        exact u8s_sq' hcl _ (by omega)
      have hi0 : 0 ≤ (l.length : Int) - 1 - (k : Int) := by omega
      have hi1 : (l.length : Int) - 1 - (k : Int) < (l.length : Int) := by omega
      have hi2 : ((l.length : Int) - 1 - (k : Int)).toNat = l.length - 1 - k := by omega
      have hi3 : l.length - 1 - k < l.length := by omega
      clear hcl hr
      go_enter Try.func56, Try.ntmps56
      go_wp2
      go_ret
      exact ⟨rfl, rfl⟩

end Go.Proofs.Ytkcnmiaedcenoaa
