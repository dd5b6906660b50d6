/- Contracts of solve: what is reversed (slices.Reverse), others, Within, erase. -/
import Derived.Test.YtkcnmiaedcenoaaSolA
import Derived.Test.YtkcnmiaedcenoaaB3
namespace Go.Proofs.Ytkcnmiaedcenoaa
open Go.RowKit GfMath PolyMath RsMath SolMath
set_option linter.unusedVariables false
set_option maxRecDepth 100000

/-- The first k, and the last k, changed for one another. -/
def revk (l : List Nat) (k : Nat) : List Nat := tab l.length fun n => if n < k ∨ l.length - k ≤ n then sq l (l.length - 1 - n) else sq l n
theorem revk_length (l : List Nat) (k : Nat) : (revk l k).length = l.length := tab_length _ _
theorem revk_zero (l : List Nat) : revk l 0 = l := by
  unfold revk
  conv => rhs; rw [← tab_self l]
  exact tab_congr _ fun n hn => if_neg (by omega)
theorem revk_full (l : List Nat) (k : Nat) (h : l.length ≤ 2 * k + 1) : revk l k = l.reverse := by
  refine list_eq (by rw [revk_length, List.length_reverse]) fun n hn => ?_
  rw [revk_length] at hn
  have h1 : sq l.reverse n = sq l (l.length - 1 - n) := by
    rw [sq_get _ _ (by rw [List.length_reverse]; exact hn), sq_get _ _ (by omega), List.getElem_reverse]
  rw [revk, sq_tab, if_pos hn, h1]
  split
  · rfl
  · rw [show l.length - 1 - n = n by omega]
theorem revk_step (l : List Nat) (k : Nat) (h : 2 * k + 1 < l.length) :
    ((revk l k).set k (sq (revk l k) (l.length - 1 - k))).set (l.length - 1 - k) (sq (revk l k) k) = revk l (k + 1) := by
  have h1 : sq (revk l k) (l.length - 1 - k) = sq l (l.length - 1 - k) := by rw [revk, sq_tab, if_pos (by omega), if_neg (by omega)]
  have h2 : sq (revk l k) k = sq l k := by rw [revk, sq_tab, if_pos (by omega), if_neg (by omega)]
  rw [h1, h2, revk, tab_set, tab_set, revk]
  refine tab_congr _ fun n hn => ?_
  by_cases e1 : n = l.length - 1 - k
  · rw [if_pos e1, if_pos (by omega), e1, show l.length - 1 - (l.length - 1 - k) = k by omega]
  · rw [if_neg e1]
    by_cases e2 : n = k
    · rw [if_pos e2, if_pos (by omega), e2]
    · rw [if_neg e2]
      by_cases e3 : n < k ∨ l.length - k ≤ n
      · rw [if_pos e3, if_pos (by omega)]
      · rw [if_neg e3, if_neg (by omega)]

set_option maxHeartbeats 1000000 in
theorem reverse_any (g cap : Nat) (l : List Nat) (ys : List Value) (w : World) (hb : By l) (h0 : 0 < l.length) (hl : l.length ≤ 1000) (hr : Row w g 5 (u8s l ++ ys)) :
    Calls Try.prog 49 #[.slice (some ⟨g, 0, none⟩) l.length cap] w fun e w' => e = .returned (.tuple #[]) ∧ Row w' g 5 (u8s l.reverse ++ ys) ∧ Only g w w' := by
  have HR0 : Hid (Row w g 5 (u8s (revk l 0) ++ ys)) := Lib.hid (by rw [revk_zero]; exact hr)
  have hli : (l.length : Int) ≤ 1000 := by omega
  have hl0 : 1 ≤ (l.length : Int) := by omega
  obtain ⟨L, hL⟩ : ∃ L, l.length = L := ⟨_, rfl⟩
  have HF : Hid (∀ k, L ≤ 2 * k + 1 → revk l k = l.reverse) := Lib.hid (by rw [← hL]; exact revk_full l)
  have HS : Hid (∀ k, 2 * k + 1 < L → ((revk l k).set k (sq (revk l k) (L - 1 - k))).set (L - 1 - k) (sq (revk l k) k) = revk l (k + 1)) := Lib.hid (by rw [← hL]; exact revk_step l)
  have HLN : Hid (∀ k, (revk l k).length = L) := Lib.hid (by rw [← hL]; exact revk_length l)
  have HB : Hid (∀ k, By (revk l k)) := Lib.hid fun k => tab_by _ fun n _ => by split <;> exact hb.sq _
  rw [hL] at hli hl0 h0 hl ⊢
  obtain ⟨X, hX⟩ : ∃ X, l.reverse = X := ⟨_, rfl⟩
  rw [hX] at HF ⊢
  obtain ⟨RK, hRK⟩ : ∃ RK, revk l = RK := ⟨_, rfl⟩
  rw [hRK] at HF HS HLN HB HR0
  have hL1 : ((1 : Nat) : Int) = 1 := rfl
  clear hr hL hX hRK hb
  go_enter Try.func49, Try.ntmps49
  go_wp2
  go_loopw [2, 3] (fun i j wr => ∃ k : Nat, k < L ∧ 2 * k ≤ L ∧ i = .int .i64 k ∧ j = .int .i64 ((L : Int) - 1 - (k : Int)) ∧ Row wr g 5 (u8s (RK k) ++ ys) ∧ Only g w wr) (fun i _ _ => L - (intOf i).toNat)
  case atStart => exact ⟨0, by omega, by omega, rfl, by congr 1; omega, HR0.out, Only.refl _ _⟩
  case round =>
    clear HR0
    obtain ⟨k, hk, hk2, rfl, rfl, hrow, ho⟩ := hrel
    have HO := Lib.hid ho
    have HR := Lib.hid hrow
    by_cases hlt : 2 * k + 1 < L
    · obtain ⟨m, hm⟩ : ∃ m, L - 1 - k = m := ⟨_, rfl⟩
      have hj : (L : Int) - 1 - (k : Int) = (m : Int) := by omega
      have hkm : (k : Int) < (m : Int) := by omega
      have hkL : (k : Int) < (L : Int) := by omega
      have hmL : (m : Int) < (L : Int) := by omega
      have hmn : m < L := by omega
      have hm0 : 0 ≤ (m : Int) := by omega
      have hk0 : 0 ≤ (k : Int) := by omega
      have hkm2 : k < m := by omega
      have hln := HLN.out k
      have c1 : wr.cell? ⟨g, k, none⟩ = some (.int .u8 (sq (RK k) k : Int)) := by rw [hrow.cell, List.getElem?_append_left (by rw [u8s_length]; omega), u8s_get _ _ (by omega), sq_get _ _ (by omega)]
      have c2 : wr.cell? ⟨g, m, none⟩ = some (.int .u8 (sq (RK k) m : Int)) := by rw [hrow.cell, List.getElem?_append_left (by rw [u8s_length]; omega), u8s_get _ _ (by omega), sq_get _ _ (by omega)]
      have hf1 := hrow.frozen k
      have hf2 := hrow.frozen m
      have hst := HS.out k hlt
      rw [hm] at hst
      have hx8 := (HB.out k).sq k
      have hy8 := (HB.out k).sq m
      have HNX := HLN.out (k + 1)
      obtain ⟨x, hx⟩ : ∃ x, sq (RK k) k = x := ⟨_, rfl⟩
      obtain ⟨y, hy⟩ : ∃ y, sq (RK k) m = y := ⟨_, rfl⟩
      rw [hx, hy] at hst
      rw [hx] at c1 hx8
      rw [hy] at c2 hy8
      obtain ⟨Rk, hRk⟩ : ∃ Rk, RK k = Rk := ⟨_, rfl⟩
      rw [hRk] at HR hst hln
      obtain ⟨Rn, hRn⟩ : ∃ Rn, RK (k + 1) = Rn := ⟨_, rfl⟩
      have HRN : Hid (RK (k + 1) = Rn) := Lib.hid hRn
      rw [hRn] at hst
      have HST := Lib.hid hst
      have HLk := Lib.hid hln
      rw [hj]
      have HJ := Lib.hid hj
      clear hrow ho hst hln hRk hRn hx hy hm hj HNX HS HF HB HLN
      go_wp2
      go_region
      have R2 : Hid (Row (((wr.setCell ⟨g, k, none⟩ (.int .u8 (y : Int))).setCell ⟨g, m, none⟩ (.int .u8 (x : Int))).drew) g 5 (u8s Rn ++ ys)) := Lib.hid (by
        have h := (HR.out.set k (.int .u8 (y : Int))).set m (.int .u8 (x : Int))
        rw [List.set_append_left _ _ (by rw [u8s_length, HLk.out]; omega), u8s_set, List.set_append_left _ _ (by rw [u8s_length, List.length_set, HLk.out]; omega), u8s_set, HST.out] at h
        exact h.drew)
      have O2 : Hid (Only g w (((wr.setCell ⟨g, k, none⟩ (.int .u8 (y : Int))).setCell ⟨g, m, none⟩ (.int .u8 (x : Int))).drew)) := Lib.hid ((HO.out.setCell ⟨g, k, none⟩ _ (Or.inl rfl)).setCell ⟨g, m, none⟩ _ (Or.inl rfl)).drew
      generalize ((wr.setCell ⟨g, k, none⟩ (.int .u8 (y : Int))).setCell ⟨g, m, none⟩ (.int .u8 (x : Int))).drew = W2 at *
      clear c1 c2 hf1 hf2 HR HO
      go_wp2
      go_roundw
      case rel => exact ⟨k + 1, by omega, by omega, by go_num, by have := HJ.out; congr 1; omega, by rw [HRN.out]; exact R2.out, O2.out⟩
      case measure => simp [intOf]; omega
    · have hnlt : ¬ (k : Int) < (L : Int) - 1 - (k : Int) := by omega
      have HX : Hid (RK k = X) := Lib.hid (HF.out k (by omega))
      clear HF HS HB HLN hrow ho
      go_wp2
      go_end0
      exact ⟨rfl, by rw [← HX.out]; exact HR.out, HO.out⟩

/-- The places that aren't erased, of the first i. -/
theorem oth_snoc (G : List Bool) (l : List Nat) (k : Nat) (h : k < l.length) : othF G (l.take (k + 1)) = othF G (l.take k) + if gAt G (sq l k) then 0 else 1 := by
  rw [take_snoc l k h, ← sq_get l k h]
  unfold othF
  rw [List.filter_append, List.length_append, List.filter_cons, List.filter_nil]
  cases gAt G (sq l k) <;> simp
theorem oth_le (G : List Bool) (l : List Nat) : othF G l ≤ l.length := List.length_filter_le _ _

set_option maxHeartbeats 1000000 in
theorem others_any (s b n p g : Nat) (G : List Bool) (lost : Nat) (V E T : Value) (a : Option Addr) (cap : Nat) (l : List Nat) (w : World) (h : Sol w s b n p g G lost V E T) (hn : n ≤ 255) (hl : l.length ≤ 1000) (hin : ∀ x ∈ l, x < n) (hr : Lies w w.heap.size a (nats l)) :
    Calls Try.prog 33 #[.pointer (some ⟨s, 0, none⟩), .slice a l.length cap] w fun e w' => e = .returned (.int .i64 (othF G l : Int)) ∧ w = w' := by
  have h3 := h.c3
  have HG := Lib.hid (h.gc)
  have HIN := Lib.hid hin
  have HR := Lib.hid hr
  have hli : (l.length : Int) ≤ 1000 := by omega
  clear h hin hr
  go_enter Try.func33, Try.ntmps33
  go_wp2
  go_loop [5, 10] (fun t i => ∃ k : Nat, k ≤ l.length ∧ i = .int .i64 k ∧ t = .int .i64 (othF G (l.take k) : Int)) (fun _ i => l.length - (intOf i).toNat)
  case atStart => exact ⟨0, Nat.zero_le _, rfl, rfl⟩
  case round =>
    obtain ⟨k, hk, rfl, rfl⟩ := hrel
    by_cases hlt : k < l.length
    · have hx := HIN.out (sq l k) (by rw [sq_get l k hlt]; exact List.getElem_mem hlt)
      obtain ⟨bb, off, rfl, hbb, hcl⟩ := HR.out (by rw [nats_length]; omega)
      have hc := hcl k _ (nats_get l k hlt)
      rw [← sq_get l k hlt] at hc
      have hgc := HG.out (sq l k) hx
      have hle := oth_le G (l.take k)
      rw [List.length_take] at hle
      have HS := Lib.hid (oth_snoc G l k hlt)
      obtain ⟨x, hxe⟩ : ∃ x, sq l k = x := ⟨_, rfl⟩
      rw [hxe] at hx hc hgc HS
      obtain ⟨t, ht⟩ : ∃ t, othF G (l.take k) = t := ⟨_, rfl⟩
      rw [ht] at hle HS ⊢
      have htb : (t : Int) ≤ 1000 := by omega
      have ht0 : 0 ≤ (t : Int) := by omega
      have hki : (k : Int) < (l.length : Int) := by omega
      have hxn : (x : Int) < (n : Int) := by omega
      have hx0 : 0 ≤ (x : Int) := by omega
      clear hcl hxe ht hle
      cases hg : gAt G x with
      | true =>
        rw [hg] at hgc HS
        clear hg
        go_wp2
        go_round
        case rel => exact ⟨k + 1, by omega, by go_num, by rw [HS.out]; rfl⟩
        case measure => simp [intOf]; omega
      | false =>
        rw [hg] at hgc HS
        clear hg
        go_wp2
        go_round
        case rel => exact ⟨k + 1, by omega, by go_num, by rw [HS.out]; go_num⟩
        case measure => simp [intOf]; omega
    · have e : l.take k = l := List.take_of_length_le (by omega)
      rw [e]
      clear e
      go_wp2
      go_ret
      exact ⟨rfl, rfl⟩

theorem within_nil (x y : Int) (w : World) : Calls Try.prog 32 #[.pointer none, .int .i64 x, .int .i64 y] w fun e w' => e = .returned (.bool false) ∧ w = w' := by
  have HN := Lib.hid (rs_over_nil w)
  go_enter Try.func32, Try.ntmps32
  go_wp2_with (go_at_call 27; (with_reducible refine HN.out.mono ?_); rintro e w1 ⟨rfl, rfl⟩)
  go_ret
  exact ⟨rfl, rfl⟩

theorem rs_over_any (c b k p : Nat) (v : Value) (w : World) (h : Cor w c b k p v) : Calls Try.prog 27 #[.pointer (some ⟨c, 0, none⟩)] w fun e w' => e = .returned (.pointer (some ⟨b, 0, none⟩)) ∧ w = w' := by
  have HN := Lib.hid (rs_none_any c b k p v w h)
  have h0 := h.c0
  clear h
  go_enter Try.func27, Try.ntmps27
  go_wp2_with (go_at_call 41; (with_reducible refine HN.out.mono ?_); rintro e w1 ⟨rfl, rfl⟩)
  go_ret
  exact ⟨rfl, rfl⟩

theorem within_any (c b k p : Nat) (v : Value) (x y : Nat) (w : World) (h : Cor w c b k p v) (hn : k + p ≤ 255) (hx : x ≤ 100000) (hy : y ≤ 100000) :
    Calls Try.prog 32 #[.pointer (some ⟨c, 0, none⟩), .int .i64 (x : Int), .int .i64 (y : Int)] w fun e w' => e = .returned (.bool (decide (x ≤ p ∧ y ≤ (p - x) / 2))) ∧ Below w.heap.size w w' := by
  have HO := Lib.hid (rs_over_any c b k p v w h)
  have HS := Lib.hid (rs_size_any c b k p v w h)
  obtain ⟨n, hnn⟩ : ∃ n, k + p = n := ⟨_, rfl⟩
  rw [hnn] at HS hn
  have hnk : (n : Int) - (k : Int) = (p : Int) := by omega
  have hpb : (p : Int) ≤ 255 := by omega
  have hp0 : 0 ≤ (p : Int) := by omega
  have hnb : (n : Int) ≤ 255 := by omega
  have hkb : (k : Int) ≤ 255 := by omega
  have hxb : (x : Int) ≤ 100000 := by omega
  have hyb : (y : Int) ≤ 100000 := by omega
  have hx0 : ¬ (x : Int) < 0 := by omega
  have hy0 : ¬ (y : Int) < 0 := by omega
  clear h hnn
  by_cases h1 : x ≤ p
  · have h1i : (x : Int) ≤ (p : Int) := by omega
    have h1d : decide (x ≤ p) = true := by simpa using h1
    obtain ⟨q, hq⟩ : ∃ q, (p - x) / 2 = q := ⟨_, rfl⟩
    have hpx : 0 ≤ (p : Int) - (x : Int) := by omega
    have hqi : ((p : Int) - (x : Int)) / 2 = (q : Int) := by omega
    have hqt : ((p : Int) - (x : Int)).tdiv 2 = (q : Int) := by rw [Int.tdiv_eq_ediv_of_nonneg hpx]; exact hqi
    have HD : Hid (decide (x ≤ p ∧ y ≤ (p - x) / 2) = decide ((y : Int) ≤ (q : Int))) := Lib.hid (by rw [Bool.eq_iff_iff, decide_eq_true_iff, decide_eq_true_iff, hq]; omega)
    have HD2 : Hid (decide ((y : Int) ≤ (q : Int)) = decide (y ≤ q)) := Lib.hid (by rw [Bool.eq_iff_iff, decide_eq_true_iff, decide_eq_true_iff]; omega)
    clear hq
    go_enter Try.func32, Try.ntmps32
    go_wp2_with (first
      | (go_at_call 27; (with_reducible refine HO.out.mono ?_); rintro e w1 ⟨rfl, rfl⟩)
      | (go_at_call 26; (with_reducible refine HS.out.mono ?_); rintro e w1 ⟨rfl, b1⟩; have B1 := Lib.hid b1; clear b1))
    go_ret
    exact ⟨by rw [HD.out, HD2.out]; rfl, B1.out⟩
  · have h1i : ¬ (x : Int) ≤ (p : Int) := by omega
    have h1d : decide (x ≤ p) = false := by simpa using h1
    have HD : Hid (decide (x ≤ p ∧ y ≤ (p - x) / 2) = false) := Lib.hid (by simp [h1])
    go_enter Try.func32, Try.ntmps32
    go_wp2_with (first
      | (go_at_call 27; (with_reducible refine HO.out.mono ?_); rintro e w1 ⟨rfl, rfl⟩)
      | (go_at_call 26; (with_reducible refine HS.out.mono ?_); rintro e w1 ⟨rfl, b1⟩; have B1 := Lib.hid b1; clear b1))
    go_ret
    exact ⟨by rw [HD.out]; rfl, B1.out⟩

end Go.Proofs.Ytkcnmiaedcenoaa
