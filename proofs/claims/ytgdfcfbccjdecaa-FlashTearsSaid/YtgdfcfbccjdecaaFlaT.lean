/- Contracts of flash: Wear, Copy. (gen_fla_copy.py) -/
import Derived.Test.YtgdfcfbccjdecaaFlaR
namespace Go.Proofs.Ytgdfcfbccjdecaa
open Go.RowKit FlaMath
set_option linter.unusedVariables false
set_option maxRecDepth 100000

def wearF (L : List Bool) (E : List Int) (l : List Int) : Int := l.foldl (fun (a : Int) (i : Int) => if 0 ≤ i ∧ i < L.length then wrap64 (a + E.getD i.toNat 0) else a) 0
theorem wearF_snoc (L : List Bool) (E : List Int) (l : List Int) (i : Int) : wearF L E (l ++ [i]) = if 0 ≤ i ∧ i < L.length then wrap64 (wearF L E l + E.getD i.toNat 0) else wearF L E l := by simp [wearF, List.foldl_append]
theorem wear_any (s : Sh) (D : Dv) (a : Option Addr) (cap : Nat) (l : List Int) (w : World) (h : Dev w s D) (hl : l.length ≤ 140737488355328) (hr : Lies w w.heap.size a (ints l)) :
    Calls Try.prog 24 #[.pointer (some ⟨s.b, 0, none⟩), .slice a l.length cap] w fun e w' => e = .returned (.int .i64 (wearF D.L D.E l)) ∧ w = w' := by
  have HH := Lib.hid (fun i => has_any s D i w h)
  have h6 := h.c6
  have HCE := Lib.hid (h.ce)
  have hwn := h.ok.worn
  obtain ⟨n, hn⟩ : ∃ n, l.length = n := ⟨_, rfl⟩
  have HNL := Lib.hid hn
  have HR := Lib.hid hr
  rw [hn] at hl ⊢
  obtain ⟨m, hm⟩ : ∃ m, D.E.length = m := ⟨_, rfl⟩
  rw [hm] at h6
  have HM := Lib.hid hm
  have HLE : Hid (D.L.length = m) := Lib.hid (by rw [← hm, hwn])
  have n1 : (n : Int) ≤ 140737488355328 := by omega
  clear h hr hn hm hwn
  go_enter Try.func24, Try.ntmps24
  go_wp2
  go_loop [5, 10] (fun x i => ∃ k : Nat, k ≤ n ∧ i = .int .i64 k ∧ x = .int .i64 (wearF D.L D.E (l.take k))) (fun _ i => n - (intOf i).toNat)
  case atStart => exact ⟨0, Nat.zero_le _, rfl, rfl⟩
  case round =>
    obtain ⟨k, hk, rfl, rfl⟩ := hrel
    by_cases hlt : k < n
    · have hkl : k < l.length := by rw [HNL.out]; exact hlt
      obtain ⟨bl, off, rfl, _, hc⟩ := HR.out (by rw [ints_length]; omega)
      have hcell := hc k _ (ints_get l k hkl)
      obtain ⟨x, hx⟩ : ∃ x, l[k] = x := ⟨_, rfl⟩
      rw [hx] at hcell
      have HTK : Hid (l.take (k + 1) = l.take k ++ [x]) := Lib.hid (by rw [take_snoc l k hkl, hx])
      obtain ⟨W, hW⟩ : ∃ W, wearF D.L D.E (l.take k) = W := ⟨_, rfl⟩
      have HSN := Lib.hid (wearF_snoc D.L D.E (l.take k) x)
      rw [hW] at HSN ⊢
      have e1 : (k : Int) < n := by omega
      by_cases hi : 0 ≤ x ∧ x < D.L.length
      · obtain ⟨j, rfl⟩ : ∃ j : Nat, x = j := ⟨x.toNat, by omega⟩
        have hj : j < D.E.length := by have := HLE.out; rw [HM.out]; omega
        have hce := HCE.out j hj
        have HAS := Lib.hid (HH.out (j : Int))
        rw [decide_eq_true hi] at HAS
        rw [if_pos hi, Int.toNat_natCast, List.getD_eq_getElem?_getD, List.getElem?_eq_getElem hj, Option.getD_some] at HSN
        obtain ⟨y, hy⟩ : ∃ y, D.E[j] = y := ⟨_, rfl⟩
        rw [hy] at hce HSN
        have e2 : (j : Int) < m := by have := HLE.out; omega
        clear hc hkl hx hW hi hj hy
        go_wp2_with (go_at_call 37; (with_reducible refine HAS.out.mono ?_); rintro e u1 ⟨rfl, rfl⟩)
        go_round
        case rel => exact ⟨k + 1, by omega, by go_num, by rw [HTK.out, HSN.out]⟩
        case measure => simp [intOf]; omega
      · have HAS := Lib.hid (HH.out x)
        rw [decide_eq_false hi] at HAS
        rw [if_neg hi] at HSN
        clear hc hkl hx hW hi
        go_wp2_with (go_at_call 37; (with_reducible refine HAS.out.mono ?_); rintro e u1 ⟨rfl, rfl⟩)
        go_round
        case rel => exact ⟨k + 1, by omega, by go_num, by rw [HTK.out, HSN.out]⟩
        case measure => simp [intOf]; omega
    · obtain rfl : k = n := by omega
      have HX : Hid (l.take k = l) := Lib.hid (List.take_of_length_le (by rw [HNL.out]; omega))
      clear hk
      go_wp2
      go_ret
      exact ⟨by rw [HX.out]; rfl, rfl⟩

theorem fone_bool : One Try.prog 4 := One.of (by kernel_rfl)
theorem fone_int : One Try.prog 3 := One.of (by kernel_rfl)

theorem fclone_byte (g cap n : Nat) (xs : List Value) (w : World) (hx : xs.length = n) (hn : n ≤ 1000000) (h0 : 0 < n) (h1 : xs.all (·.oneCell') = true) (hr : Lies w w.heap.size (some ⟨g, 0, none⟩) xs) :
    Calls Try.prog 42 #[.slice (some ⟨g, 0, none⟩) n cap] w fun e w' =>
      (∃ g' c' z, e = .returned (.slice (some ⟨g', 0, none⟩) n c') ∧ w.heap.size ≤ g' ∧ n ≤ c' ∧ c' ≤ 9223372036854775807 ∧ Row w' g' 5 (xs ++ z)) ∧ Below w.heap.size w w' := by
  have he : ∀ w : World, (binOp .eql 48 (.slice (some ⟨g, 0, none⟩) n cap) (.slice none 0 0)).run Try.prog w = .ok (.bool false) w := fun _ => rfl
  have HR := Lib.hid hr
  have HL := Lib.hid hx
  have H0 := Lib.hid h0
  have H1 := Lib.hid h1
  have HN : Big (0 + n ≤ 1099511627776) := ⟨by omega⟩
  obtain ⟨B, hB⟩ : ∃ B, B = w.heap.size := ⟨_, rfl⟩
  have HB := Lib.hid hB
  have HOW : Hid (∀ (t : TypeId) (u : World), u.heap.size = B → t = 5 → (u.alloc (.cells #[] t)).ownsRow B 5 1 (.slice (some ⟨u.heap.size, 0, none⟩) 0 0) 0 []) := Lib.hid (by
    intro t u hu ht
    subst ht
    exact Row.owns (xs := []) (ys := []) (Row.new u _ []) (by omega) rfl rfl (Nat.le_refl _) (by unfold maxLen; omega))
  clear hr h0 hB hx h1
  go_enter Try.func42, Try.ntmps42
  go_wp2_with ((with_reducible refine wpAppendK cap (HOW.out 5 w HB.out.symm rfl) Try.underlying48 fone_byte (HR.out.step (alloc_below _ _)) HL.out H0.out H1.out HN (by rw [HB.out]; exact (alloc_below w _).size) ?_ ?_); rfl; intro v1 w1 g1 g2 g3; have G1 := Lib.hid g1; have G2 := Lib.hid g2; have G3 := Lib.hid g3; clear g1 g2 g3)
  have hbel : Below w.heap.size w w1 := (alloc_below w _).grown G2.out (by simp) (fun k hk => by cases hk; exact Nat.le_refl _)
  have h1 := G1.out
  rw [Nat.zero_add, List.nil_append, HB.out] at h1
  rcases h1.2 with ⟨rfl, h2⟩ | ⟨g', cap', cur, rfl, h3, h4, h5, h6, h7, h8⟩
  · exact absurd h2 (by have := H0.out; omega)
  · have HF : Hid (Row w1 g' 5 (xs ++ cur.toList.drop n)) := Lib.hid (by
      show w1.heap[g']? = _
      rw [h4, ← h8, Nat.mul_one, List.take_append_drop])
    have H35 := Lib.hid (And.intro h3 (And.intro h5 h6))
    clear h1 h3 h4 h5 h6 h7 h8
    go_wp2
    go_ret
    exact ⟨⟨g', cap', _, rfl, H35.out.1, H35.out.2.1, by have := H35.out.2.2; unfold maxLen at this; omega, HF.out⟩, hbel⟩

theorem fclone_bool (g cap n : Nat) (xs : List Value) (w : World) (hx : xs.length = n) (hn : n ≤ 1000000) (h0 : 0 < n) (h1 : xs.all (·.oneCell') = true) (hr : Lies w w.heap.size (some ⟨g, 0, none⟩) xs) :
    Calls Try.prog 43 #[.slice (some ⟨g, 0, none⟩) n cap] w fun e w' =>
      (∃ g' c' z, e = .returned (.slice (some ⟨g', 0, none⟩) n c') ∧ w.heap.size ≤ g' ∧ n ≤ c' ∧ c' ≤ 9223372036854775807 ∧ Row w' g' 4 (xs ++ z)) ∧ Below w.heap.size w w' := by
  have he : ∀ w : World, (binOp .eql 54 (.slice (some ⟨g, 0, none⟩) n cap) (.slice none 0 0)).run Try.prog w = .ok (.bool false) w := fun _ => rfl
  have HR := Lib.hid hr
  have HL := Lib.hid hx
  have H0 := Lib.hid h0
  have H1 := Lib.hid h1
  have HN : Big (0 + n ≤ 1099511627776) := ⟨by omega⟩
  obtain ⟨B, hB⟩ : ∃ B, B = w.heap.size := ⟨_, rfl⟩
  have HB := Lib.hid hB
  have HOW : Hid (∀ (t : TypeId) (u : World), u.heap.size = B → t = 4 → (u.alloc (.cells #[] t)).ownsRow B 4 1 (.slice (some ⟨u.heap.size, 0, none⟩) 0 0) 0 []) := Lib.hid (by
    intro t u hu ht
    subst ht
    exact Row.owns (xs := []) (ys := []) (Row.new u _ []) (by omega) rfl rfl (Nat.le_refl _) (by unfold maxLen; omega))
  clear hr h0 hB hx h1
  go_enter Try.func43, Try.ntmps43
  go_wp2_with ((with_reducible refine wpAppendK cap (HOW.out 4 w HB.out.symm rfl) Try.underlying54 fone_bool (HR.out.step (alloc_below _ _)) HL.out H0.out H1.out HN (by rw [HB.out]; exact (alloc_below w _).size) ?_ ?_); rfl; intro v1 w1 g1 g2 g3; have G1 := Lib.hid g1; have G2 := Lib.hid g2; have G3 := Lib.hid g3; clear g1 g2 g3)
  have hbel : Below w.heap.size w w1 := (alloc_below w _).grown G2.out (by simp) (fun k hk => by cases hk; exact Nat.le_refl _)
  have h1 := G1.out
  rw [Nat.zero_add, List.nil_append, HB.out] at h1
  rcases h1.2 with ⟨rfl, h2⟩ | ⟨g', cap', cur, rfl, h3, h4, h5, h6, h7, h8⟩
  · exact absurd h2 (by have := H0.out; omega)
  · have HF : Hid (Row w1 g' 4 (xs ++ cur.toList.drop n)) := Lib.hid (by
      show w1.heap[g']? = _
      rw [h4, ← h8, Nat.mul_one, List.take_append_drop])
    have H35 := Lib.hid (And.intro h3 (And.intro h5 h6))
    clear h1 h3 h4 h5 h6 h7 h8
    go_wp2
    go_ret
    exact ⟨⟨g', cap', _, rfl, H35.out.1, H35.out.2.1, by have := H35.out.2.2; unfold maxLen at this; omega, HF.out⟩, hbel⟩

theorem fclone_int (g cap n : Nat) (xs : List Value) (w : World) (hx : xs.length = n) (hn : n ≤ 1000000) (h0 : 0 < n) (h1 : xs.all (·.oneCell') = true) (hr : Lies w w.heap.size (some ⟨g, 0, none⟩) xs) :
    Calls Try.prog 44 #[.slice (some ⟨g, 0, none⟩) n cap] w fun e w' =>
      (∃ g' c' z, e = .returned (.slice (some ⟨g', 0, none⟩) n c') ∧ w.heap.size ≤ g' ∧ n ≤ c' ∧ c' ≤ 9223372036854775807 ∧ Row w' g' 3 (xs ++ z)) ∧ Below w.heap.size w w' := by
  have he : ∀ w : World, (binOp .eql 47 (.slice (some ⟨g, 0, none⟩) n cap) (.slice none 0 0)).run Try.prog w = .ok (.bool false) w := fun _ => rfl
  have HR := Lib.hid hr
  have HL := Lib.hid hx
  have H0 := Lib.hid h0
  have H1 := Lib.hid h1
  have HN : Big (0 + n ≤ 1099511627776) := ⟨by omega⟩
  obtain ⟨B, hB⟩ : ∃ B, B = w.heap.size := ⟨_, rfl⟩
  have HB := Lib.hid hB
  have HOW : Hid (∀ (t : TypeId) (u : World), u.heap.size = B → t = 3 → (u.alloc (.cells #[] t)).ownsRow B 3 1 (.slice (some ⟨u.heap.size, 0, none⟩) 0 0) 0 []) := Lib.hid (by
    intro t u hu ht
    subst ht
    exact Row.owns (xs := []) (ys := []) (Row.new u _ []) (by omega) rfl rfl (Nat.le_refl _) (by unfold maxLen; omega))
  clear hr h0 hB hx h1
  go_enter Try.func44, Try.ntmps44
  go_wp2_with ((with_reducible refine wpAppendK cap (HOW.out 3 w HB.out.symm rfl) Try.underlying47 fone_int (HR.out.step (alloc_below _ _)) HL.out H0.out H1.out HN (by rw [HB.out]; exact (alloc_below w _).size) ?_ ?_); rfl; intro v1 w1 g1 g2 g3; have G1 := Lib.hid g1; have G2 := Lib.hid g2; have G3 := Lib.hid g3; clear g1 g2 g3)
  have hbel : Below w.heap.size w w1 := (alloc_below w _).grown G2.out (by simp) (fun k hk => by cases hk; exact Nat.le_refl _)
  have h1 := G1.out
  rw [Nat.zero_add, List.nil_append, HB.out] at h1
  rcases h1.2 with ⟨rfl, h2⟩ | ⟨g', cap', cur, rfl, h3, h4, h5, h6, h7, h8⟩
  · exact absurd h2 (by have := H0.out; omega)
  · have HF : Hid (Row w1 g' 3 (xs ++ cur.toList.drop n)) := Lib.hid (by
      show w1.heap[g']? = _
      rw [h4, ← h8, Nat.mul_one, List.take_append_drop])
    have H35 := Lib.hid (And.intro h3 (And.intro h5 h6))
    clear h1 h3 h4 h5 h6 h7 h8
    go_wp2
    go_ret
    exact ⟨⟨g', cap', _, rfl, H35.out.1, H35.out.2.1, by have := H35.out.2.2; unfold maxLen at this; omega, HF.out⟩, hbel⟩

theorem fbools_one (l : List Bool) : (fbools l).all (·.oneCell') = true := by simp [fbools, List.all_eq_true]; exact ⟨fun _ => rfl, fun _ => rfl⟩
theorem fbytes_one (l : List UInt8) : (bytes l).all (·.oneCell') = true := by simp [bytes, List.all_eq_true]; intro x _; rfl
theorem fints_one (l : List Int) : (ints l).all (·.oneCell') = true := by simp [ints, List.all_eq_true]; intro x _; rfl
theorem fla_row_lies {w : World} {g : Nat} {t : TypeId} {x z : List Value} (h : Row w g t (x ++ z)) : Lies w w.heap.size (some ⟨g, 0, none⟩) x := by
  intro _
  refine ⟨g, 0, rfl, h.lt, fun j u hj => ?_⟩
  rw [Nat.zero_add, h.cell, List.getElem?_append_left (List.getElem?_eq_some_iff.1 hj).1]
  exact hj
theorem devL_one (s : Sh) (D : Dv) : (devL s D).all (·.oneCell') = true := by simp [devL, List.all]; exact ⟨rfl, rfl, rfl, rfl, rfl, rfl, rfl, rfl, rfl⟩
theorem fits_dev : Fits Try.prog 58 9 := ⟨⟨_, Try.underlying58, rfl⟩, by kernel_rfl⟩
def dev0 : List Value := [.int .i64 0, .int .u8 0, .bool false, .int .i64 0, .slice none 0 0, .slice none 0 0, .slice none 0 0, .int .i64 0, .bool false]
theorem zero_dev : ∀ u, (zeroValue 58).run Try.prog u = .ok (.agg dev0.toArray) u := fun u => by kernel_rfl
theorem finfo_bools : (Try.prog.info? 54).map (·.size) = some 1 := by kernel_rfl
theorem finfo_ints : (Try.prog.info? 47).map (·.size) = some 1 := by kernel_rfl
set_option maxHeartbeats 1000000 in
theorem copy_any (s : Sh) (D : Dv) (w : World) (h : Dev w s D) :
    Calls Try.prog 23 #[.pointer (some ⟨s.b, 0, none⟩)] w fun e w' => ∃ c : Sh, e = .returned (.pointer (some ⟨c.b, 0, none⟩)) ∧ Dev w' c D ∧ (∀ k ∈ c.S, w.heap.size ≤ k) ∧ Below w.heap.size w w' := by
  have HX := Lib.hid (none_any s D w h)
  have R0 : Hid (Row w s.b 58 (devL s D)) := Lib.hid h.row
  have HDL : Hid ((devL s D).length = 9) := Lib.hid rfl
  have HD1 := Lib.hid (devL_one s D)
  have HOK := Lib.hid h.ok
  obtain ⟨Z, hZ⟩ : ∃ Z, dev0 = Z := ⟨_, rfl⟩
  have HZ : Hid (∀ u, (zeroValue 58).run Try.prog u = .ok (.agg Z.toArray) u) := Lib.hid (by rw [← hZ]; exact zero_dev)
  have HZL : Hid (Z.length = 9) := Lib.hid (by rw [← hZ]; rfl)
  obtain ⟨Y, hY⟩ : ∃ Y, devL s D = Y := ⟨_, rfl⟩
  have HY := Lib.hid hY
  obtain ⟨nc, hnc⟩ : ∃ n, D.C.length = n := ⟨_, rfl⟩
  obtain ⟨nl, hnl⟩ : ∃ n, D.L.length = n := ⟨_, rfl⟩
  obtain ⟨ne, hne⟩ : ∃ n, D.E.length = n := ⟨_, rfl⟩
  have hcl := h.ok.cells
  have htp := h.ok.top
  have hon := h.ok.one
  have hwn := h.ok.worn
  have HNC := Lib.hid hnc
  have HNL := Lib.hid hnl
  have HNE := Lib.hid hne
  have HC : Hid (∀ w1, Below w.heap.size w w1 → Calls Try.prog 42 #[.slice (some ⟨s.o1, 0, none⟩) nc s.k1] w1 fun e w' => (∃ g' c' z, e = .returned (.slice (some ⟨g', 0, none⟩) nc c') ∧ w1.heap.size ≤ g' ∧ nc ≤ c' ∧ c' ≤ 9223372036854775807 ∧ Row w' g' 5 (bytes D.C ++ z)) ∧ Below w1.heap.size w1 w') := Lib.hid fun w1 hb =>
    fclone_byte s.o1 s.k1 nc (bytes D.C) w1 (by rw [bytes_length]; exact hnc) (by omega) (by omega) (fbytes_one _) (fla_row_lies (h.step hb).c)
  have HL : Hid (∀ w1, Below w.heap.size w w1 → Calls Try.prog 43 #[.slice (some ⟨s.o2, 0, none⟩) nl s.k2] w1 fun e w' => (∃ g' c' z, e = .returned (.slice (some ⟨g', 0, none⟩) nl c') ∧ w1.heap.size ≤ g' ∧ nl ≤ c' ∧ c' ≤ 9223372036854775807 ∧ Row w' g' 4 (fbools D.L ++ z)) ∧ Below w1.heap.size w1 w') := Lib.hid fun w1 hb =>
    fclone_bool s.o2 s.k2 nl (fbools D.L) w1 (by rw [fbools_length]; exact hnl) (by omega) (by omega) (fbools_one _) (fla_row_lies (h.step hb).l)
  have HE : Hid (∀ w1, Below w.heap.size w w1 → Calls Try.prog 44 #[.slice (some ⟨s.o3, 0, none⟩) ne s.k3] w1 fun e w' => (∃ g' c' z, e = .returned (.slice (some ⟨g', 0, none⟩) ne c') ∧ w1.heap.size ≤ g' ∧ ne ≤ c' ∧ c' ≤ 9223372036854775807 ∧ Row w' g' 3 (ints D.E ++ z)) ∧ Below w1.heap.size w1 w') := Lib.hid fun w1 hb =>
    fclone_int s.o3 s.k3 ne (ints D.E) w1 (by rw [ints_length]; exact hne) (by omega) (by omega) (fints_one _) (fla_row_lies (h.step hb).e)
  have H4 : Hid (∀ w1, Below w.heap.size w w1 → w1.cell? ⟨s.b, 4, none⟩ = some (.slice (some ⟨s.o1, 0, none⟩) nc s.k1)) := Lib.hid fun w1 hb => by have := (h.step hb).c4; rwa [hnc] at this
  have H5 : Hid (∀ w1, Below w.heap.size w w1 → w1.cell? ⟨s.b, 5, none⟩ = some (.slice (some ⟨s.o2, 0, none⟩) nl s.k2)) := Lib.hid fun w1 hb => by have := (h.step hb).c5; rwa [hnl] at this
  have H6 : Hid (∀ w1, Below w.heap.size w w1 → w1.cell? ⟨s.b, 6, none⟩ = some (.slice (some ⟨s.o3, 0, none⟩) ne s.k3)) := Lib.hid fun w1 hb => by have := (h.step hb).c6; rwa [hne] at this
  rw [hY] at R0 HDL HD1
  have HYS : Hid (∀ g1 c1 g2 c2 g3 c3 z1 z2 z3 b, ((Y.set 4 (.slice (some ⟨g1, 0, none⟩) nc c1)).set 5 (.slice (some ⟨g2, 0, none⟩) nl c2)).set 6 (.slice (some ⟨g3, 0, none⟩) ne c3) = devL ⟨b, g1, c1, z1, g2, c2, z2, g3, c3, z3⟩ D) := Lib.hid fun g1 c1 g2 c2 g3 c3 z1 z2 z3 b => by
    rw [← hY, ← hnc, ← hnl, ← hne]; rfl
  have HT4 : Hid (4 < Y.length) := Lib.hid (by rw [HDL.out]; decide)
  have HT5 : Hid (∀ v, 5 < (Y.set 4 v).length) := Lib.hid fun v => by rw [List.length_set, HDL.out]; decide
  have HT6 : Hid (∀ v u, 6 < ((Y.set 4 v).set 5 u).length) := Lib.hid fun v u => by rw [List.length_set, List.length_set, HDL.out]; decide
  clear h hZ hY hnc hnl hne hcl htp hon hwn
  go_enter Try.func23, Try.ntmps23
  go_wp2_with (first
    | (go_at_call 39; (with_reducible refine HX.out.mono ?_); rintro e u1 ⟨rfl, rfl⟩)
    | ((with_reducible refine R0.out.wpLoadK 58 fits_dev HDL.out ?_ ?_); rfl)
    | ((with_reducible refine wpAllocK Z 58 HZ.out ?_ ?_); rfl; intro w1 r1 b1 s1; have R1 := Lib.hid r1; have B1 := Lib.hid b1; clear r1 b1 s1)
    | ((with_reducible refine R1.out.wpStoreK 58 Y fits_dev HZL.out HDL.out HD1.out ?_ ?_); rfl; intro w2 r2 o2 s2; have R2 := Lib.hid r2; have B2 := Lib.hid (B1.out.trans (o2.below (Nat.le_refl _) B1.out.size)); have c4 := H4.out w2 B2.out; clear r2 o2 s2)
    | (go_at_call 42; (with_reducible refine (HC.out w2 B2.out).mono ?_); rintro e w3 ⟨⟨g1, k1, z1, rfl, q1, q2, q3, rg⟩, b3⟩; have G1 := Lib.hid (And.intro q1 (And.intro q2 q3)); have RG1 := Lib.hid rg; have R3 := Lib.hid (R2.out.step b3); have B3 := Lib.hid (B2.out.next b3); clear q1 q2 q3 rg b3)
    | ((with_reducible refine R3.out.wpStore1K 4 48 (.slice (some ⟨g1, 0, none⟩) nc k1) finfo_bytes HT4.out (slice_cells _ _ _) (slice_one _ _ _) ?_ ?_); rfl; intro w4 r4 o4 s4; have R4 := Lib.hid r4; have RG14 := Lib.hid (RG1.out.only o4 (by have := G1.out.1; have := R2.out.lt; omega)); have B4 := Lib.hid (B3.out.trans (o4.below (Nat.le_refl _) B3.out.size)); have c5 := H5.out w4 B4.out; clear r4 o4 s4)
    | (go_at_call 43; (with_reducible refine (HL.out w4 B4.out).mono ?_); rintro e w5 ⟨⟨g2, k2, z2, rfl, q1, q2, q3, rg⟩, b5⟩; have G2 := Lib.hid (And.intro q1 (And.intro q2 q3)); have RG2 := Lib.hid rg; have RG15 := Lib.hid (RG14.out.step b5); have R5 := Lib.hid (R4.out.step b5); have B5 := Lib.hid (B4.out.next b5); clear q1 q2 q3 rg b5)
    | ((with_reducible refine R5.out.wpStore1K 5 54 (.slice (some ⟨g2, 0, none⟩) nl k2) finfo_bools (HT5.out _) (slice_cells _ _ _) (slice_one _ _ _) ?_ ?_); rfl; intro w6 r6 o6 s6; have R6 := Lib.hid r6; have RG16 := Lib.hid (RG15.out.only o6 (by have := G1.out.1; have := R2.out.lt; omega)); have RG26 := Lib.hid (RG2.out.only o6 (by have := G2.out.1; have := R4.out.lt; omega)); have B6 := Lib.hid (B5.out.trans (o6.below (Nat.le_refl _) B5.out.size)); have c6 := H6.out w6 B6.out; clear r6 o6 s6)
    | (go_at_call 44; (with_reducible refine (HE.out w6 B6.out).mono ?_); rintro e w7 ⟨⟨g3, k3, z3, rfl, q1, q2, q3, rg⟩, b7⟩; have G3 := Lib.hid (And.intro q1 (And.intro q2 q3)); have RG3 := Lib.hid rg; have RG17 := Lib.hid (RG16.out.step b7); have RG27 := Lib.hid (RG26.out.step b7); have R7 := Lib.hid (R6.out.step b7); have B7 := Lib.hid (B6.out.next b7); clear q1 q2 q3 rg b7)
    | ((with_reducible refine R7.out.wpStore1K 6 47 (.slice (some ⟨g3, 0, none⟩) ne k3) finfo_ints (HT6.out _ _) (slice_cells _ _ _) (slice_one _ _ _) ?_ ?_); rfl; intro w8 r8 o8 s8; have R8 := Lib.hid r8; have RG18 := Lib.hid (RG17.out.only o8 (by have := G1.out.1; have := R2.out.lt; omega)); have RG28 := Lib.hid (RG27.out.only o8 (by have := G2.out.1; have := R4.out.lt; omega)); have RG38 := Lib.hid (RG3.out.only o8 (by have := G3.out.1; have := R6.out.lt; omega)); have B8 := Lib.hid (B7.out.trans (o8.below (Nat.le_refl _) B7.out.size)); clear r8 o8 s8))
  go_ret
  have hr8 := R8.out
  rw [HYS.out g1 k1 g2 k2 g3 k3 z1 z2 z3 w.heap.size] at hr8
  have x1 := G1.out
  have x2 := G2.out
  have x3 := G3.out
  have l2 := B2.out.size
  have l4 := B4.out.size
  have l6 := B6.out.size
  have n12 := row_ne RG18.out RG28.out (by decide)
  have n13 := row_ne RG18.out RG38.out (by decide)
  have n23 := row_ne RG28.out RG38.out (by decide)
  have y1 := R2.out.lt
  have y2 := R4.out.lt
  have y3 := R6.out.lt
  refine ⟨⟨w.heap.size, g1, k1, z1, g2, k2, z2, g3, k3, z3⟩, rfl, ⟨hr8, RG18.out, RG28.out, RG38.out, ?_, by rw [HNC.out]; exact x1.2.1, x1.2.2, HOK.out⟩, ?_, B8.out⟩
  · simp only [Sh.S, List.nodup_cons, List.mem_cons, List.not_mem_nil, or_false, not_or, not_false_eq_true, List.nodup_nil, and_true]
    exact ⟨⟨by omega, by omega, by omega⟩, ⟨n12, n13⟩, n23⟩
  · intro k hk
    simp only [Sh.S, List.mem_cons, List.not_mem_nil, or_false] at hk
    rcases hk with rfl | rfl | rfl | rfl <;> omega
end Go.Proofs.Ytgdfcfbccjdecaa
