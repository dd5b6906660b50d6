/- The texts B4, one behind the other: what the claim wants of them. -/
import Derived.OneCell
import Derived.Deep.QuietTactic
import Derived.BigQuiet
import Derived.StillTailTactics
import Derived.Laws.BitsAllLaws
import Derived.WalkKit
import Derived.PlainAid
import Derived.Test.YtnbjaijhdjneoaaGreatP3
namespace Go.Proofs.YtnbjaijhdjneoaaGreat
open Go.RowKit GfMath PolyMath RsMath SolMath
set_option linter.unusedVariables false
set_option maxRecDepth 100000

theorem Row.grown {w w' : World} {g : Nat} {t : TypeId} {l : List Value} {row : Option Nat} (h : Row w g t l) (hg : w.grownBy w' row) (hne : some g ≠ row) : Row w' g t l := (hg.block g h.lt hne).trans h
theorem Rd.step {l : List Nat} {v : Value} {w w' : World} (h : Rd l v w) (hb : Below w.heap.size w w') : Rd l v w' := Reads.step h hb
theorem wordF_snoc (W : List Nat) (d : Nat → Nat) (k : Nat) (hk : k < W.length) (h : d k = 0) : wordF W d (k + 1) = wordF W d k := by
  unfold wordF
  refine tab_congr _ fun n hn => ?_
  by_cases e : n = k
  · subst e; rw [if_pos (by omega), if_neg (by omega), h]
  · by_cases e2 : n < k
    · rw [if_pos (by omega), if_pos e2]
    · rw [if_neg (by omega), if_neg e2]
theorem wordF_set (W : List Nat) (d : Nat → Nat) (k : Nat) (hk : k < W.length) : (wordF W d k).set k (sq (wordF W d k) k ^^^ d k) = wordF W d (k + 1) := by
  have e : sq (wordF W d k) k = sq W k := by rw [wordF, sq_tab, if_pos hk, if_neg (by omega), Nat.xor_zero]
  rw [e, wordF, tab_set, wordF]
  refine tab_congr _ fun n hn => ?_
  by_cases e : n = k
  · subst e; rw [if_pos rfl, if_pos (by omega)]
  · rw [if_neg e]
    by_cases e2 : n < k
    · rw [if_pos e2, if_pos (by omega)]
    · rw [if_neg e2, if_neg (by omega)]
theorem wordF_zero (W : List Nat) (d : Nat → Nat) : wordF W d 0 = W := by
  unfold wordF
  conv => rhs; rw [← tab_self W]
  exact tab_congr _ fun n hn => by rw [if_neg (by omega), Nat.xor_zero]
theorem wordF_length (W : List Nat) (d : Nat → Nat) (k : Nat) : (wordF W d k).length = W.length := tab_length _ _
theorem wordF_by {W : List Nat} (hW : By W) {d : Nat → Nat} (hd : ∀ i, d i < 256) (k : Nat) : By (wordF W d k) := tab_by _ fun n _ => xor_lt (hW.sq _) (by split; exact hd _; omega)
theorem atF_skip (d : Nat → Nat) (k : Nat) (h : d k = 0) : atF d (k + 1) = atF d k := by simp [atF, List.range_succ, List.filter_append, h]
theorem atF_add (d : Nat → Nat) (k : Nat) (h : d k ≠ 0) : atF d (k + 1) = atF d k ++ [k] := by simp [atF, List.range_succ, List.filter_append, h]
theorem atF_le (d : Nat → Nat) (k : Nat) : (atF d k).length ≤ k := by
  have := List.length_filter_le (fun i => decide (d i ≠ 0)) (List.range k)
  rw [List.length_range] at this
  exact this
theorem u8s_take_set {w : World} {g : Nat} {l : List Nat} {ys : List Value} (h : Row w g 5 (u8s l ++ ys)) (k x : Nat) (hk : k < l.length) : Row (w.setCell ⟨g, k, none⟩ (.int .u8 (x : Int))) g 5 (u8s (l.set k x) ++ ys) := by
  have := h.set k (.int .u8 (x : Int))
  rwa [List.set_append_left _ _ (by rw [u8s_length]; omega), u8s_set] at this

set_option maxHeartbeats 8000000 in
theorem lay_any (s b n p g lost : Nat) (G : List Bool) (Vv Ev Tv : Value) (V E W R : List Nat) (rv : Value) (wb0 : Nat) (wo cw : Nat) (w : World) (h : Sol w s b n p g G lost Vv Ev Tv) (hn1 : 1 ≤ n) (hn : n ≤ 255) (hp1 : 1 ≤ p) (hp : p ≤ 64)
    (hV : Reads w Vv V) (hV8 : By V) (hVl : V.length ≤ 64) (hE : Reads w Ev E) (hE8 : By E) (hEl : E.length ≤ 300) (hR : Reads w rv R) (hR8 : By R) (hRl : R.length ≤ 300)
    (hW : Lies w w.heap.size (some ⟨wb0, wo, none⟩) (u8s W)) (hWl : W.length = n) (hW8 : By W) :
    Calls Tryz.prog 98 #[.pointer (some ⟨s, 0, none⟩), .slice (some ⟨wb0, wo, none⟩) n cw, rv] w fun e w' =>
      (∃ x y, e = .returned (.tuple #[x, y]) ∧ (∃ gm cm, x = .slice (some ⟨gm, 0, none⟩) n cm ∧ n ≤ cm ∧ w.heap.size ≤ gm ∧ Lies w' w'.heap.size (some ⟨gm, 0, none⟩) (u8s (layW n p W V R E))) ∧ IReads w' y (layP n p V R E)) ∧ Below w.heap.size w w' := by
  have HS0 := Lib.hid h
  have HV0 := Lib.hid hV
  have HE0 := Lib.hid hE
  have HR0 := Lib.hid hR
  have HV8 := Lib.hid hV8
  have HE8 := Lib.hid hE8
  have HR8 := Lib.hid hR8
  have HLT0 := Lib.hid h.lt
  have C00 := Lib.hid h.c0
  have C05 := Lib.hid h.c5
  have C06 := Lib.hid h.c6
  have hnb : (n : Int) ≤ 255 := by omega
  have hn0 : 1 ≤ (n : Int) := by omega
  have HN : Hid (1 ≤ n ∧ n ≤ 255) := Lib.hid ⟨hn1, hn⟩
  have HCL : Hid (∀ u, Below w.heap.size w u → Calls Tryz.prog 89 #[.slice (some ⟨wb0, wo, none⟩) n cw] u fun e w' =>
      (∃ g' c', e = .returned (.slice (some ⟨g', 0, none⟩) n c') ∧ u.heap.size ≤ g' ∧ n ≤ c' ∧ ∃ ys, Row w' g' 5 (u8s W ++ ys)) ∧ Below u.heap.size u w') := Lib.hid fun u hb => by
    have := clone_some wb0 wo cw W u (by omega) (by omega) (hW.step hb)
    rw [hWl] at this
    exact this.mono fun e w' ⟨⟨g', c', h1, h2, h3⟩, h4⟩ => ⟨⟨g', c', h1, h2, (own_lies h3).2, (own_row h3).2⟩, h4⟩
  have hAl := pms_two_le R E
  have hA8 : By (pms [R, E]) := pms_two_by hR8 hE8
  have HPM1 : Hid (∀ wx, Below w.heap.size w wx → ∀ v, Pls [R, E] v wx → Calls Tryz.prog 104 #[.pointer (some ⟨b, 0, none⟩), v] wx fun e w' => (∃ v, e = .returned v ∧ Reads w' v (pms [R, E])) ∧ Below wx.heap.size wx w') := Lib.hid fun wx hb v hv => pmulV b v _ wx (h.fld.step hb) hv (by simp) (by intro l hl; simp only [List.mem_cons, List.not_mem_nil, or_false] at hl; rcases hl with rfl | rfl <;> omega)
  have HD0 : Hid (dF n p V R E = dAt n (pms [R, E]) (beh (dl (pms [R, E]))) (lowl p (pms [V, pms [R, E]]))) := Lib.hid rfl
  obtain ⟨A, hA⟩ : ∃ A, pms [R, E] = A := ⟨_, rfl⟩
  rw [hA] at HPM1 HD0 hAl hA8
  have hdl := beh_le (dl A)
  have hdl2 := dl_le A
  have hS8 : By (beh (dl A)) := (dl_by hA8).beh
  have HDE : Hid (∀ wx, Below w.heap.size w wx → ∀ v, Rd A v wx → Calls Tryz.prog 122 #[.pointer (some ⟨b, 0, none⟩), v] wx fun e w' => (∃ v, e = .returned v ∧ Reads w' v (beh (dl A))) ∧ Below wx.heap.size wx w') := Lib.hid fun wx hb v hv => deriveV b v A wx hv hA8 (by omega)
  obtain ⟨S, hS⟩ : ∃ S, beh (dl A) = S := ⟨_, rfl⟩
  rw [hS] at HDE HD0 hdl hS8
  have hYl := pms_two_le V A
  have hY8 : By (pms [V, A]) := pms_two_by hV8 hA8
  have HPM2 : Hid (∀ wx, Below w.heap.size w wx → ∀ v, Pls [V, A] v wx → Calls Tryz.prog 104 #[.pointer (some ⟨b, 0, none⟩), v] wx fun e w' => (∃ v, e = .returned v ∧ Reads w' v (pms [V, A])) ∧ Below wx.heap.size wx w') := Lib.hid fun wx hb v hv => pmulV b v _ wx (h.fld.step hb) hv (by simp) (by intro l hl; simp only [List.mem_cons, List.not_mem_nil, or_false] at hl; rcases hl with rfl | rfl <;> omega)
  obtain ⟨Y, hY⟩ : ∃ Y, pms [V, A] = Y := ⟨_, rfl⟩
  rw [hY] at HPM2 HD0 hYl hY8
  have hZl := lowl_le p Y
  have hZ8 : By (lowl p Y) := lowl_by hY8 p
  have HLW : Hid (∀ wx, Below w.heap.size w wx → ∀ v, Rd Y v wx → Calls Tryz.prog 121 #[.pointer (some ⟨s, 0, none⟩), v] wx fun e w' => (∃ v, e = .returned v ∧ Reads w' v (lowl p Y)) ∧ Below wx.heap.size wx w') := Lib.hid fun wx hb v hv => low_any s b n p g G lost Vv Ev Tv v Y wx (h.step hb) hp1 (by omega) (by omega) hv
  obtain ⟨Z, hZ⟩ : ∃ Z, lowl p Y = Z := ⟨_, rfl⟩
  rw [hZ] at HLW HD0 hZl hZ8
  have HEA : Hid (∀ wx, Below w.heap.size w wx → ∀ v, Rd A v wx → ∀ x : Nat, x < 256 → Calls Tryz.prog 118 #[.pointer (some ⟨b, 0, none⟩), v, .int .u8 (x : Int)] wx fun e w' => e = .returned (.int .u8 (ev A x : Int)) ∧ Below wx.heap.size wx w') := Lib.hid fun wx hb v hv x hx => evalV b v A x wx (h.fld.step hb) hv hA8 hx (by omega)
  have HES : Hid (∀ wx, Below w.heap.size w wx → ∀ v, Rd S v wx → ∀ x : Nat, x < 256 → Calls Tryz.prog 118 #[.pointer (some ⟨b, 0, none⟩), v, .int .u8 (x : Int)] wx fun e w' => e = .returned (.int .u8 (ev S x : Int)) ∧ Below wx.heap.size wx w') := Lib.hid fun wx hb v hv x hx => evalV b v S x wx (h.fld.step hb) hv hS8 hx (by omega)
  have HEZ : Hid (∀ wx, Below w.heap.size w wx → ∀ v, Rd Z v wx → ∀ x : Nat, x < 256 → Calls Tryz.prog 118 #[.pointer (some ⟨b, 0, none⟩), v, .int .u8 (x : Int)] wx fun e w' => e = .returned (.int .u8 (ev Z x : Int)) ∧ Below wx.heap.size wx w') := Lib.hid fun wx hb v hv x hx => evalV b v Z x wx (h.fld.step hb) hv hZ8 hx (by omega)
  have HD8 : Hid (∀ i, dF n p V R E i < 256) := Lib.hid fun i => by rw [HD0.out]; exact dAt_lt n hZ8 i
  have HDX : Hid (∀ i, dF n p V R E i = if ev A (iv (mrk n i)) ≠ 0 then 0 else gm (mrk n i) (gm (ev Z (iv (mrk n i))) (iv (ev S (iv (mrk n i)))))) := Lib.hid fun i => by rw [HD0.out]; rfl
  have HLW2 : Hid (layW n p W V R E = wordF W (dF n p V R E) n) := Lib.hid rfl
  have HLP2 : Hid (layP n p V R E = atF (dF n p V R E) n) := Lib.hid rfl
  obtain ⟨d, hd⟩ : ∃ d, dF n p V R E = d := ⟨_, rfl⟩
  rw [hd] at HD8 HDX HLW2 HLP2
  rw [HLW2.out, HLP2.out]
  have HEZ8 : Hid (By Z ∧ By S) := Lib.hid ⟨hZ8, hS8⟩
  have HBA := Lib.hid hA8
  have HWS : Hid (∀ k, k < n → (wordF W d k).set k (sq (wordF W d k) k ^^^ d k) = wordF W d (k + 1)) := Lib.hid fun k hk => wordF_set W d k (by rw [hWl]; exact hk)
  have HW0 : Hid (wordF W d 0 = W) := Lib.hid (wordF_zero W d)
  have HWK : Hid (∀ k, k < n → d k = 0 → wordF W d (k + 1) = wordF W d k) := Lib.hid fun k hk h0 => wordF_snoc W d k (by rw [hWl]; exact hk) h0
  have HWL : Hid (∀ k, (wordF W d k).length = n) := Lib.hid fun k => by rw [wordF_length]; exact hWl
  have HWB : Hid (∀ k, By (wordF W d k)) := Lib.hid fun k => wordF_by hW8 HD8.out k
  clear h hV hE hR hV8 hE8 hR8 hVl hEl hRl hW hWl hW8 hn1 hn hp1 hp hA hS hY hZ hd hAl hA8 hdl hdl2 hS8 hYl hY8 hZl hZ8 HD0 HLW2 HLP2
  go_enter Tryz.func98, Tryz.ntmps98
  go_wp2
  refine region_invX [(0, 18), (1, 19), (2, 20), (3, 21), (4, 22), (5, 23), (6, 24), (7, 25), (8, 26), (9, 27), (10, 28), (11, 8)]
    (fun ii => [Is (.pointer (some ⟨s, 0, none⟩)), Is (.pointer (some ⟨s, 0, none⟩)), Is (.pointer (some ⟨s, 0, none⟩)), Is (.pointer (some ⟨b, 0, none⟩)), Rd R, Is (.pointer (some ⟨s, 0, none⟩)), Is (.pointer (some ⟨s, 0, none⟩)), Is (.pointer (some ⟨s, 6, none⟩)), Rd E, Pls [R, E], Rd A, Rd A].getD ii (Is undef))
    (fun w' => Below w.heap.size w w') (by kernel_rfl) (by kernel_rfl) (by decide) (by decide) (by kernel_rfl) rfl ?monog ((Below.refl _ _).drew) ?stepg ?fing
  case monog =>
    intro i
    match i with
    | 0 | 1 | 2 | 3 | 5 | 6 | 7 => exact Is.monot _
    | 4 | 8 | 10 | 11 => exact Rd.monot _
    | 9 => exact Pls.monot _
    | _ + 12 => exact Is.monot _
  case stepg =>
    refine List.forall_mem_cons.2 ⟨?gs0, List.forall_mem_cons.2 ⟨?gs1, List.forall_mem_cons.2 ⟨?gs2, List.forall_mem_cons.2 ⟨?gs3, List.forall_mem_cons.2 ⟨?gs4, List.forall_mem_cons.2 ⟨?gs5, List.forall_mem_cons.2 ⟨?gs6, List.forall_mem_cons.2 ⟨?gs7, List.forall_mem_cons.2 ⟨?gs8, List.forall_mem_cons.2 ⟨?gs9, List.forall_mem_cons.2 ⟨?gs10, List.forall_mem_cons.2 ⟨?gs11, List.forall_mem_nil _⟩⟩⟩⟩⟩⟩⟩⟩⟩⟩⟩⟩
    case gs0 =>
      intro u wx hg hC
      clear hC
      refine wpOp_step rfl (fun K hK => ?_)
      simp only [puts, List.foldl]
      go_simp
      exact hK _ _ ⟨rfl, rfl, hg, Below.refl _ _⟩
    case gs1 =>
      intro u wx hg hC
      have hJ0 : u 0 = (.pointer (some ⟨s, 0, none⟩)) := hC.at 0 (by kernel_rfl)
      clear hC
      refine wpOp_step rfl (fun K hK => ?_)
      simp only [puts, List.foldl]
      go_simp
      exact hK _ _ ⟨rfl, rfl, hg, Below.refl _ _⟩
    case gs2 =>
      intro u wx hg hC
      have hJ1 : u 1 = (.pointer (some ⟨s, 0, none⟩)) := hC.at 1 (by kernel_rfl)
      clear hC
      refine wpOp_step rfl (fun K hK => ?_)
      simp only [puts, List.foldl]
      go_simp
      exact hK _ _ ⟨rfl, rfl, hg, Below.refl _ _⟩
    case gs3 =>
      intro u wx hg hC
      have hJ2 : u 2 = (.pointer (some ⟨s, 0, none⟩)) := hC.at 2 (by kernel_rfl)
      clear hC
      have hcl : wx.cell? ⟨s, 0, none⟩ = some (.pointer (some ⟨b, 0, none⟩)) := (hg.cell (p := ⟨s, 0, none⟩) HLT0.out).trans C00.out
      refine wpOp_step rfl (fun K hK => ?_)
      simp only [puts, List.foldl]
      go_simp
      exact hK _ _ ⟨rfl, rfl, hg, Below.refl _ _⟩
    case gs4 =>
      intro u wx hg hC
      clear hC
      refine wpOp_step rfl (fun K hK => ?_)
      simp only [puts, List.foldl]
      go_simp
      exact hK _ _ ⟨rfl, HR0.out.step hg, hg, Below.refl _ _⟩
    case gs5 =>
      intro u wx hg hC
      clear hC
      refine wpOp_step rfl (fun K hK => ?_)
      simp only [puts, List.foldl]
      go_simp
      exact hK _ _ ⟨rfl, rfl, hg, Below.refl _ _⟩
    case gs6 =>
      intro u wx hg hC
      have hJ5 : u 5 = (.pointer (some ⟨s, 0, none⟩)) := hC.at 5 (by kernel_rfl)
      clear hC
      refine wpOp_step rfl (fun K hK => ?_)
      simp only [puts, List.foldl]
      go_simp
      exact hK _ _ ⟨rfl, rfl, hg, Below.refl _ _⟩
    case gs7 =>
      intro u wx hg hC
      have hJ6 : u 6 = (.pointer (some ⟨s, 0, none⟩)) := hC.at 6 (by kernel_rfl)
      clear hC
      refine wpOp_step rfl (fun K hK => ?_)
      simp only [puts, List.foldl]
      go_simp
      exact hK _ _ ⟨rfl, rfl, hg, Below.refl _ _⟩
    case gs8 =>
      intro u wx hg hC
      have hJ7 : u 7 = (.pointer (some ⟨s, 6, none⟩)) := hC.at 7 (by kernel_rfl)
      clear hC
      have hcl : wx.cell? ⟨s, 6, none⟩ = some Ev := (hg.cell (p := ⟨s, 6, none⟩) HLT0.out).trans C06.out
      refine wpOp_step rfl (fun K hK => ?_)
      simp only [puts, List.foldl]
      go_simp
      exact hK _ _ ⟨rfl, HE0.out.step hg, hg, Below.refl _ _⟩
    case gs9 =>
      intro u wx hg hC
      obtain ⟨a4, c4, e4, q4⟩ : (Rd R) (u 4) wx := hC.at 4 (by kernel_rfl)
      have hJ4 : Rd (R) (.slice a4 (R).length c4) wx := ⟨_, _, rfl, q4⟩
      obtain ⟨a8, c8, e8, q8⟩ : (Rd E) (u 8) wx := hC.at 8 (by kernel_rfl)
      have hJ8 : Rd (E) (.slice a8 (E).length c8) wx := ⟨_, _, rfl, q8⟩
      clear hC
      refine wpOp_step rfl (fun K hK => ?_)
      simp only [puts, List.foldl]
      go_simp
      refine hK _ _ ⟨rfl, ?_, hg.alloc hg.size _, alloc_below _ _⟩
      change Pls [R, E] _ _
      exact pls_two (HR8.out) (HE8.out) (hJ4) (hJ8)
    case gs10 =>
      intro u wx hg hC
      have hJ3 : u 3 = (.pointer (some ⟨b, 0, none⟩)) := hC.at 3 (by kernel_rfl)
      have hJ9 : (Pls [R, E]) (u 9) wx := hC.at 9 (by kernel_rfl)
      clear hC
      refine wpOp_step rfl (fun K hK => ?_)
      simp only [puts, List.foldl]
      go_simp
      refine (HPM1.out wx hg _ hJ9).mono ?_
      rintro e w' ⟨⟨v, rfl, hv⟩, hb'⟩
      exact hK _ _ ⟨rfl, hv, hg.next hb', hb'⟩
    case gs11 =>
      intro u wx hg hC
      have hJ10 : (Rd A) (u 10) wx := hC.at 10 (by kernel_rfl)
      clear hC
      refine wpOp_step rfl (fun K hK => ?_)
      simp only [puts, List.foldl]
      go_simp
      exact hK _ _ ⟨rfl, hJ10, hg, Below.refl _ _⟩
  case fing =>
    intro u w0 hb0 hφ
    have h8 : Rd A (u 11) w0 := hφ (11, 8) (by decide)
    clear hφ
    simp only [puts, List.foldl]
    go_simp
    obtain ⟨av, hav⟩ : ∃ v, u 11 = v := ⟨_, rfl⟩
    rw [hav] at h8 ⊢
    have HA0 : Hid (Rd A av w0) := Lib.hid h8
    have BW0 := Lib.hid hb0
    have c00 := (HS0.out.step hb0).c0
    clear h8 hb0 hav
    go_wp2_with (first
      | (go_at_call 122; (with_reducible refine (HDE.out w0 BW0.out av HA0.out).mono ?_); rintro e w1 ⟨⟨sv, rfl, h1⟩, b1⟩; have BW1 := Lib.hid (BW0.out.next b1); have HSL1 := Lib.hid h1; have HA1 := Lib.hid (HA0.out.step b1); clear h1 b1))
    have HLT1 : Hid (s < w1.heap.size) := Lib.hid (HS0.out.step BW1.out).lt
    have C01 : Hid (w1.cell? ⟨s, 0, none⟩ = some (.pointer (some ⟨b, 0, none⟩))) := Lib.hid (HS0.out.step BW1.out).c0
    have C51 : Hid (w1.cell? ⟨s, 5, none⟩ = some Vv) := Lib.hid (HS0.out.step BW1.out).c5
    clear c00
    refine region_invX [(0, 35), (1, 36), (2, 37), (3, 38), (4, 39), (5, 40), (6, 41), (7, 42), (8, 43), (9, 44), (10, 45), (11, 46), (12, 47), (13, 10)]
      (fun ii => [Is (.pointer (some ⟨s, 0, none⟩)), Is (.pointer (some ⟨s, 0, none⟩)), Is (.pointer (some ⟨s, 0, none⟩)), Is (.pointer (some ⟨s, 0, none⟩)), Is (.pointer (some ⟨b, 0, none⟩)), Is (.pointer (some ⟨s, 0, none⟩)), Is (.pointer (some ⟨s, 0, none⟩)), Is (.pointer (some ⟨s, 5, none⟩)), Rd V, Rd A, Pls [V, A], Rd Y, Rd Z, Rd Z].getD ii (Is undef))
      (fun w' => Below w1.heap.size w1 w') (by kernel_rfl) (by kernel_rfl) (by decide) (by decide) (by kernel_rfl) rfl ?monoh ((Below.refl _ _).drew) ?steph ?finh
    case monoh =>
      intro i
      match i with
      | 0 | 1 | 2 | 3 | 4 | 5 | 6 | 7 => exact Is.monot _
      | 8 | 9 | 11 | 12 | 13 => exact Rd.monot _
      | 10 => exact Pls.monot _
      | _ + 14 => exact Is.monot _
    case steph =>
      refine List.forall_mem_cons.2 ⟨?hs0, List.forall_mem_cons.2 ⟨?hs1, List.forall_mem_cons.2 ⟨?hs2, List.forall_mem_cons.2 ⟨?hs3, List.forall_mem_cons.2 ⟨?hs4, List.forall_mem_cons.2 ⟨?hs5, List.forall_mem_cons.2 ⟨?hs6, List.forall_mem_cons.2 ⟨?hs7, List.forall_mem_cons.2 ⟨?hs8, List.forall_mem_cons.2 ⟨?hs9, List.forall_mem_cons.2 ⟨?hs10, List.forall_mem_cons.2 ⟨?hs11, List.forall_mem_cons.2 ⟨?hs12, List.forall_mem_cons.2 ⟨?hs13, List.forall_mem_nil _⟩⟩⟩⟩⟩⟩⟩⟩⟩⟩⟩⟩⟩⟩
      case hs0 =>
        intro u wx hg hC
        clear hC
        refine wpOp_step rfl (fun K hK => ?_)
        simp only [puts, List.foldl]
        go_simp
        exact hK _ _ ⟨rfl, rfl, hg, Below.refl _ _⟩
      case hs1 =>
        intro u wx hg hC
        clear hC
        refine wpOp_step rfl (fun K hK => ?_)
        simp only [puts, List.foldl]
        go_simp
        exact hK _ _ ⟨rfl, rfl, hg, Below.refl _ _⟩
      case hs2 =>
        intro u wx hg hC
        have hJ1 : u 1 = (.pointer (some ⟨s, 0, none⟩)) := hC.at 1 (by kernel_rfl)
        clear hC
        refine wpOp_step rfl (fun K hK => ?_)
        simp only [puts, List.foldl]
        go_simp
        exact hK _ _ ⟨rfl, rfl, hg, Below.refl _ _⟩
      case hs3 =>
        intro u wx hg hC
        have hJ2 : u 2 = (.pointer (some ⟨s, 0, none⟩)) := hC.at 2 (by kernel_rfl)
        clear hC
        refine wpOp_step rfl (fun K hK => ?_)
        simp only [puts, List.foldl]
        go_simp
        exact hK _ _ ⟨rfl, rfl, hg, Below.refl _ _⟩
      case hs4 =>
        intro u wx hg hC
        have hJ3 : u 3 = (.pointer (some ⟨s, 0, none⟩)) := hC.at 3 (by kernel_rfl)
        clear hC
        have hcl : wx.cell? ⟨s, 0, none⟩ = some (.pointer (some ⟨b, 0, none⟩)) := (hg.cell (p := ⟨s, 0, none⟩) HLT1.out).trans C01.out
        refine wpOp_step rfl (fun K hK => ?_)
        simp only [puts, List.foldl]
        go_simp
        exact hK _ _ ⟨rfl, rfl, hg, Below.refl _ _⟩
      case hs5 =>
        intro u wx hg hC
        clear hC
        refine wpOp_step rfl (fun K hK => ?_)
        simp only [puts, List.foldl]
        go_simp
        exact hK _ _ ⟨rfl, rfl, hg, Below.refl _ _⟩
      case hs6 =>
        intro u wx hg hC
        have hJ5 : u 5 = (.pointer (some ⟨s, 0, none⟩)) := hC.at 5 (by kernel_rfl)
        clear hC
        refine wpOp_step rfl (fun K hK => ?_)
        simp only [puts, List.foldl]
        go_simp
        exact hK _ _ ⟨rfl, rfl, hg, Below.refl _ _⟩
      case hs7 =>
        intro u wx hg hC
        have hJ6 : u 6 = (.pointer (some ⟨s, 0, none⟩)) := hC.at 6 (by kernel_rfl)
        clear hC
        refine wpOp_step rfl (fun K hK => ?_)
        simp only [puts, List.foldl]
        go_simp
        exact hK _ _ ⟨rfl, rfl, hg, Below.refl _ _⟩
      case hs8 =>
        intro u wx hg hC
        have hJ7 : u 7 = (.pointer (some ⟨s, 5, none⟩)) := hC.at 7 (by kernel_rfl)
        clear hC
        have hcl : wx.cell? ⟨s, 5, none⟩ = some Vv := (hg.cell (p := ⟨s, 5, none⟩) HLT1.out).trans C51.out
        refine wpOp_step rfl (fun K hK => ?_)
        simp only [puts, List.foldl]
        go_simp
        exact hK _ _ ⟨rfl, (HV0.out.step BW1.out).step hg, hg, Below.refl _ _⟩
      case hs9 =>
        intro u wx hg hC
        clear hC
        refine wpOp_step rfl (fun K hK => ?_)
        simp only [puts, List.foldl]
        go_simp
        exact hK _ _ ⟨rfl, HA1.out.step hg, hg, Below.refl _ _⟩
      case hs10 =>
        intro u wx hg hC
        obtain ⟨a8, c8, e8, q8⟩ : (Rd V) (u 8) wx := hC.at 8 (by kernel_rfl)
        have hJ8 : Rd (V) (.slice a8 (V).length c8) wx := ⟨_, _, rfl, q8⟩
        obtain ⟨a9, c9, e9, q9⟩ : (Rd A) (u 9) wx := hC.at 9 (by kernel_rfl)
        have hJ9 : Rd (A) (.slice a9 (A).length c9) wx := ⟨_, _, rfl, q9⟩
        clear hC
        refine wpOp_step rfl (fun K hK => ?_)
        simp only [puts, List.foldl]
        go_simp
        refine hK _ _ ⟨rfl, ?_, hg.alloc hg.size _, alloc_below _ _⟩
        change Pls [V, A] _ _
        exact pls_two (HV8.out) (HBA.out) (hJ8) (hJ9)
      case hs11 =>
        intro u wx hg hC
        have hJ4 : u 4 = (.pointer (some ⟨b, 0, none⟩)) := hC.at 4 (by kernel_rfl)
        have hJ10 : (Pls [V, A]) (u 10) wx := hC.at 10 (by kernel_rfl)
        clear hC
        refine wpOp_step rfl (fun K hK => ?_)
        simp only [puts, List.foldl]
        go_simp
        refine (HPM2.out wx (BW1.out.next hg) _ hJ10).mono ?_
        rintro e w' ⟨⟨v, rfl, hv⟩, hb'⟩
        exact hK _ _ ⟨rfl, hv, hg.next hb', hb'⟩
      case hs12 =>
        intro u wx hg hC
        have hJ0 : u 0 = (.pointer (some ⟨s, 0, none⟩)) := hC.at 0 (by kernel_rfl)
        have hJ11 : (Rd Y) (u 11) wx := hC.at 11 (by kernel_rfl)
        clear hC
        refine wpOp_step rfl (fun K hK => ?_)
        simp only [puts, List.foldl]
        go_simp
        refine (HLW.out wx (BW1.out.next hg) _ hJ11).mono ?_
        rintro e w' ⟨⟨v, rfl, hv⟩, hb'⟩
        exact hK _ _ ⟨rfl, hv, hg.next hb', hb'⟩
      case hs13 =>
        intro u wx hg hC
        have hJ12 : (Rd Z) (u 12) wx := hC.at 12 (by kernel_rfl)
        clear hC
        refine wpOp_step rfl (fun K hK => ?_)
        simp only [puts, List.foldl]
        go_simp
        exact hK _ _ ⟨rfl, hJ12, hg, Below.refl _ _⟩
    case finh =>
      intro u w2 hb2 hφ
      have h10 : Rd Z (u 13) w2 := hφ (13, 10) (by decide)
      clear hφ
      simp only [puts, List.foldl]
      go_simp
      obtain ⟨zv, hzv⟩ : ∃ v, u 13 = v := ⟨_, rfl⟩
      rw [hzv] at h10 ⊢
      have HZ2 : Hid (Reads w2 zv Z) := Lib.hid h10
      have BW2 := Lib.hid (BW1.out.next hb2)
      have HA2 := Lib.hid (HA1.out.step hb2)
      have HSL2 := Lib.hid (HSL1.out.step hb2)
      clear h10 hb2 hzv
      go_wp2_with (first
        | (go_at_call 89; (with_reducible refine (HCL.out w2 BW2.out).mono ?_); rintro e wc' ⟨⟨gM, cm, rfl, q1, q2, ys, r1⟩, b1⟩; have HGB : Hid (w2.heap.size ≤ gM) := Lib.hid q1; have HCM : Hid (n ≤ cm) := Lib.hid q2; have RM := Lib.hid r1; have BC := Lib.hid b1; have c1 := ((HS0.out.step BW2.out).step b1).c1; clear q1 q2 r1 b1))
      have HSC := Lib.hid (HS0.out.step BW2.out)
      have HBC := Lib.hid BW2.out
      have HAC := Lib.hid HA2.out
      have HSLC := Lib.hid HSL2.out
      have HZC := Lib.hid HZ2.out
      clear BW1 BW2 HA1 HA2 HSL1 HSL2 HZ2
      generalize w2 = wc at *
      clear HCL HPM1 HPM2 HDE HLW HV0 HE0 HR0 HLT0 C00 C05 C06 HV8 HE8 HR8 HBA
      go_loopw [12, 54] (fun pv i wr => ∃ k : Nat, k ≤ n ∧ i = .int .i64 k ∧ wr.ownsRow (gM + 1) 3 1 pv (atF d k).length (nats (atF d k)) ∧ Row wr gM 5 (u8s (wordF W d k) ++ ys) ∧ Below wc.heap.size wc wr) (fun _ i _ => n - (intOf i).toNat)
      case atStart => exact ⟨0, Nat.zero_le _, rfl, ⟨rfl, .inl ⟨rfl, rfl⟩⟩, by rw [HW0.out]; exact RM.out, BC.out⟩
      case round =>
        clear RM BC c1
        obtain ⟨k, hk, rfl, how, hrm, hbr⟩ := hrel
        have OWR := Lib.hid how
        have RMR := Lib.hid hrm
        have HBR := Lib.hid hbr
        by_cases hlt : k < n
        · have HKN : Hid (k < n) := Lib.hid hlt
          have hki : (k : Int) < (n : Int) := by omega
          have HSR := Lib.hid (HSC.out.step hbr)
          have RAR := Lib.hid (HAC.out.step hbr)
          have RSR := Lib.hid (HSLC.out.step hbr)
          have RZR := Lib.hid (HZC.out.step hbr)
          have HBW2 : Hid (Below w.heap.size w wr) := Lib.hid (HBC.out.next hbr)
          have HLTR := Lib.hid HSR.out.lt
          have C0R := Lib.hid HSR.out.c0
          have HMK : Hid (∀ wx, Below wr.heap.size wr wx → Calls Tryz.prog 120 #[.pointer (some ⟨s, 0, none⟩), .int .i64 (k : Int)] wx fun e w' => e = .returned (.int .u8 (mrk n k : Int)) ∧ Below wx.heap.size wx w') := Lib.hid fun wx hb => mark_any s b n p g G lost Vv Ev Tv k wx (HSR.out.step hb) HN.out.2 hlt
          have HM8 : Hid (mrk n k < 256) := Lib.hid (mrk_lt n k)
          have HDKX := Lib.hid (HDX.out k)
          have HIV0 : Hid (∀ wx, Below wr.heap.size wr wx → Calls Tryz.prog 112 #[.pointer (some ⟨b, 0, none⟩), .int .u8 (mrk n k : Int)] wx fun e w' => e = .returned (.tuple #[.int .u8 (iv (mrk n k) : Int), .bool (decide (mrk n k ≠ 0))]) ∧ Below wx.heap.size wx w') := Lib.hid fun wx hb => invV b _ wx (HSR.out.fld.step hb) (mrk_lt n k)
          obtain ⟨mk, hmk⟩ : ∃ m, mrk n k = m := ⟨_, rfl⟩
          rw [hmk] at HMK HM8 HDKX HIV0
          have HX8 : Hid (iv mk < 256) := Lib.hid (iv_lt mk)
          obtain ⟨b1, hb1⟩ : ∃ b1, decide (mk ≠ 0) = b1 := ⟨_, rfl⟩
          rw [hb1] at HIV0
          obtain ⟨x, hx⟩ : ∃ x, iv mk = x := ⟨_, rfl⟩
          rw [hx] at HX8 HDKX HIV0
          have HIV := HIV0
          clear how hrm hbr hmk hb1 hx HIV0
          go_wp2
          refine region_invX [(0, 58), (1, 59), (2, 60), (3, 61), (4, 62), (5, 63), (6, 64), (7, 65), (8, 57), (9, 66), (10, 67), (11, 14), (12, 15)]
            (fun ii => [Is (.pointer (some ⟨s, 0, none⟩)), Is (.pointer (some ⟨s, 0, none⟩)), Is (.pointer (some ⟨s, 0, none⟩)), Is (.pointer (some ⟨b, 0, none⟩)), Is (.pointer (some ⟨s, 0, none⟩)), Is (.int .i64 (k : Int)), Is (.int .u8 (mk : Int)), Is (.tuple #[.int .u8 (x : Int), .bool b1]), Is (.tuple #[.int .u8 (x : Int), .bool b1]), Is (.int .u8 (x : Int)), Is (.bool b1), Is (.int .u8 (x : Int)), Is (.bool b1)].getD ii (Is undef))
            (fun w' => Below wr.heap.size wr w') (by kernel_rfl) (by kernel_rfl) (by decide) (by decide) (by kernel_rfl) rfl ?monof ((Below.refl _ _).drew) ?stepf ?finf
          case monof =>
            intro i
            match i with
            | 0 | 1 | 2 | 3 | 4 | 5 | 6 | 7 | 8 | 9 | 10 | 11 | 12 => exact Is.monot _
            | _ + 13 => exact Is.monot _
          case stepf =>
            refine List.forall_mem_cons.2 ⟨?fs0, List.forall_mem_cons.2 ⟨?fs1, List.forall_mem_cons.2 ⟨?fs2, List.forall_mem_cons.2 ⟨?fs3, List.forall_mem_cons.2 ⟨?fs4, List.forall_mem_cons.2 ⟨?fs5, List.forall_mem_cons.2 ⟨?fs6, List.forall_mem_cons.2 ⟨?fs7, List.forall_mem_cons.2 ⟨?fs8, List.forall_mem_cons.2 ⟨?fs9, List.forall_mem_cons.2 ⟨?fs10, List.forall_mem_cons.2 ⟨?fs11, List.forall_mem_cons.2 ⟨?fs12, List.forall_mem_nil _⟩⟩⟩⟩⟩⟩⟩⟩⟩⟩⟩⟩⟩
            case fs0 =>
              intro u wx hg hC
              clear hC
              refine wpOp_step rfl (fun K hK => ?_)
              simp only [puts, List.foldl]
              go_simp
              exact hK _ _ ⟨rfl, rfl, hg, Below.refl _ _⟩
            case fs1 =>
              intro u wx hg hC
              have hJ0 : u 0 = (.pointer (some ⟨s, 0, none⟩)) := hC.at 0 (by kernel_rfl)
              clear hC
              refine wpOp_step rfl (fun K hK => ?_)
              simp only [puts, List.foldl]
              go_simp
              exact hK _ _ ⟨rfl, rfl, hg, Below.refl _ _⟩
            case fs2 =>
              intro u wx hg hC
              have hJ1 : u 1 = (.pointer (some ⟨s, 0, none⟩)) := hC.at 1 (by kernel_rfl)
              clear hC
              refine wpOp_step rfl (fun K hK => ?_)
              simp only [puts, List.foldl]
              go_simp
              exact hK _ _ ⟨rfl, rfl, hg, Below.refl _ _⟩
            case fs3 =>
              intro u wx hg hC
              have hJ2 : u 2 = (.pointer (some ⟨s, 0, none⟩)) := hC.at 2 (by kernel_rfl)
              clear hC
              have hcl : wx.cell? ⟨s, 0, none⟩ = some (.pointer (some ⟨b, 0, none⟩)) := (hg.cell (p := ⟨s, 0, none⟩) HLTR.out).trans C0R.out
              refine wpOp_step rfl (fun K hK => ?_)
              simp only [puts, List.foldl]
              go_simp
              exact hK _ _ ⟨rfl, rfl, hg, Below.refl _ _⟩
            case fs4 =>
              intro u wx hg hC
              clear hC
              refine wpOp_step rfl (fun K hK => ?_)
              simp only [puts, List.foldl]
              go_simp
              exact hK _ _ ⟨rfl, rfl, hg, Below.refl _ _⟩
            case fs5 =>
              intro u wx hg hC
              clear hC
              refine wpOp_step rfl (fun K hK => ?_)
              simp only [puts, List.foldl]
              go_simp
              exact hK _ _ ⟨rfl, rfl, hg, Below.refl _ _⟩
            case fs6 =>
              intro u wx hg hC
              have hJ4 : u 4 = (.pointer (some ⟨s, 0, none⟩)) := hC.at 4 (by kernel_rfl)
              have hJ5 : u 5 = (.int .i64 (k : Int)) := hC.at 5 (by kernel_rfl)
              clear hC
              refine wpOp_step rfl (fun K hK => ?_)
              simp only [puts, List.foldl]
              go_simp
              refine (HMK.out wx hg).mono ?_
              rintro e w' ⟨rfl, hb'⟩
              exact hK _ _ ⟨rfl, rfl, hg.next hb', hb'⟩
            case fs7 =>
              intro u wx hg hC
              have hJ3 : u 3 = (.pointer (some ⟨b, 0, none⟩)) := hC.at 3 (by kernel_rfl)
              have hJ6 : u 6 = (.int .u8 (mk : Int)) := hC.at 6 (by kernel_rfl)
              clear hC
              refine wpOp_step rfl (fun K hK => ?_)
              simp only [puts, List.foldl]
              go_simp
              refine (HIV.out wx hg).mono ?_
              rintro e w' ⟨rfl, hb'⟩
              exact hK _ _ ⟨rfl, rfl, hg.next hb', hb'⟩
            case fs8 =>
              intro u wx hg hC
              have hJ7 : u 7 = (.tuple #[.int .u8 (x : Int), .bool b1]) := hC.at 7 (by kernel_rfl)
              clear hC
              refine wpOp_step rfl (fun K hK => ?_)
              simp only [puts, List.foldl]
              go_simp
              exact hK _ _ ⟨rfl, rfl, hg, Below.refl _ _⟩
            case fs9 =>
              intro u wx hg hC
              have hJ8 : u 8 = (.tuple #[.int .u8 (x : Int), .bool b1]) := hC.at 8 (by kernel_rfl)
              clear hC
              refine wpOp_step rfl (fun K hK => ?_)
              simp only [puts, List.foldl]
              go_simp
              exact hK _ _ ⟨rfl, rfl, hg, Below.refl _ _⟩
            case fs10 =>
              intro u wx hg hC
              have hJ8 : u 8 = (.tuple #[.int .u8 (x : Int), .bool b1]) := hC.at 8 (by kernel_rfl)
              clear hC
              refine wpOp_step rfl (fun K hK => ?_)
              simp only [puts, List.foldl]
              go_simp
              exact hK _ _ ⟨rfl, rfl, hg, Below.refl _ _⟩
            case fs11 =>
              intro u wx hg hC
              have hJ9 : u 9 = (.int .u8 (x : Int)) := hC.at 9 (by kernel_rfl)
              clear hC
              refine wpOp_step rfl (fun K hK => ?_)
              simp only [puts, List.foldl]
              go_simp
              exact hK _ _ ⟨rfl, rfl, hg, Below.refl _ _⟩
            case fs12 =>
              intro u wx hg hC
              have hJ10 : u 10 = (.bool b1) := hC.at 10 (by kernel_rfl)
              clear hC
              refine wpOp_step rfl (fun K hK => ?_)
              simp only [puts, List.foldl]
              go_simp
              exact hK _ _ ⟨rfl, rfl, hg, Below.refl _ _⟩
          case finf =>
            intro u w3 hb3 hφ
            have e14 : u 11 = .int .u8 (x : Int) := hφ (11, 14) (by decide)
            clear hφ
            simp only [puts, List.foldl]
            go_simp
            have BA3 := Lib.hid hb3
            have c03 := (HSR.out.step hb3).c0
            have HRA3 := Lib.hid (RAR.out.step hb3)
            clear hb3
            by_cases ha : ev A x = 0
            · have HDK0 : Hid (d k = gm mk (gm (ev Z x) (iv (ev S x)))) := Lib.hid (by rw [HDKX.out, if_neg (by omega)])
              have HEV : Hid (∀ u, Below wr.heap.size wr u → Rd A av u → Calls Tryz.prog 118 #[.pointer (some ⟨b, 0, none⟩), av, .int .u8 (x : Int)] u fun e w' => e = .returned (.int .u8 0) ∧ Below u.heap.size u w') := Lib.hid fun u hb hr => by
                have := HEA.out u (HBW2.out.next hb) av hr x HX8.out
                rwa [ha] at this
              have hl1 := ev_lt HEZ8.out.1 HX8.out
              have hl2 := ev_lt HEZ8.out.2 HX8.out
              have HEZX : Hid (∀ wx, Below wr.heap.size wr wx → ∀ v, Rd Z v wx → Calls Tryz.prog 118 #[.pointer (some ⟨b, 0, none⟩), v, .int .u8 (x : Int)] wx fun e w' => e = .returned (.int .u8 (ev Z x : Int)) ∧ Below wx.heap.size wx w') := Lib.hid fun wx hb v hv => HEZ.out wx (HBW2.out.next hb) v hv x HX8.out
              have HESX : Hid (∀ wx, Below wr.heap.size wr wx → ∀ v, Rd S v wx → Calls Tryz.prog 118 #[.pointer (some ⟨b, 0, none⟩), v, .int .u8 (x : Int)] wx fun e w' => e = .returned (.int .u8 (ev S x : Int)) ∧ Below wx.heap.size wx w') := Lib.hid fun wx hb v hv => HES.out wx (HBW2.out.next hb) v hv x HX8.out
              obtain ⟨l1, h1⟩ : ∃ l, ev Z x = l := ⟨_, rfl⟩
              obtain ⟨l2, h2⟩ : ∃ l, ev S x = l := ⟨_, rfl⟩
              rw [h1] at hl1 HEZX HDK0
              rw [h2] at hl2 HESX HDK0
              have HDI0 : Hid (∀ wx, Below wr.heap.size wr wx → Calls Tryz.prog 90 #[.pointer (some ⟨b, 0, none⟩), .int .u8 (l1 : Int), .int .u8 (l2 : Int)] wx fun e w' => e = .returned (.tuple #[.int .u8 (gm l1 (iv l2) : Int), .bool (decide (l2 ≠ 0))]) ∧ Below wx.heap.size wx w') := Lib.hid fun wx hb => divV b l1 l2 wx (HSR.out.fld.step hb) hl1 hl2
              have hd08 : gm l1 (iv l2) < 256 := gm_lt hl1 (iv_lt _)
              obtain ⟨b2, hb2⟩ : ∃ b2, decide (l2 ≠ 0) = b2 := ⟨_, rfl⟩
              rw [hb2] at HDI0
              obtain ⟨d0, hd0⟩ : ∃ d0, gm l1 (iv l2) = d0 := ⟨_, rfl⟩
              rw [hd0] at HDI0 hd08 HDK0
              have HDI := HDI0
              have HMU : Hid (∀ wx, Below wr.heap.size wr wx → ∀ v, Rd [mk, d0] v wx → Calls Tryz.prog 86 #[.pointer (some ⟨b, 0, none⟩), v] wx fun e w' => e = .returned (.int .u8 (gm mk d0 : Int)) ∧ Below wx.heap.size wx w') := Lib.hid fun wx hb v hv => by
                have := mulV b v [mk, d0] wx (HSR.out.fld.step hb) hv (by_two HM8.out hd08) (by simp)
                rwa [prod_two HM8.out] at this
              have HDK8 : Hid (gm mk d0 < 256) := Lib.hid (gm_lt HM8.out hd08)
              obtain ⟨dk, hdk⟩ : ∃ dk, gm mk d0 = dk := ⟨_, rfl⟩
              rw [hdk] at HMU HDK0 HDK8
              have HDK := HDK0
              clear ha h1 h2 hb2 hd0 hdk hl1 hl2 hd08 HDI0 HDKX
              go_wp2_with (go_at_call 118; (with_reducible refine (HEV.out w3 BA3.out HRA3.out).mono ?_); rintro e w4 ⟨rfl, b4⟩; have BA4 := Lib.hid (BA3.out.next b4); clear b4)
              have HLT4 : Hid (s < w4.heap.size) := Lib.hid (HSR.out.step BA4.out).lt
              have C04' : Hid (w4.cell? ⟨s, 0, none⟩ = some (.pointer (some ⟨b, 0, none⟩))) := Lib.hid (HSR.out.step BA4.out).c0
              clear c03 e14
              refine region_invX [(0, 77), (1, 78), (2, 79), (3, 80), (4, 81), (5, 82), (6, 83), (7, 84), (8, 85), (9, 86), (10, 87), (11, 88), (12, 89), (13, 90), (14, 91), (15, 92), (16, 93), (17, 94), (18, 95), (19, 76), (20, 96), (21, 97), (22, 16), (23, 17)]
                (fun ii => [Is (.pointer (some ⟨s, 0, none⟩)), Is (.pointer (some ⟨s, 0, none⟩)), Is (.pointer (some ⟨s, 0, none⟩)), Is (.pointer (some ⟨b, 0, none⟩)), Is (.pointer (some ⟨s, 0, none⟩)), Is (.pointer (some ⟨s, 0, none⟩)), Is (.pointer (some ⟨s, 0, none⟩)), Is (.pointer (some ⟨b, 0, none⟩)), Rd Z, Is (.int .u8 (x : Int)), Is (.int .u8 (l1 : Int)), Is (.pointer (some ⟨s, 0, none⟩)), Is (.pointer (some ⟨s, 0, none⟩)), Is (.pointer (some ⟨s, 0, none⟩)), Is (.pointer (some ⟨b, 0, none⟩)), Rd S, Is (.int .u8 (x : Int)), Is (.int .u8 (l2 : Int)), Is (.tuple #[.int .u8 (d0 : Int), .bool b2]), Is (.tuple #[.int .u8 (d0 : Int), .bool b2]), Is (.int .u8 (d0 : Int)), Is (.bool b2), Is (.int .u8 (d0 : Int)), Is (.bool b2)].getD ii (Is undef))
                (fun w' => Below w4.heap.size w4 w') (by kernel_rfl) (by kernel_rfl) (by decide) (by decide) (by kernel_rfl) rfl ?monod ((Below.refl _ _).drew) ?stepd ?find
              case monod =>
                intro i
                match i with
                | 0 | 1 | 2 | 3 | 4 | 5 | 6 | 7 | 9 | 10 | 11 | 12 | 13 | 14 | 16 | 17 | 18 | 19 | 20 | 21 | 22 | 23 => exact Is.monot _
                | 8 | 15 => exact Rd.monot _
                | _ + 24 => exact Is.monot _
              case stepd =>
                refine List.forall_mem_cons.2 ⟨?ds0, List.forall_mem_cons.2 ⟨?ds1, List.forall_mem_cons.2 ⟨?ds2, List.forall_mem_cons.2 ⟨?ds3, List.forall_mem_cons.2 ⟨?ds4, List.forall_mem_cons.2 ⟨?ds5, List.forall_mem_cons.2 ⟨?ds6, List.forall_mem_cons.2 ⟨?ds7, List.forall_mem_cons.2 ⟨?ds8, List.forall_mem_cons.2 ⟨?ds9, List.forall_mem_cons.2 ⟨?ds10, List.forall_mem_cons.2 ⟨?ds11, List.forall_mem_cons.2 ⟨?ds12, List.forall_mem_cons.2 ⟨?ds13, List.forall_mem_cons.2 ⟨?ds14, List.forall_mem_cons.2 ⟨?ds15, List.forall_mem_cons.2 ⟨?ds16, List.forall_mem_cons.2 ⟨?ds17, List.forall_mem_cons.2 ⟨?ds18, List.forall_mem_cons.2 ⟨?ds19, List.forall_mem_cons.2 ⟨?ds20, List.forall_mem_cons.2 ⟨?ds21, List.forall_mem_cons.2 ⟨?ds22, List.forall_mem_cons.2 ⟨?ds23, List.forall_mem_nil _⟩⟩⟩⟩⟩⟩⟩⟩⟩⟩⟩⟩⟩⟩⟩⟩⟩⟩⟩⟩⟩⟩⟩⟩
                case ds0 =>
                  intro u wx hg hC
                  clear hC
                  refine wpOp_step rfl (fun K hK => ?_)
                  simp only [puts, List.foldl]
                  go_simp
                  exact hK _ _ ⟨rfl, rfl, hg, Below.refl _ _⟩
                case ds1 =>
                  intro u wx hg hC
                  have hJ0 : u 0 = (.pointer (some ⟨s, 0, none⟩)) := hC.at 0 (by kernel_rfl)
                  clear hC
                  refine wpOp_step rfl (fun K hK => ?_)
                  simp only [puts, List.foldl]
                  go_simp
                  exact hK _ _ ⟨rfl, rfl, hg, Below.refl _ _⟩
                case ds2 =>
                  intro u wx hg hC
                  have hJ1 : u 1 = (.pointer (some ⟨s, 0, none⟩)) := hC.at 1 (by kernel_rfl)
                  clear hC
                  refine wpOp_step rfl (fun K hK => ?_)
                  simp only [puts, List.foldl]
                  go_simp
                  exact hK _ _ ⟨rfl, rfl, hg, Below.refl _ _⟩
                case ds3 =>
                  intro u wx hg hC
                  have hJ2 : u 2 = (.pointer (some ⟨s, 0, none⟩)) := hC.at 2 (by kernel_rfl)
                  clear hC
                  have hcl : wx.cell? ⟨s, 0, none⟩ = some (.pointer (some ⟨b, 0, none⟩)) := (hg.cell (p := ⟨s, 0, none⟩) HLT4.out).trans C04'.out
                  refine wpOp_step rfl (fun K hK => ?_)
                  simp only [puts, List.foldl]
                  go_simp
                  exact hK _ _ ⟨rfl, rfl, hg, Below.refl _ _⟩
                case ds4 =>
                  intro u wx hg hC
                  clear hC
                  refine wpOp_step rfl (fun K hK => ?_)
                  simp only [puts, List.foldl]
                  go_simp
                  exact hK _ _ ⟨rfl, rfl, hg, Below.refl _ _⟩
                case ds5 =>
                  intro u wx hg hC
                  have hJ4 : u 4 = (.pointer (some ⟨s, 0, none⟩)) := hC.at 4 (by kernel_rfl)
                  clear hC
                  refine wpOp_step rfl (fun K hK => ?_)
                  simp only [puts, List.foldl]
                  go_simp
                  exact hK _ _ ⟨rfl, rfl, hg, Below.refl _ _⟩
                case ds6 =>
                  intro u wx hg hC
                  have hJ5 : u 5 = (.pointer (some ⟨s, 0, none⟩)) := hC.at 5 (by kernel_rfl)
                  clear hC
                  refine wpOp_step rfl (fun K hK => ?_)
                  simp only [puts, List.foldl]
                  go_simp
                  exact hK _ _ ⟨rfl, rfl, hg, Below.refl _ _⟩
                case ds7 =>
                  intro u wx hg hC
                  have hJ6 : u 6 = (.pointer (some ⟨s, 0, none⟩)) := hC.at 6 (by kernel_rfl)
                  clear hC
                  have hcl : wx.cell? ⟨s, 0, none⟩ = some (.pointer (some ⟨b, 0, none⟩)) := (hg.cell (p := ⟨s, 0, none⟩) HLT4.out).trans C04'.out
                  refine wpOp_step rfl (fun K hK => ?_)
                  simp only [puts, List.foldl]
                  go_simp
                  exact hK _ _ ⟨rfl, rfl, hg, Below.refl _ _⟩
                case ds8 =>
                  intro u wx hg hC
                  clear hC
                  refine wpOp_step rfl (fun K hK => ?_)
                  simp only [puts, List.foldl]
                  go_simp
                  exact hK _ _ ⟨rfl, RZR.out.step (BA4.out.next hg), hg, Below.refl _ _⟩
                case ds9 =>
                  intro u wx hg hC
                  clear hC
                  refine wpOp_step rfl (fun K hK => ?_)
                  simp only [puts, List.foldl]
                  go_simp
                  exact hK _ _ ⟨rfl, rfl, hg, Below.refl _ _⟩
                case ds10 =>
                  intro u wx hg hC
                  have hJ7 : u 7 = (.pointer (some ⟨b, 0, none⟩)) := hC.at 7 (by kernel_rfl)
                  have hJ8 : (Rd Z) (u 8) wx := hC.at 8 (by kernel_rfl)
                  have hJ9 : u 9 = (.int .u8 (x : Int)) := hC.at 9 (by kernel_rfl)
                  clear hC
                  refine wpOp_step rfl (fun K hK => ?_)
                  simp only [puts, List.foldl]
                  go_simp
                  refine (HEZX.out wx (BA4.out.next hg) _ hJ8).mono ?_
                  rintro e w' ⟨rfl, hb'⟩
                  exact hK _ _ ⟨rfl, rfl, hg.next hb', hb'⟩
                case ds11 =>
                  intro u wx hg hC
                  clear hC
                  refine wpOp_step rfl (fun K hK => ?_)
                  simp only [puts, List.foldl]
                  go_simp
                  exact hK _ _ ⟨rfl, rfl, hg, Below.refl _ _⟩
                case ds12 =>
                  intro u wx hg hC
                  have hJ11 : u 11 = (.pointer (some ⟨s, 0, none⟩)) := hC.at 11 (by kernel_rfl)
                  clear hC
                  refine wpOp_step rfl (fun K hK => ?_)
                  simp only [puts, List.foldl]
                  go_simp
                  exact hK _ _ ⟨rfl, rfl, hg, Below.refl _ _⟩
                case ds13 =>
                  intro u wx hg hC
                  have hJ12 : u 12 = (.pointer (some ⟨s, 0, none⟩)) := hC.at 12 (by kernel_rfl)
                  clear hC
                  refine wpOp_step rfl (fun K hK => ?_)
                  simp only [puts, List.foldl]
                  go_simp
                  exact hK _ _ ⟨rfl, rfl, hg, Below.refl _ _⟩
                case ds14 =>
                  intro u wx hg hC
                  have hJ13 : u 13 = (.pointer (some ⟨s, 0, none⟩)) := hC.at 13 (by kernel_rfl)
                  clear hC
                  have hcl : wx.cell? ⟨s, 0, none⟩ = some (.pointer (some ⟨b, 0, none⟩)) := (hg.cell (p := ⟨s, 0, none⟩) HLT4.out).trans C04'.out
                  refine wpOp_step rfl (fun K hK => ?_)
                  simp only [puts, List.foldl]
                  go_simp
                  exact hK _ _ ⟨rfl, rfl, hg, Below.refl _ _⟩
                case ds15 =>
                  intro u wx hg hC
                  clear hC
                  refine wpOp_step rfl (fun K hK => ?_)
                  simp only [puts, List.foldl]
                  go_simp
                  exact hK _ _ ⟨rfl, RSR.out.step (BA4.out.next hg), hg, Below.refl _ _⟩
                case ds16 =>
                  intro u wx hg hC
                  clear hC
                  refine wpOp_step rfl (fun K hK => ?_)
                  simp only [puts, List.foldl]
                  go_simp
                  exact hK _ _ ⟨rfl, rfl, hg, Below.refl _ _⟩
                case ds17 =>
                  intro u wx hg hC
                  have hJ14 : u 14 = (.pointer (some ⟨b, 0, none⟩)) := hC.at 14 (by kernel_rfl)
                  have hJ15 : (Rd S) (u 15) wx := hC.at 15 (by kernel_rfl)
                  have hJ16 : u 16 = (.int .u8 (x : Int)) := hC.at 16 (by kernel_rfl)
                  clear hC
                  refine wpOp_step rfl (fun K hK => ?_)
                  simp only [puts, List.foldl]
                  go_simp
                  refine (HESX.out wx (BA4.out.next hg) _ hJ15).mono ?_
                  rintro e w' ⟨rfl, hb'⟩
                  exact hK _ _ ⟨rfl, rfl, hg.next hb', hb'⟩
                case ds18 =>
                  intro u wx hg hC
                  have hJ3 : u 3 = (.pointer (some ⟨b, 0, none⟩)) := hC.at 3 (by kernel_rfl)
                  have hJ10 : u 10 = (.int .u8 (l1 : Int)) := hC.at 10 (by kernel_rfl)
                  have hJ17 : u 17 = (.int .u8 (l2 : Int)) := hC.at 17 (by kernel_rfl)
                  clear hC
                  refine wpOp_step rfl (fun K hK => ?_)
                  simp only [puts, List.foldl]
                  go_simp
                  refine (HDI.out wx (BA4.out.next hg)).mono ?_
                  rintro e w' ⟨rfl, hb'⟩
                  exact hK _ _ ⟨rfl, rfl, hg.next hb', hb'⟩
                case ds19 =>
                  intro u wx hg hC
                  have hJ18 : u 18 = (.tuple #[.int .u8 (d0 : Int), .bool b2]) := hC.at 18 (by kernel_rfl)
                  clear hC
                  refine wpOp_step rfl (fun K hK => ?_)
                  simp only [puts, List.foldl]
                  go_simp
                  exact hK _ _ ⟨rfl, rfl, hg, Below.refl _ _⟩
                case ds20 =>
                  intro u wx hg hC
                  have hJ19 : u 19 = (.tuple #[.int .u8 (d0 : Int), .bool b2]) := hC.at 19 (by kernel_rfl)
                  clear hC
                  refine wpOp_step rfl (fun K hK => ?_)
                  simp only [puts, List.foldl]
                  go_simp
                  exact hK _ _ ⟨rfl, rfl, hg, Below.refl _ _⟩
                case ds21 =>
                  intro u wx hg hC
                  have hJ19 : u 19 = (.tuple #[.int .u8 (d0 : Int), .bool b2]) := hC.at 19 (by kernel_rfl)
                  clear hC
                  refine wpOp_step rfl (fun K hK => ?_)
                  simp only [puts, List.foldl]
                  go_simp
                  exact hK _ _ ⟨rfl, rfl, hg, Below.refl _ _⟩
                case ds22 =>
                  intro u wx hg hC
                  have hJ20 : u 20 = (.int .u8 (d0 : Int)) := hC.at 20 (by kernel_rfl)
                  clear hC
                  refine wpOp_step rfl (fun K hK => ?_)
                  simp only [puts, List.foldl]
                  go_simp
                  exact hK _ _ ⟨rfl, rfl, hg, Below.refl _ _⟩
                case ds23 =>
                  intro u wx hg hC
                  have hJ21 : u 21 = (.bool b2) := hC.at 21 (by kernel_rfl)
                  clear hC
                  refine wpOp_step rfl (fun K hK => ?_)
                  simp only [puts, List.foldl]
                  go_simp
                  exact hK _ _ ⟨rfl, rfl, hg, Below.refl _ _⟩
              case find =>
                intro u w5 hb5 hφ
                have e16 : u 22 = .int .u8 (d0 : Int) := hφ (22, 16) (by decide)
                clear hφ
                simp only [puts, List.foldl]
                go_simp
                have BA5 := Lib.hid (BA4.out.next hb5)
                clear hb5 e16 
                have HLT5 : Hid (s < w5.heap.size) := Lib.hid (HSR.out.step BA5.out).lt
                have C05' : Hid (w5.cell? ⟨s, 0, none⟩ = some (.pointer (some ⟨b, 0, none⟩))) := Lib.hid (HSR.out.step BA5.out).c0
                go_wp2
                refine region_invY [(0, 98), (1, 99), (2, 100), (3, 101), (4, 102), (5, 103), (6, 104), (7, 105), (8, 106), (9, 107), (10, 16)]
                  (fun ii => [Is (.pointer (some ⟨s, 0, none⟩)), Is (.pointer (some ⟨s, 0, none⟩)), Is (.pointer (some ⟨s, 0, none⟩)), Is (.pointer (some ⟨b, 0, none⟩)), Is (.pointer (some ⟨s, 0, none⟩)), Is (.int .i64 (k : Int)), Is (.int .u8 (mk : Int)), Is (.int .u8 (d0 : Int)), Rd [mk, d0], Is (.int .u8 (dk : Int)), Is (.int .u8 (dk : Int))].getD ii (Is undef))
                  (fun w' => Below w5.heap.size w5 w') (by kernel_rfl) (by kernel_rfl) (by decide) (by decide) (by kernel_rfl) rfl ?monoc ((Below.refl _ _).drew) ?stepc ?finc
                case monoc =>
                  intro i
                  match i with
                  | 0 | 1 | 2 | 3 | 4 | 5 | 6 | 7 | 9 | 10 => exact Is.monot _
                  | 8 => exact Rd.monot _
                  | _ + 11 => exact Is.monot _
                case stepc =>
                  refine List.forall_mem_cons.2 ⟨?cs0, List.forall_mem_cons.2 ⟨?cs1, List.forall_mem_cons.2 ⟨?cs2, List.forall_mem_cons.2 ⟨?cs3, List.forall_mem_cons.2 ⟨?cs4, List.forall_mem_cons.2 ⟨?cs5, List.forall_mem_cons.2 ⟨?cs6, List.forall_mem_cons.2 ⟨?cs7, List.forall_mem_cons.2 ⟨?cs8, List.forall_mem_cons.2 ⟨?cs9, List.forall_mem_cons.2 ⟨?cs10, List.forall_mem_nil _⟩⟩⟩⟩⟩⟩⟩⟩⟩⟩⟩
                  case cs0 =>
                    intro u wx hg hC hOld
                    clear hC hOld
                    refine wpOp_step rfl (fun K hK => ?_)
                    simp only [puts, List.foldl]
                    go_simp
                    exact hK _ _ ⟨rfl, rfl, hg, Below.refl _ _⟩
                  case cs1 =>
                    intro u wx hg hC hOld
                    have hJ0 : u 0 = (.pointer (some ⟨s, 0, none⟩)) := hC.at 0 (by kernel_rfl)
                    clear hC hOld
                    refine wpOp_step rfl (fun K hK => ?_)
                    simp only [puts, List.foldl]
                    go_simp
                    exact hK _ _ ⟨rfl, rfl, hg, Below.refl _ _⟩
                  case cs2 =>
                    intro u wx hg hC hOld
                    have hJ1 : u 1 = (.pointer (some ⟨s, 0, none⟩)) := hC.at 1 (by kernel_rfl)
                    clear hC hOld
                    refine wpOp_step rfl (fun K hK => ?_)
                    simp only [puts, List.foldl]
                    go_simp
                    exact hK _ _ ⟨rfl, rfl, hg, Below.refl _ _⟩
                  case cs3 =>
                    intro u wx hg hC hOld
                    have hJ2 : u 2 = (.pointer (some ⟨s, 0, none⟩)) := hC.at 2 (by kernel_rfl)
                    clear hC hOld
                    have hcl : wx.cell? ⟨s, 0, none⟩ = some (.pointer (some ⟨b, 0, none⟩)) := (hg.cell (p := ⟨s, 0, none⟩) HLT5.out).trans C05'.out
                    refine wpOp_step rfl (fun K hK => ?_)
                    simp only [puts, List.foldl]
                    go_simp
                    exact hK _ _ ⟨rfl, rfl, hg, Below.refl _ _⟩
                  case cs4 =>
                    intro u wx hg hC hOld
                    clear hC hOld
                    refine wpOp_step rfl (fun K hK => ?_)
                    simp only [puts, List.foldl]
                    go_simp
                    exact hK _ _ ⟨rfl, rfl, hg, Below.refl _ _⟩
                  case cs5 =>
                    intro u wx hg hC hOld
                    clear hC hOld
                    refine wpOp_step rfl (fun K hK => ?_)
                    simp only [puts, List.foldl]
                    go_simp
                    exact hK _ _ ⟨rfl, rfl, hg, Below.refl _ _⟩
                  case cs6 =>
                    intro u wx hg hC hOld
                    have hJ4 : u 4 = (.pointer (some ⟨s, 0, none⟩)) := hC.at 4 (by kernel_rfl)
                    have hJ5 : u 5 = (.int .i64 (k : Int)) := hC.at 5 (by kernel_rfl)
                    clear hC hOld
                    refine wpOp_step rfl (fun K hK => ?_)
                    simp only [puts, List.foldl]
                    go_simp
                    refine (HMK.out wx (BA5.out.next hg)).mono ?_
                    rintro e w' ⟨rfl, hb'⟩
                    exact hK _ _ ⟨rfl, rfl, hg.next hb', hb'⟩
                  case cs7 =>
                    intro u wx hg hC hOld
                    have hO10 : u 10 = (.int .u8 (d0 : Int)) := hOld (10, 16) (by decide) (by kernel_rfl)
                    clear hC hOld
                    refine wpOp_step rfl (fun K hK => ?_)
                    simp only [puts, List.foldl]
                    go_simp
                    exact hK _ _ ⟨rfl, rfl, hg, Below.refl _ _⟩
                  case cs8 =>
                    intro u wx hg hC hOld
                    have hJ6 : u 6 = (.int .u8 (mk : Int)) := hC.at 6 (by kernel_rfl)
                    have hJ7 : u 7 = (.int .u8 (d0 : Int)) := hC.at 7 (by kernel_rfl)
                    clear hC hOld
                    refine wpOp_step rfl (fun K hK => ?_)
                    simp only [puts, List.foldl]
                    go_simp
                    exact hK _ _ ⟨rfl, ⟨some ⟨wx.heap.size, 0, none⟩, 2, rfl, Nat.le_refl _, Lies.new [_, _] _ _⟩, hg.alloc hg.size _, alloc_below _ _⟩
                  case cs9 =>
                    intro u wx hg hC hOld
                    have hJ3 : u 3 = (.pointer (some ⟨b, 0, none⟩)) := hC.at 3 (by kernel_rfl)
                    have hJ8 : (Rd [mk, d0]) (u 8) wx := hC.at 8 (by kernel_rfl)
                    clear hC hOld
                    refine wpOp_step rfl (fun K hK => ?_)
                    simp only [puts, List.foldl]
                    go_simp
                    refine (HMU.out wx (BA5.out.next hg) _ hJ8).mono ?_
                    rintro e w' ⟨rfl, hb'⟩
                    exact hK _ _ ⟨rfl, rfl, hg.next hb', hb'⟩
                  case cs10 =>
                    intro u wx hg hC hOld
                    have hJ9 : u 9 = (.int .u8 (dk : Int)) := hC.at 9 (by kernel_rfl)
                    clear hC hOld
                    refine wpOp_step rfl (fun K hK => ?_)
                    simp only [puts, List.foldl]
                    go_simp
                    exact hK _ _ ⟨rfl, rfl, hg, Below.refl _ _⟩
                case finc =>
                  intro u w6 hb6 hφ
                  have e16 : u 10 = .int .u8 (dk : Int) := hφ (10, 16) (by decide)
                  clear hφ
                  simp only [puts, List.foldl]
                  go_simp
                  have HBZ := Lib.hid (BA5.out.next hb6)
                  clear hb6 e16
                  have HLT6 : Hid (s < w6.heap.size) := Lib.hid (HSR.out.step HBZ.out).lt
                  have C06' : Hid (w6.cell? ⟨s, 0, none⟩ = some (.pointer (some ⟨b, 0, none⟩))) := Lib.hid (HSR.out.step HBZ.out).c0
                  have RM6 := Lib.hid (RMR.out.step HBZ.out)
                  have OW6 := Lib.hid (own_below OWR.out HBZ.out)
                  have BB6 : Hid (Below wc.heap.size wc w6) := Lib.hid (HBR.out.trans (HBZ.out.mono HBR.out.size))
                  by_cases hd0 : dk = 0
                  · have hdt : ((dk : Int) != 0) = false := by simpa using hd0
                    have hdi : (dk : Int) = 0 := by omega
                    have HW1 : Hid (wordF W d (k + 1) = wordF W d k) := Lib.hid (HWK.out k HKN.out (HDK.out.trans hd0))
                    have HA1 : Hid (atF d (k + 1) = atF d k) := Lib.hid (atF_skip d k (HDK.out.trans hd0))
                    clear hd0
                    go_wp2
                    go_roundw
                    case rel => exact ⟨k + 1, HKN.out, by go_num, by rw [HA1.out]; exact OW6.out, by rw [HW1.out]; exact RM6.out, BB6.out⟩
                    case measure => have := HKN.out; simp [intOf]; omega
                  · have hdt : ((dk : Int) != 0) = true := by simpa using hd0
                    have hdi : ¬ (dk : Int) = 0 := by omega
                    have HAT : Hid (atF d (k + 1) = atF d k ++ [k]) := Lib.hid (atF_add d k (fun e => hd0 (HDK.out.symm.trans e)))
                    have hy8 := (HWB.out k).sq k
                    have HGL : Hid (gM < w6.heap.size) := Lib.hid RM6.out.lt
                    have HMC0 : Hid (w6.cell? ⟨gM, k, none⟩ = some (.int .u8 (sq (wordF W d k) k : Int))) := Lib.hid (by
                      rw [RM6.out.cell, List.getElem?_append_left (by rw [u8s_length, HWL.out]; exact HKN.out), u8s_get _ _ (by rw [HWL.out]; exact HKN.out), sq_get _ _ (by rw [HWL.out]; exact HKN.out)])
                    have HWS := Lib.hid (HWS.out k HKN.out)
                    rw [HDK.out] at HWS
                    obtain ⟨y, hy⟩ : ∃ y, sq (wordF W d k) k = y := ⟨_, rfl⟩
                    rw [hy] at hy8 HMC0 HWS
                    have HMC := HMC0
                    have HAD : Hid (∀ wx, Below w6.heap.size w6 wx → ∀ v, Rd [y, dk] v wx → Calls Tryz.prog 85 #[.pointer (some ⟨b, 0, none⟩), v] wx fun e w' => e = .returned (.int .u8 ((y ^^^ dk : Nat) : Int)) ∧ Below wx.heap.size wx w') := Lib.hid fun wx hb v hv => by
                      have := addV b v [y, dk] wx hv (by_two hy8 HDK8.out) (by simp)
                      rwa [sum_two] at this
                    obtain ⟨q, hq⟩ : ∃ q, y ^^^ dk = q := ⟨_, rfl⟩
                    rw [hq] at HAD HWS
                    clear hd0 hy hq hy8
                    go_wp2
                    refine region_store 14 [] [(0, 110), (1, 111), (2, 112), (3, 113), (4, 114), (5, 115), (6, 116), (7, 117), (8, 118), (9, 119), (10, 120), (11, 121), (12, 122), (13, 123)]
                      (fun ii => [Is (.slice (some ⟨gM, 0, none⟩) n cm), Is (.int .i64 (k : Int)), Is (.pointer (some ⟨s, 0, none⟩)), Is (.pointer (some ⟨s, 0, none⟩)), Is (.pointer (some ⟨s, 0, none⟩)), Is (.pointer (some ⟨b, 0, none⟩)), Is (.slice (some ⟨gM, 0, none⟩) n cm), Is (.int .i64 (k : Int)), Is (.pointer (some ⟨gM, k, none⟩)), Is (.int .u8 (y : Int)), Is (.int .u8 (dk : Int)), Rd [y, dk], Is (.int .u8 (q : Int)), Is (.pointer (some ⟨gM, k, none⟩))].getD ii (Is undef))
                      (fun w' => Below w6.heap.size w6 w') (fun w' => Row w' gM 5 (u8s (wordF W d (k + 1)) ++ ys) ∧ w'.ownsRow (gM + 1) 3 1 u12 (atF d k).length (nats (atF d k)) ∧ Below wc.heap.size wc w') (by kernel_rfl) (by kernel_rfl) (by kernel_rfl) (by kernel_rfl) (by decide) (by decide) (by kernel_rfl) rfl (by kernel_rfl) ?monoe ((Below.refl _ _).drew) ?stepe ?stepXe ?stepSe ?fine
                    case monoe =>
                      intro i
                      match i with
                      | 0 | 1 | 2 | 3 | 4 | 5 | 6 | 7 | 8 | 9 | 10 | 12 | 13 => exact Is.monot _
                      | 11 => exact Rd.monot _
                      | _ + 14 => exact Is.monot _
                    case stepe =>
                      refine List.forall_mem_cons.2 ⟨?es0, List.forall_mem_cons.2 ⟨?es1, List.forall_mem_cons.2 ⟨?es2, List.forall_mem_cons.2 ⟨?es3, List.forall_mem_cons.2 ⟨?es4, List.forall_mem_cons.2 ⟨?es5, List.forall_mem_cons.2 ⟨?es6, List.forall_mem_cons.2 ⟨?es7, List.forall_mem_cons.2 ⟨?es8, List.forall_mem_cons.2 ⟨?es9, List.forall_mem_cons.2 ⟨?es10, List.forall_mem_cons.2 ⟨?es11, List.forall_mem_cons.2 ⟨?es12, List.forall_mem_cons.2 ⟨?es13, List.forall_mem_nil _⟩⟩⟩⟩⟩⟩⟩⟩⟩⟩⟩⟩⟩⟩
                      case es0 =>
                        intro u wx hg hC
                        clear hC
                        refine wpOp_step rfl (fun K hK => ?_)
                        simp only [puts, List.foldl]
                        go_simp
                        exact hK _ _ ⟨rfl, rfl, hg, Below.refl _ _⟩
                      case es1 =>
                        intro u wx hg hC
                        clear hC
                        refine wpOp_step rfl (fun K hK => ?_)
                        simp only [puts, List.foldl]
                        go_simp
                        exact hK _ _ ⟨rfl, rfl, hg, Below.refl _ _⟩
                      case es2 =>
                        intro u wx hg hC
                        clear hC
                        refine wpOp_step rfl (fun K hK => ?_)
                        simp only [puts, List.foldl]
                        go_simp
                        exact hK _ _ ⟨rfl, rfl, hg, Below.refl _ _⟩
                      case es3 =>
                        intro u wx hg hC
                        have hJ2 : u 2 = (.pointer (some ⟨s, 0, none⟩)) := hC.at 2 (by kernel_rfl)
                        clear hC
                        refine wpOp_step rfl (fun K hK => ?_)
                        simp only [puts, List.foldl]
                        go_simp
                        exact hK _ _ ⟨rfl, rfl, hg, Below.refl _ _⟩
                      case es4 =>
                        intro u wx hg hC
                        have hJ3 : u 3 = (.pointer (some ⟨s, 0, none⟩)) := hC.at 3 (by kernel_rfl)
                        clear hC
                        refine wpOp_step rfl (fun K hK => ?_)
                        simp only [puts, List.foldl]
                        go_simp
                        exact hK _ _ ⟨rfl, rfl, hg, Below.refl _ _⟩
                      case es5 =>
                        intro u wx hg hC
                        have hJ4 : u 4 = (.pointer (some ⟨s, 0, none⟩)) := hC.at 4 (by kernel_rfl)
                        clear hC
                        have hcl : wx.cell? ⟨s, 0, none⟩ = some (.pointer (some ⟨b, 0, none⟩)) := (hg.cell (p := ⟨s, 0, none⟩) HLT6.out).trans C06'.out
                        refine wpOp_step rfl (fun K hK => ?_)
                        simp only [puts, List.foldl]
                        go_simp
                        exact hK _ _ ⟨rfl, rfl, hg, Below.refl _ _⟩
                      case es6 =>
                        intro u wx hg hC
                        clear hC
                        refine wpOp_step rfl (fun K hK => ?_)
                        simp only [puts, List.foldl]
                        go_simp
                        exact hK _ _ ⟨rfl, rfl, hg, Below.refl _ _⟩
                      case es7 =>
                        intro u wx hg hC
                        clear hC
                        refine wpOp_step rfl (fun K hK => ?_)
                        simp only [puts, List.foldl]
                        go_simp
                        exact hK _ _ ⟨rfl, rfl, hg, Below.refl _ _⟩
                      case es8 =>
                        intro u wx hg hC
                        have hJ6 : u 6 = (.slice (some ⟨gM, 0, none⟩) n cm) := hC.at 6 (by kernel_rfl)
                        have hJ7 : u 7 = (.int .i64 (k : Int)) := hC.at 7 (by kernel_rfl)
                        clear hC
                        refine wpOp_step rfl (fun K hK => ?_)
                        simp only [puts, List.foldl]
                        go_simp
                        exact hK _ _ ⟨rfl, rfl, hg, Below.refl _ _⟩
                      case es9 =>
                        intro u wx hg hC
                        have hJ8 : u 8 = (.pointer (some ⟨gM, k, none⟩)) := hC.at 8 (by kernel_rfl)
                        clear hC
                        have hcl : wx.cell? ⟨gM, k, none⟩ = some (.int .u8 (y : Int)) := (hg.cell (p := ⟨gM, k, none⟩) HGL.out).trans HMC.out
                        refine wpOp_step rfl (fun K hK => ?_)
                        simp only [puts, List.foldl]
                        go_simp
                        exact hK _ _ ⟨rfl, rfl, hg, Below.refl _ _⟩
                      case es10 =>
                        intro u wx hg hC
                        clear hC
                        refine wpOp_step rfl (fun K hK => ?_)
                        simp only [puts, List.foldl]
                        go_simp
                        exact hK _ _ ⟨rfl, rfl, hg, Below.refl _ _⟩
                      case es11 =>
                        intro u wx hg hC
                        have hJ9 : u 9 = (.int .u8 (y : Int)) := hC.at 9 (by kernel_rfl)
                        have hJ10 : u 10 = (.int .u8 (dk : Int)) := hC.at 10 (by kernel_rfl)
                        clear hC
                        refine wpOp_step rfl (fun K hK => ?_)
                        simp only [puts, List.foldl]
                        go_simp
                        exact hK _ _ ⟨rfl, ⟨some ⟨wx.heap.size, 0, none⟩, 2, rfl, Nat.le_refl _, Lies.new [_, _] _ _⟩, hg.alloc hg.size _, alloc_below _ _⟩
                      case es12 =>
                        intro u wx hg hC
                        have hJ5 : u 5 = (.pointer (some ⟨b, 0, none⟩)) := hC.at 5 (by kernel_rfl)
                        have hJ11 : (Rd [y, dk]) (u 11) wx := hC.at 11 (by kernel_rfl)
                        clear hC
                        refine wpOp_step rfl (fun K hK => ?_)
                        simp only [puts, List.foldl]
                        go_simp
                        refine (HAD.out wx hg _ hJ11).mono ?_
                        rintro e w' ⟨rfl, hb'⟩
                        exact hK _ _ ⟨rfl, rfl, hg.next hb', hb'⟩
                      case es13 =>
                        intro u wx hg hC
                        have hJ0 : u 0 = (.slice (some ⟨gM, 0, none⟩) n cm) := hC.at 0 (by kernel_rfl)
                        have hJ1 : u 1 = (.int .i64 (k : Int)) := hC.at 1 (by kernel_rfl)
                        clear hC
                        refine wpOp_step rfl (fun K hK => ?_)
                        simp only [puts, List.foldl]
                        go_simp
                        exact hK _ _ ⟨rfl, rfl, hg, Below.refl _ _⟩
                    case stepXe =>
                      intro p hp hx
                      cases hx
                    case stepSe =>
                      intro u w9 hbw9 hφ
                      have hv9 : u 12 = .int .u8 (q : Int) := hφ (12, 122) (by decide) (by decide)
                      have hp9 : u 13 = .pointer (some ⟨gM, k, none⟩) := hφ (13, 123) (by decide) (by decide)
                      clear hφ
                      have HM9 := Lib.hid (RM6.out.step hbw9)
                      have hfz := HM9.out.frozen k
                      obtain ⟨z9, hcc⟩ : ∃ z, w9.cell? ⟨gM, k, none⟩ = some z := ⟨_, (hbw9.cell (p := ⟨gM, k, none⟩) HGL.out).trans HMC.out⟩
                      have HB9 := Lib.hid (BB6.out.trans (hbw9.mono BB6.out.size))
                      have HO9 := Lib.hid (own_below OW6.out hbw9)
                      clear hbw9
                      refine wpOp_step rfl (fun K hK => ?_)
                      simp only [puts, List.foldl]
                      go_simp
                      refine hK _ _ ⟨rfl, ?_, ownsRow_setCell_below HO9.out (a := ⟨gM, k, none⟩) (Nat.lt_succ_self gM) _, HB9.out.setCell (p := ⟨gM, k, none⟩) HGB.out _⟩
                      have := u8s_take_set HM9.out k q (by rw [HWL.out]; exact HKN.out)
                      rwa [HWS.out] at this
                    case fine =>
                      rintro u w7 ⟨hm7, ho7, hb7⟩ hφ
                      clear hφ
                      simp only [puts, List.foldl]
                      go_simp
                      have RM7 := Lib.hid hm7
                      have OW7 := Lib.hid (ho7.alloc (.cells #[.int .i64 (k : Int)] 3))
                      have HB7 := Lib.hid hb7
                      have HB8 := Lib.hid (hb7.alloc hb7.size (.cells #[.int .i64 (k : Int)] 3))
                      have HL7 : Hid (Lies (w7.alloc (.cells #[.int .i64 (k : Int)] 3)) (w7.alloc (.cells #[.int .i64 (k : Int)] 3)).heap.size (some ⟨w7.heap.size, 0, none⟩) [.int .i64 (k : Int)]) := Lib.hid (Lies.new [_] _ _)
                      have HO1 : Hid ((Value.int .i64 (k : Int)).oneCell' = true) := Lib.hid rfl
                      have HPK : Big ((atF d k).length + 1 ≤ 1099511627776) := ⟨by have := atF_le d k; have := HKN.out; have := HN.out; omega⟩
                      have HZ7 : Hid (gM + 1 ≤ (w7.alloc (.cells #[.int .i64 (k : Int)] 3)).heap.size) := Lib.hid (Nat.le_trans (Nat.succ_le_of_lt RM7.out.lt) (alloc_below _ _).size)
                      have HOL : Hid (∀ j, u12.ownBlock = some j → gM + 1 ≤ j) := Lib.hid fun j hj => (OW7.out.lt j hj).1
                      clear hm7 ho7 hb7
                      go_wp2_with (first
                        | ((with_reducible refine wpAppend1K OW7.out Tryz.underlying38 one_int HL7.out HO1.out HPK HZ7.out ?_ ?_); rfl; intro v8 w8 g1 g2 g3; have HV8' := Lib.hid g1; have HG8 := Lib.hid g2; clear g1 g2 g3))
                      go_roundw
                      case rel => exact ⟨k + 1, HKN.out, by go_num, by rw [HAT.out, nats_snoc, List.length_append]; exact HV8'.out, (RM7.out.alloc _).grown HG8.out (fun e => by have := HOL.out gM e.symm; omega), HB8.out.grown HG8.out HB8.out.size (fun j hj => Nat.le_trans HGB.out (Nat.le_of_lt (HOL.out j hj)))⟩
                      case measure => have := HKN.out; simp [intOf]; omega
            · have HDK : Hid (d k = 0) := Lib.hid (by rw [HDKX.out, if_pos ha])
              have HW1 : Hid (wordF W d (k + 1) = wordF W d k) := Lib.hid (HWK.out k HKN.out HDK.out)
              have HA1 : Hid (atF d (k + 1) = atF d k) := Lib.hid (atF_skip d k HDK.out)
              have HEV : Hid (∀ u, Below wr.heap.size wr u → Rd A av u → Calls Tryz.prog 118 #[.pointer (some ⟨b, 0, none⟩), av, .int .u8 (x : Int)] u fun e w' => e = .returned (.int .u8 (ev A x : Int)) ∧ Below u.heap.size u w') := Lib.hid fun u hb hr => HEA.out u (HBW2.out.next hb) av hr x HX8.out
              obtain ⟨l0, hl0⟩ : ∃ l, ev A x = l := ⟨_, rfl⟩
              rw [hl0] at HEV ha
              have hat : ((l0 : Int) != 0) = true := by simpa using ha
              have hai : ¬ (l0 : Int) = 0 := by omega
              clear ha hl0 HDKX HDK
              go_wp2_with (go_at_call 118; (with_reducible refine (HEV.out w3 BA3.out HRA3.out).mono ?_); rintro e w4 ⟨rfl, b4⟩; have BA4 := Lib.hid (BA3.out.next b4); clear b4)
              go_roundw
              case rel => exact ⟨k + 1, HKN.out, by go_num, by rw [HA1.out]; exact own_below OWR.out BA4.out, by rw [HW1.out]; exact RMR.out.step BA4.out, HBR.out.trans (BA4.out.mono HBR.out.size)⟩
              case measure => have := HKN.out; simp [intOf]; omega
        · obtain rfl : k = n := by omega
          obtain ⟨a1, c1', e1, h1, h2⟩ := own_form2 how
          have HV1 : Hid (IReads wr u12 (atF d k)) := Lib.hid ⟨a1, c1', e1, h1, h2⟩
          have HL1 : Hid (Lies wr wr.heap.size (some ⟨gM, 0, none⟩) (u8s (wordF W d k))) := Lib.hid fun h0 => ⟨gM, 0, rfl, hrm.lt, fun j v hj => by
            rw [Nat.zero_add, hrm.cell, List.getElem?_append_left (List.getElem?_eq_some_iff.1 hj).1]
            exact hj⟩
          clear how hrm hbr e1 h2
          go_wp2
          go_ret2
          exact ⟨⟨_, _, rfl, ⟨gM, cm, rfl, HCM.out, Nat.le_trans HBC.out.size HGB.out, HL1.out⟩, HV1.out⟩, HBC.out.next HBR.out⟩

end Go.Proofs.YtnbjaijhdjneoaaGreat

namespace Go.Proofs.YtnbjaijhdjneoaaGreat
open Go.RowKit
section
variable {P : Program} {ops : Array Oper} {Q : Exit → Act → World → Prop}
theorem put_get (a : Act) (d : Nat) (v : Value) (hs : d < a.tmps.size) : (a.put (some d) v).tmps.getD d undef = v := by simp [Act.put, hs]
theorem put_get_ne (a : Act) (d e : Nat) (v : Value) (h : e ≠ d) : (a.put (some d) v).tmps.getD e undef = a.tmps.getD e undef := by
  simp only [Act.put, Array.getD_eq_getD_getElem?, Array.getElem?_setIfInBounds]
  rw [if_neg (fun e' => h e'.symm)]
theorem puts_get_out (u : Nat → Value) : ∀ (D : List (Nat × Nat)) (a : Act) (d : Nat), (∀ p ∈ D, p.2 ≠ d) → (puts D a u).tmps.getD d undef = a.tmps.getD d undef
  | [], _, _, _ => rfl
  | p :: D, a, d, h => by
    show (puts D (a.put (some p.2) (u p.1)) u).tmps.getD d undef = _
    rw [puts_get_out u D _ d fun q hq => h q (List.mem_cons_of_mem _ hq), put_get_ne _ _ _ _ (fun e => h p (List.mem_cons_self ..) e.symm)]
theorem puts_get (u : Nat → Value) (i d : Nat) : ∀ (D : List (Nat × Nat)) (a : Act), (D.map (·.2)).Nodup → (i, d) ∈ D → Nat.blt d a.tmps.size = true → (puts D a u).tmps.getD d undef = u i
  | p :: D, a, hn, hm, hs0 => by
    have hs : d < a.tmps.size := Nat.blt_eq ▸ hs0
    rw [List.map_cons, List.nodup_cons] at hn
    show (puts D (a.put (some p.2) (u p.1)) u).tmps.getD d undef = _
    rcases List.mem_cons.1 hm with rfl | hm
    · rw [puts_get_out u D _ d fun q hq e => hn.1 (List.mem_map.2 ⟨q, hq, e⟩), put_get _ _ _ hs]
    · exact puts_get u i d D _ hn.2 hm (by simpa [Act.put] using hs0)
theorem puts_room (u : Nat → Value) {D : List (Nat × Nat)} {a : Act} {d : Nat} (h : Nat.blt d a.tmps.size = true) : d < (puts D a u).tmps.size := by rw [puts_size]; exact Nat.blt_eq ▸ h
theorem wpOp_guard {i : Nat} {o : Oper} {a : Act} {w : World} {K : Act → World → Prop} (ho : ops[i]? = some o) (j d : Nat) (b : Bool) (hgd : o.guard = some (j, b)) (hd : (ops[j]?).bind (·.dst) = some d) (hs : d < a.tmps.size) (hv : a.tmps.getD d undef = .bool b)
    (h : ∀ K' : Act → World → Prop, (∀ a w, K a w → K' a w) → o.wp P a w K' Q) : wpOp P ops Q i K a w := by
  have hy : yielded ops a.tmps j = some b := by
    unfold yielded
    rw [hd]
    have : a.tmps[d]? = some (.bool b) := by
      rw [Array.getD_eq_getD_getElem?] at hv
      rw [Array.getElem?_eq_getElem hs] at hv ⊢
      simpa using hv
    simp [this]
  unfold wpOp
  rw [ho]
  show if Region.wanted o (yielded ops a.tmps) = true then _ else _
  rw [if_pos (by unfold Region.wanted; rw [hgd]; simp [hy])]
  exact .inl (h K fun _ _ h => h)
theorem wpOp_skip {i : Nat} {o : Oper} {a : Act} {w : World} {K : Act → World → Prop} (ho : ops[i]? = some o) (j d : Nat) (b : Bool) (hgd : o.guard = some (j, b)) (hd : (ops[j]?).bind (·.dst) = some d) (hs : d < a.tmps.size) (hv : a.tmps.getD d undef = .bool !b)
    (h : K (a.put o.dst undef) w) : wpOp P ops Q i K a w := by
  have hy : yielded ops a.tmps j = some !b := by
    unfold yielded
    rw [hd]
    have : a.tmps[d]? = some (.bool !b) := by
      rw [Array.getD_eq_getD_getElem?] at hv
      rw [Array.getElem?_eq_getElem hs] at hv ⊢
      simpa using hv
    simp [this]
  unfold wpOp
  rw [ho]
  show if Region.wanted o (yielded ops a.tmps) = true then _ else _
  rw [if_neg (by unfold Region.wanted; rw [hgd]; cases b <;> simp [hy])]
  exact h
end
end Go.Proofs.YtnbjaijhdjneoaaGreat

namespace Go.Proofs.YtnbjaijhdjneoaaGreat
open Go.RowKit
set_option linter.unusedVariables false
theorem opMake {P : Program} {o : Oper} {a : Act} {w : World} {K : Act → World → Prop} {Q : Exit → Act → World → Prop} (T e : TypeId) (zv : Value) (n c : Nat) (hT : P.underlying T = some (.slice e)) (hz : (P.info? e).map (fun i => (i.zero, i.size, i.bytes)) = some (some zv, 1, 8) ∨ (P.info? e).map (fun i => (i.zero, i.size, i.bytes)) = some (some zv, 1, 1)) (hzc : zv.cells = #[zv])
    (hn : n ≤ c) (hc : c ≤ 1099511627776) (ho : makeOf o a = some (T, .int .i64 (n : Int), .int .i64 (c : Int)))
    (k : ∀ w', Row w' w.heap.size e (List.replicate c zv) → Below w.heap.size w w' → w'.heap.size = w.heap.size + 1 → K (a.put o.dst (.slice (some ⟨w.heap.size, 0, none⟩) n c)) w') : o.wp P a w K Q := by
  obtain ⟨hg, x, y, hop, hx, hy⟩ := makeOf_spec ho
  cases hq : P.info? e with
  | none => rw [hq] at hz; rcases hz with h | h <;> cases h
  | some i =>
    rw [hq] at hz
    have hi : i.zero = some zv ∧ i.size = 1 ∧ i.bytes ≤ 8 := by
      rcases hz with h | h <;> simp only [Option.map_some, Option.some.injEq, Prod.mk.injEq] at h <;> exact ⟨h.1, h.2.1, by omega⟩
    have hb : (i.bytes : Int) * (c : Int) ≤ 281474976710656 := by
      have h1 : i.bytes * c ≤ 8 * 1099511627776 := Nat.mul_le_mul hi.2.2 hc
      have h2 : ((i.bytes * c : Nat) : Int) ≤ 281474976710656 := by omega
      rwa [Int.natCast_mul] at h2
    have hr := run_make (P := P) w T e i zv hT hq hi.1 .i64 .i64 (n : Int) (c : Int) (by omega) (by omega) hb (by omega)
    rw [Int.toNat_natCast, Int.toNat_natCast, hi.2.1, Nat.mul_one, hzc] at hr
    have hm : madeCells #[zv] c = (List.replicate c zv).toArray := by
      apply Array.ext'
      rw [toList_madeCells_one]
    rw [hm] at hr
    unfold Oper.wp execOp
    simp only [hop, hx, hy, Sem.run_bind, hr, Result.andThen_ok]
    exact k _ (Row.new w e _) ((Below.refl _ _).alloc (Nat.le_refl _) _) (by simp)
theorem opMakeK {P : Program} {o : Oper} {A : Act} {wx : World} {K : Act → World → Prop} {Q : Exit → Act → World → Prop} {φ : Value → World → Prop} {G : World → Prop} (d : Nat) (hd : o.dst = some d) (hs : d < A.tmps.size)
    (hK : ∀ a' w', (a'.defers = A.defers ∧ φ (a'.tmps.getD d undef) w' ∧ G w' ∧ Below wx.heap.size wx w') → K a' w')
    (T e : TypeId) (zv : Value) (n c : Nat) (hT : P.underlying T = some (.slice e)) (hz : (P.info? e).map (fun i => (i.zero, i.size, i.bytes)) = some (some zv, 1, 8) ∨ (P.info? e).map (fun i => (i.zero, i.size, i.bytes)) = some (some zv, 1, 1)) (hzc : zv.cells = #[zv])
    (hn : n ≤ c) (hc : c ≤ 1099511627776) (ho : makeOf o A = some (T, .int .i64 (n : Int), .int .i64 (c : Int)))
    (k : ∀ w', Row w' wx.heap.size e (List.replicate c zv) → Below wx.heap.size wx w' → φ (.slice (some ⟨wx.heap.size, 0, none⟩) n c) w' ∧ G w') : o.wp P A wx K Q :=
  opMake T e zv n c hT hz hzc hn hc ho fun w' h1 h2 _ => hK _ _ ⟨by rw [hd]; rfl, by rw [hd, put_get A d _ hs]; exact (k w' h1 h2).1, (k w' h1 h2).2, h2⟩
theorem makeOf_tmp {o : Oper} {a : Act} (T : TypeId) (k : Nat) {v : Value} (hg : o.guard = none) (hop : o.op = .makeSlice T (.tmp k) (.tmp k)) (h : a.tmps.getD k undef = v) : makeOf o a = some (T, v, v) := by
  unfold makeOf
  rw [hg, hop]
  show some (T, a.eval (.tmp k), a.eval (.tmp k)) = _
  rw [show a.eval (.tmp k) = a.tmps.getD k undef from rfl, h]
end Go.Proofs.YtnbjaijhdjneoaaGreat

namespace Go.Proofs.YtnbjaijhdjneoaaGreat
open Go.RowKit GfMath PolyMath RsMath SolMath
set_option linter.unusedVariables false
set_option maxRecDepth 100000

def IRd (l : List Nat) : Value → World → Prop := fun v w => IReads w v l
theorem IRd.monot (l : List Nat) : Monot (IRd l) := fun _ _ _ h hb => IReads.step h hb
/-- A new list of n noughts. -/
def MkB (B n : Nat) : Value → World → Prop := fun v w => ∃ g, v = .slice (some ⟨g, 0, none⟩) n n ∧ B ≤ g ∧ Row w g 4 (bools (noneG n))
theorem MkB.monot (B n : Nat) : Monot (MkB B n) := fun _ _ _ ⟨g, h1, h2, h3⟩ hb => ⟨g, h1, h2, h3.step hb⟩
theorem noneG_bools (n : Nat) : bools (noneG n) = List.replicate n (.bool false) := by simp [bools, noneG]
theorem info_bool : (Tryz.prog.info? 4).map (fun i => (i.zero, i.size, i.bytes)) = some (some (.bool false), 1, 8) ∨ (Tryz.prog.info? 4).map (fun i => (i.zero, i.size, i.bytes)) = some (some (.bool false), 1, 1) := Or.inr (by kernel_rfl)
/-- What mended answers. -/
def Mdd (B : Nat) (d : Md) (n : Nat) (e : Ending) (w' : World) : Prop :=
  match d with
  | .arg => e = .returned (.tuple #[.slice none 0 0, .slice none 0 0, .int .i64 1])
  | .bad => e = .returned (.tuple #[.slice none 0 0, .slice none 0 0, .int .i64 8])
  | .ok m l => ∃ gm cm y, e = .returned (.tuple #[.slice (some ⟨gm, 0, none⟩) n cm, y, .int .i64 0]) ∧ n ≤ cm ∧ B ≤ gm ∧ Lies w' w'.heap.size (some ⟨gm, 0, none⟩) (u8s m) ∧ IReads w' y l
theorem masseyF_ok {T : List Nat} (hT : By T) {p : Nat} (lost : Nat) (hp : p ≤ 64) : By (masseyF p T lost) ∧ (masseyF p T lost).length ≤ 300 := by
  have := bm_ok hT lost (p - lost)
  exact ⟨this.r8, by have := this.rl; unfold masseyF; omega⟩

set_option maxHeartbeats 1000000 in
theorem mended_massey (c b k p : Nat) (wb wo cw : Nat) (W : List Nat) (ea : Option Addr) (ecap : Nat) (er : List Int) (w : World) (h : Cod w c b k p) (hWl : W.length = k + p) (hWc : W.length ≤ cw) (hW8 : By W) (hW : Lies w w.heap.size (some ⟨wb, wo, none⟩) (u8s W)) (hel : er.length ≤ 1000) (her : Lies w w.heap.size ea (ints er)) :
    Calls Tryz.prog 78 #[.pointer (some ⟨c, 0, none⟩), .slice (some ⟨wb, wo, none⟩) (k + p) cw, .slice ea er.length ecap, .func (.func 79) #[] #[]] w fun e w' =>
      Mdd w.heap.size (mendF masseyF (k + p) p W er) (k + p) e w' ∧ Below w.heap.size w w' := by
  obtain ⟨a', cap', hcor, _⟩ := h.cor
  have HK : Hid (1 ≤ k ∧ 1 ≤ p ∧ k + p ≤ 255 ∧ p ≤ 64) := Lib.hid ⟨h.k1, h.p1, h.n255, h.p64⟩
  have HCOR := Lib.hid hcor
  have HWR := Lib.hid hW
  have HER := Lib.hid her
  have HW8 := Lib.hid hW8
  have HSY : Hid (Calls Tryz.prog 95 #[.pointer (some ⟨c, 0, none⟩), .slice (some ⟨wb, wo, none⟩) (k + p) cw] w fun e w' =>
      (∃ g, e = .returned (.tuple #[.slice (some ⟨g, 0, none⟩) p p, .int .i64 0]) ∧ w.heap.size ≤ g ∧ Row w' g 5 (u8s (vals W p))) ∧ Below w.heap.size w w') := Lib.hid (syn_any c b k p _ (some ⟨wb, wo, none⟩) cw W w hcor h.n255 hWl hW8 hWc hW)
  have HSZ : Hid (∀ u, Below w.heap.size w u → Calls Tryz.prog 45 #[.pointer (some ⟨c, 0, none⟩)] u fun e w' => e = .returned (.tuple #[.int .i64 ((k + p : Nat) : Int), .int .i64 (k : Int)]) ∧ Below u.heap.size u w') := Lib.hid fun u hb => rs_size_any c b k p _ u (hcor.step hb)
  have HOV : Hid (∀ u, Below w.heap.size w u → Calls Tryz.prog 44 #[.pointer (some ⟨c, 0, none⟩)] u fun e w' => e = .returned (.pointer (some ⟨b, 0, none⟩)) ∧ Below u.heap.size u w') := Lib.hid fun u hb => (rs_over_any c b k p _ u (hcor.step hb)).mono fun e w' ⟨h1, h2⟩ => ⟨h1, h2 ▸ Below.refl _ _⟩
  have HV8 : Hid (By (vals W p)) := Lib.hid (tab_by _ fun i _ => ev_lt hW8 (ex_lt i))
  have HVL : Hid ((vals W p).length = p) := Lib.hid (vals_length _ _)
  have HVR : Hid (valsR W p = (vals W p).reverse) := Lib.hid rfl
  have HRT : Hid (∀ u, Below w.heap.size w u → ∀ gm cm m, m.length = k + p → By m → m.length ≤ cm → Lies u u.heap.size (some ⟨gm, 0, none⟩) (u8s m) → Calls Tryz.prog 99 #[.pointer (some ⟨c, 0, none⟩), .slice (some ⟨gm, 0, none⟩) (k + p) cm] u fun e w' => e = .returned (.bool (allz (vals m p))) ∧ Below u.heap.size u w') := Lib.hid fun u hb gm cm m h1 h2 h3 h4 => rs_right_any c b k p _ (some ⟨gm, 0, none⟩) cm m u (hcor.step hb) h.n255 h1 h2 h3 h4
  have HWI : Hid (∀ u, Below w.heap.size w u → ∀ x y : Nat, x ≤ 100000 → y ≤ 100000 → Calls Tryz.prog 100 #[.pointer (some ⟨c, 0, none⟩), .int .i64 (x : Int), .int .i64 (y : Int)] u fun e w' => e = .returned (.bool (decide (x ≤ p ∧ y ≤ (p - x) / 2))) ∧ Below u.heap.size u w') := Lib.hid fun u hb x y h1 h2 => within_any c b k p _ x y u (hcor.step hb) h.n255 h1 h2
  have HFB : Hid (b < w.heap.size ∧ Fld w b) := Lib.hid ⟨hcor.2.lt, hcor.2⟩
  have HMF0 : Hid (mendF masseyF (k + p) p W er = if inB (k + p) er = false then .arg else if allz (vals (layW (k + p) p W (valsR W p) (masseyF p (toldF p (valsR W p) (erF (k + p) (markE (k + p) er) (k + p))) (cnt (markE (k + p) er))) (erF (k + p) (markE (k + p) er) (k + p))) p) = true ∧ cnt (markE (k + p) er) ≤ p ∧ othF (markE (k + p) er) (layP (k + p) p (valsR W p) (masseyF p (toldF p (valsR W p) (erF (k + p) (markE (k + p) er) (k + p))) (cnt (markE (k + p) er))) (erF (k + p) (markE (k + p) er) (k + p))) ≤ (p - cnt (markE (k + p) er)) / 2 then .ok (layW (k + p) p W (valsR W p) (masseyF p (toldF p (valsR W p) (erF (k + p) (markE (k + p) er) (k + p))) (cnt (markE (k + p) er))) (erF (k + p) (markE (k + p) er) (k + p))) (layP (k + p) p (valsR W p) (masseyF p (toldF p (valsR W p) (erF (k + p) (markE (k + p) er) (k + p))) (cnt (markE (k + p) er))) (erF (k + p) (markE (k + p) er) (k + p))) else .bad) := Lib.hid rfl
  obtain ⟨MF, hMF⟩ : ∃ MF, mendF masseyF (k + p) p W er = MF := ⟨_, rfl⟩
  rw [hMF] at HMF0 ⊢
  have HGN : Hid (markE (k + p) er = setG (noneG (k + p)) er) := Lib.hid rfl
  have HGL : Hid ((markE (k + p) er).length = k + p) := Lib.hid (by rw [HGN.out, setG_length, noneG, List.length_replicate])
  have HG0 : Hid (cnt (noneG (k + p)) = 0) := Lib.hid (by unfold cnt noneG; simp [List.count_replicate])
  obtain ⟨n, hnn⟩ : ∃ n, k + p = n := ⟨_, rfl⟩
  rw [hnn] at HK HSY HSZ HRT HMF0 HGN HGL HG0 hWl ⊢
  have hnk : (n : Int) - (k : Int) = (p : Int) := by omega
  have hkp := HK.out
  have hnb : (n : Int) ≤ 255 := by omega
  have hn0 : 1 ≤ (n : Int) := by omega
  have hkb : (k : Int) ≤ 255 := by omega
  have hpb : (p : Int) ≤ 64 := by omega
  have hp0 : 1 ≤ (p : Int) := by omega
  have hpw : IntKind.i64.wrap (p : Int) = (p : Int) := by rw [IntKind.wrap_i64]; omega
  have HWL := Lib.hid hWl
  have HN1 : Hid (1 ≤ n) := Lib.hid (by omega)
  have HELN : Hid (er.length ≤ 1000) := Lib.hid hel
  have heli : (er.length : Int) ≤ 1000 := by omega
  obtain ⟨ne, hne⟩ : ∃ ne, er.length = ne := ⟨_, rfl⟩
  have HEL2 : Hid (er.length = ne) := Lib.hid hne
  rw [hne] at heli ⊢
  obtain ⟨X, hX⟩ : ∃ X, vals W p = X := ⟨_, rfl⟩
  rw [hX] at HSY HV8 HVL HVR
  clear hX hne hcor hW her hW8 h hWl hWc hMF hnn hkp hel
  go_enter Tryz.func78, Tryz.ntmps78
  go_wp2_with (first
    | (go_at_call 95; (with_reducible refine HSY.out.mono ?_); rintro e w1 ⟨⟨gv, rfl, q1, r1⟩, b1⟩; have R1 := Lib.hid r1; have B1 := Lib.hid b1; clear q1 r1 b1)
    | (go_at_call 45; (with_reducible refine (HSZ.out w1 B1.out).mono ?_); rintro e w2 ⟨rfl, b2⟩; have R2 := Lib.hid (R1.out.step b2); have B2 := Lib.hid (B1.out.next b2); clear b2))
  clear R1 B1 HSY HSZ
  refine region_tail 8 [(0, 32), (1, 33), (2, 34), (3, 35), (4, 36), (5, 37), (6, 38), (7, 39)]
    (fun ii => [Is (.pointer (some ⟨c, 0, none⟩)), Is (.pointer (some ⟨b, 0, none⟩)), Is (.int .i64 (n : Int)), Is (.int .i64 (n : Int)), Is (.int .i64 (k : Int)), Is (.int .i64 (p : Int)), Is (.int .i64 (n : Int)), MkB w2.heap.size n].getD ii (Is undef))
    (fun w' => Below w2.heap.size w2 w') (by kernel_rfl) (by decide) (by kernel_rfl) (by kernel_rfl) (by kernel_rfl) (by decide) (by decide) (by kernel_rfl) rfl ?monoa ((Below.refl _ _).drew) ?stepa ?fina
  case monoa =>
    intro i
    match i with
    | 0 | 1 | 2 | 3 | 4 | 5 | 6 => exact Is.monot _
    | 7 => exact MkB.monot _ _
    | _ + 8 => exact Is.monot _
  case stepa =>
    refine List.forall_mem_cons.2 ⟨?as0, List.forall_mem_cons.2 ⟨?as1, List.forall_mem_cons.2 ⟨?as2, List.forall_mem_cons.2 ⟨?as3, List.forall_mem_cons.2 ⟨?as4, List.forall_mem_cons.2 ⟨?as5, List.forall_mem_cons.2 ⟨?as6, List.forall_mem_cons.2 ⟨?as7, List.forall_mem_nil _⟩⟩⟩⟩⟩⟩⟩⟩
    case as0 =>
      intro u wx hg hC
      clear hC
      refine wpOp_step rfl (fun K hK => ?_)
      simp only [puts, List.foldl]
      go_simp
      exact hK _ _ ⟨rfl, rfl, hg, Below.refl _ _⟩
    case as1 =>
      intro u wx hg hC
      have hJ0 : u 0 = (.pointer (some ⟨c, 0, none⟩)) := hC.at 0 (by kernel_rfl)
      clear hC
      refine wpOp_step rfl (fun K hK => ?_)
      simp only [puts, List.foldl]
      go_simp
      refine (HOV.out wx (B2.out.next hg)).mono ?_
      rintro e w' ⟨rfl, hb'⟩
      exact hK _ _ ⟨rfl, rfl, hg.next hb', hb'⟩
    case as2 =>
      intro u wx hg hC
      clear hC
      refine wpOp_step rfl (fun K hK => ?_)
      simp only [puts, List.foldl]
      go_simp
      exact hK _ _ ⟨rfl, rfl, hg, Below.refl _ _⟩
    case as3 =>
      intro u wx hg hC
      clear hC
      refine wpOp_step rfl (fun K hK => ?_)
      simp only [puts, List.foldl]
      go_simp
      exact hK _ _ ⟨rfl, rfl, hg, Below.refl _ _⟩
    case as4 =>
      intro u wx hg hC
      clear hC
      refine wpOp_step rfl (fun K hK => ?_)
      simp only [puts, List.foldl]
      go_simp
      exact hK _ _ ⟨rfl, rfl, hg, Below.refl _ _⟩
    case as5 =>
      intro u wx hg hC
      have hJ3 : u 3 = (.int .i64 (n : Int)) := hC.at 3 (by kernel_rfl)
      have hJ4 : u 4 = (.int .i64 (k : Int)) := hC.at 4 (by kernel_rfl)
      clear hC
      refine wpOp_step rfl (fun K hK => ?_)
      simp only [puts, List.foldl]
      go_simp
      exact hK _ _ ⟨rfl, rfl, hg, Below.refl _ _⟩
    case as6 =>
      intro u wx hg hC
      clear hC
      refine wpOp_step rfl (fun K hK => ?_)
      simp only [puts, List.foldl]
      go_simp
      exact hK _ _ ⟨rfl, rfl, hg, Below.refl _ _⟩
    case as7 =>
      intro u wx hg hC
      have hJ6 : u 6 = (.int .i64 (n : Int)) := hC.at 6 (by kernel_rfl)
      clear hC
      refine wpOp_step rfl (fun K hK => ?_)
      rw [if_pos (by rfl)]
      generalize hA : puts [(0, 32), (1, 33), (2, 34), (3, 35), (4, 36), (5, 37), (6, 38), (7, 39)] _ u = A at hK ⊢
      have h38 : A.tmps.getD 38 undef = .int .i64 (n : Int) := by rw [← hA, ← hJ6]; exact puts_get u 6 38 _ _ (by decide) (by decide) (by kernel_rfl)
      have hsz : 39 < A.tmps.size := by rw [← hA]; exact puts_room u (by kernel_rfl)
      clear hA hJ6
      refine opMakeK (φ := MkB w2.heap.size n) (G := fun w' => Below w2.heap.size w2 w') 39 ?_ ?_ ?_ 165 4 (.bool false) n n ?_ ?_ ?_ ?_ ?_ ?_ ?_
      · rfl
      · exact hsz
      · exact hK
      · exact Tryz.underlying165
      · exact info_bool
      · rfl
      · exact Nat.le_refl _
      · have := HK.out; omega
      · exact makeOf_tmp 165 38 rfl rfl h38
      · exact fun w' r' b' => ⟨⟨wx.heap.size, rfl, hg.size, by rw [noneG_bools]; exact r'⟩, hg.next b'⟩
  case fina =>
    intro u w4 hb4 hφ
    obtain ⟨g, e7, hg1, hrow⟩ : MkB w2.heap.size n (u 7) w4 := hφ (7, 39) (by decide)
    have e1 : u 1 = .pointer (some ⟨b, 0, none⟩) := hφ (1, 33) (by decide)
    have e2 : u 2 = .int .i64 (n : Int) := hφ (2, 34) (by decide)
    have e5 : u 5 = .int .i64 (p : Int) := hφ (5, 37) (by decide)
    clear hφ
    simp only [puts, List.foldl]
    go_simp
    have B4 := Lib.hid hb4
    have HGR := Lib.hid hrow
    have HG1 : Hid (w2.heap.size ≤ g) := Lib.hid hg1
    clear hb4 hrow hg1 e7 e1 e2 e5
    go_wp2_with (first
      | ((with_reducible refine wpBoxK (solL b n p g 0 (.slice none 0 0) (.slice none 0 0) (.slice none 0 0)) 167 ?_ ?_); rfl; intro w5 r5 b5 s5; have R5 := Lib.hid r5; have B5 := Lib.hid b5; clear r5 b5 s5))
    have HS5 : Hid (Sol w5 w4.heap.size b n p g (noneG n) (cnt (noneG n)) (.slice none 0 0) (.slice none 0 0) (.slice none 0 0)) := Lib.hid (by
      rw [HG0.out]
      exact ⟨R5.out, HGR.out.step B5.out, ((HFB.out.2.step B2.out).step B4.out).step B5.out, Nat.ne_of_lt HGR.out.lt, by rw [noneG, List.length_replicate], ⟨_, _, _, rfl⟩, ⟨_, _, _, rfl⟩, ⟨_, _, _, rfl⟩⟩)
    have HBS : Hid (w2.heap.size ≤ w4.heap.size) := Lib.hid B4.out.size
    have HB2 : Hid (b < w2.heap.size) := Lib.hid (Nat.lt_of_lt_of_le HFB.out.1 B2.out.size)
    have B52 : Hid (Below w2.heap.size w2 w5) := Lib.hid (B4.out.next B5.out)
    obtain ⟨s, hs⟩ : ∃ s, w4.heap.size = s := ⟨_, rfl⟩
    rw [hs] at HS5 HBS R5 ⊢
    have HERA : Hid (Calls Tryz.prog 96 #[.pointer (some ⟨s, 0, none⟩), .slice ea ne ecap] w5 fun e w' => e = .returned (.bool (inB n er)) ∧ (inB n er = true → Sol w' s b n p g (markE n er) (cnt (markE n er)) (.slice none 0 0) (.slice none 0 0) (.slice none 0 0)) ∧ Below w2.heap.size w5 w') := Lib.hid (by
      rw [HGN.out, ← HEL2.out]
      exact erase_any w2.heap.size s b n p g (noneG n) _ _ _ ea ecap er w5 HS5.out (by have := HK.out; omega) HELN.out ((HER.out.step B2.out).below B52.out) HB2.out HBS.out HG1.out)
    have HLK : Hid (∀ w6, Below w2.heap.size w2 w6 → Sol w6 s b n p g (markE n er) (cnt (markE n er)) (.slice none 0 0) (.slice none 0 0) (.slice none 0 0) → Calls Tryz.prog 97 #[.pointer (some ⟨s, 0, none⟩), .slice (some ⟨gv, 0, none⟩) p p] w6 fun e w' => e = .returned (.tuple #[]) ∧
        (∃ V' E' T', Sol w' s b n p g (markE n er) (cnt (markE n er)) V' E' T' ∧ Reads w' V' (valsR W p) ∧ Reads w' E' (erF n (markE n er) n) ∧ Reads w' T' (toldF p (valsR W p) (erF n (markE n er) n))) ∧ Below w2.heap.size w6 w') := Lib.hid fun w6 hb hs => by
      rw [HVR.out]
      have hk := HK.out
      exact look_any w2.heap.size s b n p g _ gv _ _ _ _ X w6 hs (by omega) (by omega) (by omega) HVL.out HV8.out (R2.out.below hb R2.out.lt) HB2.out HBS.out HG1.out
    obtain ⟨G, hG⟩ : ∃ G, markE n er = G := ⟨_, rfl⟩
    rw [hG] at HERA HLK HMF0 HGL
    obtain ⟨lost, hlost⟩ : ∃ l, cnt G = l := ⟨_, rfl⟩
    have HLO : Hid (lost ≤ 255) := Lib.hid (by rw [← hlost]; have := cnt_le G; rw [HGL.out] at this; have := HK.out; omega)
    rw [hlost] at HERA HLK HMF0
    have HE8 : Hid (By (erF n G n) ∧ (erF n G n).length ≤ n + 1) := Lib.hid (erF_all n G n)
    obtain ⟨E, hE⟩ : ∃ E, erF n G n = E := ⟨_, rfl⟩
    rw [hE] at HLK HMF0 HE8
    have HVR8 : Hid (By (valsR W p) ∧ (valsR W p).length = p) := Lib.hid (by rw [HVR.out]; exact ⟨byRev HV8.out, by rw [List.length_reverse]; exact HVL.out⟩)
    have HT8 : Hid (By (toldF p (valsR W p) E) ∧ (toldF p (valsR W p) E).length ≤ p) := Lib.hid ⟨lowl_by (pms_two_by HVR8.out.1 HE8.out.1) p, lowl_le' p _⟩
    obtain ⟨VL, hVL⟩ : ∃ VL, valsR W p = VL := ⟨_, rfl⟩
    rw [hVL] at HLK HMF0 HVR8 HT8
    obtain ⟨T, hT⟩ : ∃ T, toldF p VL E = T := ⟨_, rfl⟩
    rw [hT] at HLK HMF0 HT8
    obtain ⟨bo, hbo⟩ : ∃ bo, inB n er = bo := ⟨_, rfl⟩
    rw [hbo] at HERA HMF0
    clear hs hG hlost hE hVL hT hbo HGN HG0 HVR HEL2 HVL HV8 HGR R5 B5 B4
    cases bo with
    | false =>
      have HO : Hid (MF = .arg) := Lib.hid (by rw [HMF0.out]; rfl)
      clear HMF0
      go_wp2_with (go_at_call 96; (with_reducible refine HERA.out.mono ?_); rintro e w6 ⟨rfl, q6, b6⟩; have B6 := Lib.hid ((B2.out.next B52.out).trans (b6.mono B2.out.size)); clear q6 b6)
      go_ret3
      exact ⟨by rw [HO.out]; rfl, B6.out⟩
    | true =>
      have HR8 : Hid (By (masseyF p T lost) ∧ (masseyF p T lost).length ≤ 300) := Lib.hid (masseyF_ok HT8.out.1 lost (by have := HK.out; omega))
      obtain ⟨RL, hRL⟩ : ∃ RL, masseyF p T lost = RL := ⟨_, rfl⟩
      have HRL : Hid (masseyF p T lost = RL) := Lib.hid hRL
      rw [hRL] at HMF0 HR8
      have HMW : Hid (By (layW n p W VL RL E) ∧ (layW n p W VL RL E).length = n) := Lib.hid ⟨wordF_by HW8.out (fun i => dAt_lt n (lowl_by (pms_two_by HVR8.out.1 (pms_two_by HR8.out.1 HE8.out.1)) p) i) n, by rw [← HWL.out]; exact wordF_length _ _ _⟩
      have HPL : Hid (∀ x ∈ layP n p VL RL E, x < n) := Lib.hid fun x hx => by
        have := (List.mem_filter.1 hx).1
        simpa using this
      have HPN : Hid ((layP n p VL RL E).length ≤ n) := Lib.hid (atF_le _ n)
      obtain ⟨m, hm⟩ : ∃ m, layW n p W VL RL E = m := ⟨_, rfl⟩
      obtain ⟨PL, hPL⟩ : ∃ PL, layP n p VL RL E = PL := ⟨_, rfl⟩
      have HLAY : Hid (∀ w7, Below w2.heap.size w2 w7 → ∀ V' E' T' rv, Sol w7 s b n p g G lost V' E' T' → Reads w7 V' VL → Reads w7 E' E → Reads w7 rv RL → Calls Tryz.prog 98 #[.pointer (some ⟨s, 0, none⟩), .slice (some ⟨wb, wo, none⟩) n cw, rv] w7 fun e w' =>
          (∃ x y, e = .returned (.tuple #[x, y]) ∧ (∃ gm cm, x = .slice (some ⟨gm, 0, none⟩) n cm ∧ n ≤ cm ∧ w7.heap.size ≤ gm ∧ Lies w' w'.heap.size (some ⟨gm, 0, none⟩) (u8s m)) ∧ IReads w' y PL) ∧ Below w7.heap.size w7 w') := Lib.hid fun w7 hb V' E' T' rv h1 h2 h3 h4 => by
        have hk := HK.out
        have he := HE8.out
        have hv := HVR8.out
        rw [← hm, ← hPL]
        exact lay_any s b n p g lost G V' E' T' VL E W RL rv wb wo cw w7 h1 HN1.out (by omega) (by omega) (by omega) h2 hv.1 (by omega) h3 he.1 (by omega) h4 HR8.out.1 HR8.out.2 ((HWR.out.step B2.out).step hb) HWL.out HW8.out
      rw [hm, hPL] at HMF0
      rw [hm] at HMW
      rw [hPL] at HPL HPN
      have HSEEK : Hid (∀ w7, ∀ V' E' T', Sol w7 s b n p g G lost V' E' T' → Reads w7 T' T → Calls Tryz.prog 79 #[.pointer (some ⟨s, 0, none⟩)] w7 fun e w' => (∃ v, e = .returned v ∧ Reads w' v RL) ∧ Below w7.heap.size w7 w') := Lib.hid fun w7 V' E' T' h1 h2 => by
        have hk := HK.out
        have ht := HT8.out
        rw [← HRL.out]
        exact massey_any s b n p g lost G V' E' T' T w7 h1 h2 ht.1 (by omega) (by omega) HLO.out
      obtain ⟨oth, hoth⟩ : ∃ o, othF G PL = o := ⟨_, rfl⟩
      have HOT0 : Hid (othF G PL = oth) := Lib.hid hoth
      have HOB : Hid (oth ≤ 255) := Lib.hid (by rw [← hoth]; have := oth_le G PL; have := HPN.out; have := HK.out; omega)
      rw [hoth] at HMF0
      obtain ⟨ri, hri⟩ : ∃ r, allz (vals m p) = r := ⟨_, rfl⟩
      have HRI : Hid (allz (vals m p) = ri) := Lib.hid hri
      obtain ⟨wi, hwi⟩ : ∃ r, decide (lost ≤ p ∧ oth ≤ (p - lost) / 2) = r := ⟨_, rfl⟩
      have HWD : Hid (decide (lost ≤ p ∧ oth ≤ (p - lost) / 2) = wi) := Lib.hid hwi
      have HOK : Hid (ri = true → wi = true → MF = .ok m PL) := Lib.hid fun h1 h2 => by
        rw [HMF0.out, if_neg (by simp), hri, h1, if_pos ⟨rfl, by rw [h2] at hwi; exact of_decide_eq_true hwi⟩]
      have HBAD : Hid (ri = false ∨ wi = false → MF = .bad) := Lib.hid fun h1 => by
        rw [HMF0.out, if_neg (by simp), hri]
        refine if_neg fun h2 => ?_
        rcases h1 with h1 | h1
        · rw [h1] at h2; exact absurd h2.1 (by simp)
        · rw [h1] at hwi; exact of_decide_eq_false hwi h2.2
      clear HMF0 hRL hm hPL hoth hri hwi
      go_wp2_with (first
        | (go_at_call 96; (with_reducible refine HERA.out.mono ?_); rintro e w6 ⟨rfl, q6, b6⟩; have B6 := Lib.hid (B52.out.trans b6); have S6 := Lib.hid (q6 rfl); clear q6 b6)
        | (go_at_call 97; (with_reducible refine (HLK.out w6 B6.out S6.out).mono ?_); rintro e w7 ⟨rfl, ⟨V', E', T', s7, v7, e7, t7⟩, b7⟩; have B7 := Lib.hid (B6.out.trans b7); have S7 := Lib.hid s7; have V7 := Lib.hid v7; have E7 := Lib.hid e7; have T7 := Lib.hid t7; clear s7 v7 e7 t7 b7)
        | (go_at_call 79; (with_reducible refine (HSEEK.out w7 V' E' T' S7.out T7.out).mono ?_); rintro e w7' ⟨⟨rv, rfl, r7⟩, b7⟩; have R7 := Lib.hid r7; have B7' := Lib.hid (B7.out.trans (b7.mono B7.out.size)); have S7' := Lib.hid (S7.out.step b7); have V7' := Lib.hid (V7.out.step b7); have E7' := Lib.hid (E7.out.step b7); clear r7 b7)
        | (go_at_call 98; (with_reducible refine (HLAY.out w7' B7'.out V' E' T' rv S7'.out V7'.out E7'.out R7.out).mono ?_); rintro e w8 ⟨⟨ox, ov, rfl, ⟨gM, cm, rfl, q8, q9, l8⟩, i8⟩, b8⟩; have HGN : Hid (w.heap.size ≤ gM) := Lib.hid (Nat.le_trans (B2.out.next B7'.out).size q9); have HCM : Hid (n ≤ cm) := Lib.hid q8; have LM8 := Lib.hid l8; have IP8 := Lib.hid i8; have B8 := Lib.hid (B2.out.next (B7'.out.trans (b8.mono B7'.out.size))); have S8 := Lib.hid (S7'.out.step b8); clear q8 q9 l8 i8 b8))
      have HLT : Hid (s < w8.heap.size) := Lib.hid S8.out.lt
      have C4 := Lib.hid S8.out.c4
      clear B6 S6 B7 S7 V7 E7 T7 R7 B7' S7' V7' E7'
      have HWIN : Hid (∀ wx, Below w8.heap.size w8 wx → Calls Tryz.prog 100 #[.pointer (some ⟨c, 0, none⟩), .int .i64 (lost : Int), .int .i64 (oth : Int)] wx fun e w' => e = .returned (.bool wi) ∧ Below wx.heap.size wx w') := Lib.hid fun wx hb => by
        rw [← HWD.out]
        exact HWI.out wx (B8.out.next hb) lost oth (by have := HLO.out; omega) (by have := HOB.out; omega)
      have HOT : Hid (∀ wx, Below w8.heap.size w8 wx → ∀ v, IRd PL v wx → Calls Tryz.prog 101 #[.pointer (some ⟨s, 0, none⟩), v] wx fun e w' => e = .returned (.int .i64 (oth : Int)) ∧ Below wx.heap.size wx w') := Lib.hid fun wx hb v hv => by
        obtain ⟨a, c, rfl, h1, h2⟩ := hv
        rw [← HOT0.out]
        exact (others_any s b n p g G lost V' E' T' a c PL wx (S8.out.step hb) (by have := HK.out; omega) (by have := HPN.out; have := HK.out; omega) HPL.out h2).mono fun e w' ⟨h1, h2⟩ => ⟨h1, h2 ▸ Below.refl _ _⟩
      have HRIG : Hid (∀ wx, Below w8.heap.size w8 wx → Calls Tryz.prog 99 #[.pointer (some ⟨c, 0, none⟩), .slice (some ⟨gM, 0, none⟩) n cm] wx fun e w' => e = .returned (.bool ri) ∧ Below wx.heap.size wx w') := Lib.hid fun wx hb => by
        rw [← HRI.out]
        exact HRT.out wx (B8.out.next hb) gM cm m HMW.out.2 HMW.out.1 (by rw [HMW.out.2]; exact HCM.out) (LM8.out.step hb)
      cases ri with
      | true =>
        refine region_invX [(0, 58), (1, 59), (2, 60), (3, 61), (4, 62), (5, 63), (6, 64), (7, 65), (8, 66), (9, 67), (10, 68), (11, 69), (12, 70), (13, 71), (14, 72), (15, 73)]
          (fun ii => [Is (.pointer (some ⟨c, 0, none⟩)), Is (.slice (some ⟨gM, 0, none⟩) n cm), Is (.bool true), Is (.bool false), Is (.bool false), Is (.pointer (some ⟨c, 0, none⟩)), Is (.pointer (some ⟨s, 0, none⟩)), Is (.pointer (some ⟨s, 0, none⟩)), Is (.pointer (some ⟨s, 4, none⟩)), Is (.int .i64 (lost : Int)), Is (.pointer (some ⟨s, 0, none⟩)), IRd PL, Is (.int .i64 (oth : Int)), Is (.bool wi), Is (.bool (!wi)), Is (.bool (!wi))].getD ii (Is undef))
          (fun w' => Below w8.heap.size w8 w') (by kernel_rfl) (by kernel_rfl) (by decide) (by decide) (by kernel_rfl) rfl ?monok ((Below.refl _ _).drew) ?stepk ?fink
        case monok =>
          intro i
          match i with
          | 0 | 1 | 2 | 3 | 4 | 5 | 6 | 7 | 8 | 9 | 10 | 12 | 13 | 14 | 15 => exact Is.monot _
          | 11 => exact IRd.monot _
          | _ + 16 => exact Is.monot _
        case stepk =>
          refine List.forall_mem_cons.2 ⟨?ks0, List.forall_mem_cons.2 ⟨?ks1, List.forall_mem_cons.2 ⟨?ks2, List.forall_mem_cons.2 ⟨?ks3, List.forall_mem_cons.2 ⟨?ks4, List.forall_mem_cons.2 ⟨?ks5, List.forall_mem_cons.2 ⟨?ks6, List.forall_mem_cons.2 ⟨?ks7, List.forall_mem_cons.2 ⟨?ks8, List.forall_mem_cons.2 ⟨?ks9, List.forall_mem_cons.2 ⟨?ks10, List.forall_mem_cons.2 ⟨?ks11, List.forall_mem_cons.2 ⟨?ks12, List.forall_mem_cons.2 ⟨?ks13, List.forall_mem_cons.2 ⟨?ks14, List.forall_mem_cons.2 ⟨?ks15, List.forall_mem_nil _⟩⟩⟩⟩⟩⟩⟩⟩⟩⟩⟩⟩⟩⟩⟩⟩
          case ks0 =>
            intro u wx hg hC
            clear hC
            refine wpOp_step rfl (fun K hK => ?_)
            simp only [puts, List.foldl]
            go_simp
            exact hK _ _ ⟨rfl, rfl, hg, Below.refl _ _⟩
          case ks1 =>
            intro u wx hg hC
            clear hC
            refine wpOp_step rfl (fun K hK => ?_)
            simp only [puts, List.foldl]
            go_simp
            exact hK _ _ ⟨rfl, rfl, hg, Below.refl _ _⟩
          case ks2 =>
            intro u wx hg hC
            have hJ0 : u 0 = (.pointer (some ⟨c, 0, none⟩)) := hC.at 0 (by kernel_rfl)
            have hJ1 : u 1 = (.slice (some ⟨gM, 0, none⟩) n cm) := hC.at 1 (by kernel_rfl)
            clear hC
            refine wpOp_step rfl (fun K hK => ?_)
            simp only [puts, List.foldl]
            go_simp
            refine (HRIG.out wx hg).mono ?_
            rintro e w' ⟨rfl, hb'⟩
            exact hK _ _ ⟨rfl, rfl, hg.next hb', hb'⟩
          case ks3 =>
            intro u wx hg hC
            have hJ2 : u 2 = (.bool true) := hC.at 2 (by kernel_rfl)
            clear hC
            refine wpOp_step rfl (fun K hK => ?_)
            simp only [puts, List.foldl]
            go_simp
            exact hK _ _ ⟨rfl, rfl, hg, Below.refl _ _⟩
          case ks4 =>
            intro u wx hg hC
            have hJ3 : u 3 = (.bool false) := hC.at 3 (by kernel_rfl)
            clear hC
            refine wpOp_step rfl (fun K hK => ?_)
            simp only [puts, List.foldl]
            go_simp
            exact hK _ _ ⟨rfl, rfl, hg, Below.refl _ _⟩
          case ks5 =>
            intro u wx hg hC
            have hJ4 : u 4 = (.bool false) := hC.at 4 (by kernel_rfl)
            clear hC
            generalize hA : puts [(0, 58), (1, 59), (2, 60), (3, 61), (4, 62), (5, 63), (6, 64), (7, 65), (8, 66), (9, 67), (10, 68), (11, 69), (12, 70), (13, 71), (14, 72), (15, 73)] _ u = A
            have hgv : A.tmps.getD 62 undef = .bool false := by rw [← hA]; exact (puts_get u 4 62 _ _ (by decide) (by decide) (by kernel_rfl)).trans hJ4
            have hgs : 62 < A.tmps.size := by rw [← hA]; exact puts_room u (by kernel_rfl)
            refine wpOp_guard rfl 4 62 false rfl rfl hgs hgv (fun K hK => ?_)
            subst hA
            simp only [puts, List.foldl]
            go_simp
            exact hK _ _ ⟨rfl, rfl, hg, Below.refl _ _⟩
          case ks6 =>
            intro u wx hg hC
            have hJ4 : u 4 = (.bool false) := hC.at 4 (by kernel_rfl)
            clear hC
            generalize hA : puts [(0, 58), (1, 59), (2, 60), (3, 61), (4, 62), (5, 63), (6, 64), (7, 65), (8, 66), (9, 67), (10, 68), (11, 69), (12, 70), (13, 71), (14, 72), (15, 73)] _ u = A
            have hgv : A.tmps.getD 62 undef = .bool false := by rw [← hA]; exact (puts_get u 4 62 _ _ (by decide) (by decide) (by kernel_rfl)).trans hJ4
            have hgs : 62 < A.tmps.size := by rw [← hA]; exact puts_room u (by kernel_rfl)
            refine wpOp_guard rfl 4 62 false rfl rfl hgs hgv (fun K hK => ?_)
            subst hA
            simp only [puts, List.foldl]
            go_simp
            exact hK _ _ ⟨rfl, rfl, hg, Below.refl _ _⟩
          case ks7 =>
            intro u wx hg hC
            have hJ4 : u 4 = (.bool false) := hC.at 4 (by kernel_rfl)
            have hJ6 : u 6 = (.pointer (some ⟨s, 0, none⟩)) := hC.at 6 (by kernel_rfl)
            clear hC
            generalize hA : puts [(0, 58), (1, 59), (2, 60), (3, 61), (4, 62), (5, 63), (6, 64), (7, 65), (8, 66), (9, 67), (10, 68), (11, 69), (12, 70), (13, 71), (14, 72), (15, 73)] _ u = A
            have hgv : A.tmps.getD 62 undef = .bool false := by rw [← hA]; exact (puts_get u 4 62 _ _ (by decide) (by decide) (by kernel_rfl)).trans hJ4
            have hgs : 62 < A.tmps.size := by rw [← hA]; exact puts_room u (by kernel_rfl)
            refine wpOp_guard rfl 4 62 false rfl rfl hgs hgv (fun K hK => ?_)
            subst hA
            simp only [puts, List.foldl]
            go_simp
            exact hK _ _ ⟨rfl, rfl, hg, Below.refl _ _⟩
          case ks8 =>
            intro u wx hg hC
            have hJ4 : u 4 = (.bool false) := hC.at 4 (by kernel_rfl)
            have hJ7 : u 7 = (.pointer (some ⟨s, 0, none⟩)) := hC.at 7 (by kernel_rfl)
            clear hC
            generalize hA : puts [(0, 58), (1, 59), (2, 60), (3, 61), (4, 62), (5, 63), (6, 64), (7, 65), (8, 66), (9, 67), (10, 68), (11, 69), (12, 70), (13, 71), (14, 72), (15, 73)] _ u = A
            have hgv : A.tmps.getD 62 undef = .bool false := by rw [← hA]; exact (puts_get u 4 62 _ _ (by decide) (by decide) (by kernel_rfl)).trans hJ4
            have hgs : 62 < A.tmps.size := by rw [← hA]; exact puts_room u (by kernel_rfl)
            refine wpOp_guard rfl 4 62 false rfl rfl hgs hgv (fun K hK => ?_)
            subst hA
            simp only [puts, List.foldl]
            go_simp
            exact hK _ _ ⟨rfl, rfl, hg, Below.refl _ _⟩
          case ks9 =>
            intro u wx hg hC
            have hJ4 : u 4 = (.bool false) := hC.at 4 (by kernel_rfl)
            have hJ8 : u 8 = (.pointer (some ⟨s, 4, none⟩)) := hC.at 8 (by kernel_rfl)
            clear hC
            have hcl : wx.cell? ⟨s, 4, none⟩ = some (.int .i64 (lost : Int)) := (hg.cell (p := ⟨s, 4, none⟩) HLT.out).trans C4.out
            generalize hA : puts [(0, 58), (1, 59), (2, 60), (3, 61), (4, 62), (5, 63), (6, 64), (7, 65), (8, 66), (9, 67), (10, 68), (11, 69), (12, 70), (13, 71), (14, 72), (15, 73)] _ u = A
            have hgv : A.tmps.getD 62 undef = .bool false := by rw [← hA]; exact (puts_get u 4 62 _ _ (by decide) (by decide) (by kernel_rfl)).trans hJ4
            have hgs : 62 < A.tmps.size := by rw [← hA]; exact puts_room u (by kernel_rfl)
            refine wpOp_guard rfl 4 62 false rfl rfl hgs hgv (fun K hK => ?_)
            subst hA
            simp only [puts, List.foldl]
            go_simp
            exact hK _ _ ⟨rfl, rfl, hg, Below.refl _ _⟩
          case ks10 =>
            intro u wx hg hC
            have hJ4 : u 4 = (.bool false) := hC.at 4 (by kernel_rfl)
            clear hC
            generalize hA : puts [(0, 58), (1, 59), (2, 60), (3, 61), (4, 62), (5, 63), (6, 64), (7, 65), (8, 66), (9, 67), (10, 68), (11, 69), (12, 70), (13, 71), (14, 72), (15, 73)] _ u = A
            have hgv : A.tmps.getD 62 undef = .bool false := by rw [← hA]; exact (puts_get u 4 62 _ _ (by decide) (by decide) (by kernel_rfl)).trans hJ4
            have hgs : 62 < A.tmps.size := by rw [← hA]; exact puts_room u (by kernel_rfl)
            refine wpOp_guard rfl 4 62 false rfl rfl hgs hgv (fun K hK => ?_)
            subst hA
            simp only [puts, List.foldl]
            go_simp
            exact hK _ _ ⟨rfl, rfl, hg, Below.refl _ _⟩
          case ks11 =>
            intro u wx hg hC
            have hJ4 : u 4 = (.bool false) := hC.at 4 (by kernel_rfl)
            clear hC
            generalize hA : puts [(0, 58), (1, 59), (2, 60), (3, 61), (4, 62), (5, 63), (6, 64), (7, 65), (8, 66), (9, 67), (10, 68), (11, 69), (12, 70), (13, 71), (14, 72), (15, 73)] _ u = A
            have hgv : A.tmps.getD 62 undef = .bool false := by rw [← hA]; exact (puts_get u 4 62 _ _ (by decide) (by decide) (by kernel_rfl)).trans hJ4
            have hgs : 62 < A.tmps.size := by rw [← hA]; exact puts_room u (by kernel_rfl)
            refine wpOp_guard rfl 4 62 false rfl rfl hgs hgv (fun K hK => ?_)
            subst hA
            simp only [puts, List.foldl]
            go_simp
            exact hK _ _ ⟨rfl, IP8.out.step hg, hg, Below.refl _ _⟩
          case ks12 =>
            intro u wx hg hC
            have hJ4 : u 4 = (.bool false) := hC.at 4 (by kernel_rfl)
            have hJ10 : u 10 = (.pointer (some ⟨s, 0, none⟩)) := hC.at 10 (by kernel_rfl)
            have hJ11 : (IRd PL) (u 11) wx := hC.at 11 (by kernel_rfl)
            clear hC
            generalize hA : puts [(0, 58), (1, 59), (2, 60), (3, 61), (4, 62), (5, 63), (6, 64), (7, 65), (8, 66), (9, 67), (10, 68), (11, 69), (12, 70), (13, 71), (14, 72), (15, 73)] _ u = A
            have hgv : A.tmps.getD 62 undef = .bool false := by rw [← hA]; exact (puts_get u 4 62 _ _ (by decide) (by decide) (by kernel_rfl)).trans hJ4
            have hgs : 62 < A.tmps.size := by rw [← hA]; exact puts_room u (by kernel_rfl)
            refine wpOp_guard rfl 4 62 false rfl rfl hgs hgv (fun K hK => ?_)
            subst hA
            simp only [puts, List.foldl]
            go_simp
            refine (HOT.out wx hg _ hJ11).mono ?_
            rintro e w' ⟨rfl, hb'⟩
            exact hK _ _ ⟨rfl, rfl, hg.next hb', hb'⟩
          case ks13 =>
            intro u wx hg hC
            have hJ4 : u 4 = (.bool false) := hC.at 4 (by kernel_rfl)
            have hJ5 : u 5 = (.pointer (some ⟨c, 0, none⟩)) := hC.at 5 (by kernel_rfl)
            have hJ9 : u 9 = (.int .i64 (lost : Int)) := hC.at 9 (by kernel_rfl)
            have hJ12 : u 12 = (.int .i64 (oth : Int)) := hC.at 12 (by kernel_rfl)
            clear hC
            generalize hA : puts [(0, 58), (1, 59), (2, 60), (3, 61), (4, 62), (5, 63), (6, 64), (7, 65), (8, 66), (9, 67), (10, 68), (11, 69), (12, 70), (13, 71), (14, 72), (15, 73)] _ u = A
            have hgv : A.tmps.getD 62 undef = .bool false := by rw [← hA]; exact (puts_get u 4 62 _ _ (by decide) (by decide) (by kernel_rfl)).trans hJ4
            have hgs : 62 < A.tmps.size := by rw [← hA]; exact puts_room u (by kernel_rfl)
            refine wpOp_guard rfl 4 62 false rfl rfl hgs hgv (fun K hK => ?_)
            subst hA
            simp only [puts, List.foldl]
            go_simp
            refine (HWIN.out wx hg).mono ?_
            rintro e w' ⟨rfl, hb'⟩
            exact hK _ _ ⟨rfl, rfl, hg.next hb', hb'⟩
          case ks14 =>
            intro u wx hg hC
            have hJ4 : u 4 = (.bool false) := hC.at 4 (by kernel_rfl)
            have hJ13 : u 13 = (.bool wi) := hC.at 13 (by kernel_rfl)
            clear hC
            generalize hA : puts [(0, 58), (1, 59), (2, 60), (3, 61), (4, 62), (5, 63), (6, 64), (7, 65), (8, 66), (9, 67), (10, 68), (11, 69), (12, 70), (13, 71), (14, 72), (15, 73)] _ u = A
            have hgv : A.tmps.getD 62 undef = .bool false := by rw [← hA]; exact (puts_get u 4 62 _ _ (by decide) (by decide) (by kernel_rfl)).trans hJ4
            have hgs : 62 < A.tmps.size := by rw [← hA]; exact puts_room u (by kernel_rfl)
            refine wpOp_guard rfl 4 62 false rfl rfl hgs hgv (fun K hK => ?_)
            subst hA
            simp only [puts, List.foldl]
            go_simp
            exact hK _ _ ⟨rfl, rfl, hg, Below.refl _ _⟩
          case ks15 =>
            intro u wx hg hC
            have hJ4 : u 4 = (.bool false) := hC.at 4 (by kernel_rfl)
            have hJ14 : u 14 = (.bool (!wi)) := hC.at 14 (by kernel_rfl)
            clear hC
            refine wpOp_step rfl (fun K hK => ?_)
            simp only [puts, List.foldl]
            go_simp
            exact hK _ _ ⟨rfl, rfl, hg, Below.refl _ _⟩
        case fink =>
          intro u w9 hb9 hφ
          have e73 : u 15 = .bool (!wi) := hφ (15, 73) (by decide)
          clear hφ
          simp only [puts, List.foldl]
          go_simp
          have B9 := Lib.hid (B8.out.next hb9)
          have LM9 := Lib.hid (LM8.out.step hb9)
          have IP9 := Lib.hid (IP8.out.step hb9)
          clear hb9
          cases wi with
          | true =>
            have e73' : u 15 = .bool false := e73
            have HO := Lib.hid (HOK.out rfl rfl)
            clear e73 HOK
            go_wp2
            go_ret3
            exact ⟨by rw [HO.out]; exact ⟨gM, cm, ov, rfl, HCM.out, HGN.out, LM9.out, IP9.out⟩, B9.out⟩
          | false =>
            have e73' : u 15 = .bool true := e73
            have HO := Lib.hid (HBAD.out (Or.inr rfl))
            clear e73 HBAD
            go_wp2
            go_ret3
            exact ⟨by rw [HO.out]; rfl, B9.out⟩
      | false =>
        refine region_invX [(0, 58), (1, 59), (2, 60), (3, 61), (4, 62), (5, 63), (6, 64), (7, 65), (8, 66), (9, 67), (10, 68), (11, 69), (12, 70), (13, 71), (14, 72), (15, 73)]
          (fun ii => [Is (.pointer (some ⟨c, 0, none⟩)), Is (.slice (some ⟨gM, 0, none⟩) n cm), Is (.bool false), Is (.bool true), Is (.bool true), Is undef, Is undef, Is undef, Is undef, Is undef, Is undef, Is undef, Is undef, Is undef, Is undef, Is (.bool true)].getD ii (Is undef))
          (fun w' => Below w8.heap.size w8 w') (by kernel_rfl) (by kernel_rfl) (by decide) (by decide) (by kernel_rfl) rfl ?monoj ((Below.refl _ _).drew) ?stepj ?finj
        case monoj =>
          intro i
          match i with
          | 0 | 1 | 2 | 3 | 4 | 5 | 6 | 7 | 8 | 9 | 10 | 11 | 12 | 13 | 14 | 15 => exact Is.monot _
          | _ + 16 => exact Is.monot _
        case stepj =>
          refine List.forall_mem_cons.2 ⟨?js0, List.forall_mem_cons.2 ⟨?js1, List.forall_mem_cons.2 ⟨?js2, List.forall_mem_cons.2 ⟨?js3, List.forall_mem_cons.2 ⟨?js4, List.forall_mem_cons.2 ⟨?js5, List.forall_mem_cons.2 ⟨?js6, List.forall_mem_cons.2 ⟨?js7, List.forall_mem_cons.2 ⟨?js8, List.forall_mem_cons.2 ⟨?js9, List.forall_mem_cons.2 ⟨?js10, List.forall_mem_cons.2 ⟨?js11, List.forall_mem_cons.2 ⟨?js12, List.forall_mem_cons.2 ⟨?js13, List.forall_mem_cons.2 ⟨?js14, List.forall_mem_cons.2 ⟨?js15, List.forall_mem_nil _⟩⟩⟩⟩⟩⟩⟩⟩⟩⟩⟩⟩⟩⟩⟩⟩
          case js0 =>
            intro u wx hg hC
            clear hC
            refine wpOp_step rfl (fun K hK => ?_)
            simp only [puts, List.foldl]
            go_simp
            exact hK _ _ ⟨rfl, rfl, hg, Below.refl _ _⟩
          case js1 =>
            intro u wx hg hC
            clear hC
            refine wpOp_step rfl (fun K hK => ?_)
            simp only [puts, List.foldl]
            go_simp
            exact hK _ _ ⟨rfl, rfl, hg, Below.refl _ _⟩
          case js2 =>
            intro u wx hg hC
            have hJ0 : u 0 = (.pointer (some ⟨c, 0, none⟩)) := hC.at 0 (by kernel_rfl)
            have hJ1 : u 1 = (.slice (some ⟨gM, 0, none⟩) n cm) := hC.at 1 (by kernel_rfl)
            clear hC
            refine wpOp_step rfl (fun K hK => ?_)
            simp only [puts, List.foldl]
            go_simp
            refine (HRIG.out wx hg).mono ?_
            rintro e w' ⟨rfl, hb'⟩
            exact hK _ _ ⟨rfl, rfl, hg.next hb', hb'⟩
          case js3 =>
            intro u wx hg hC
            have hJ2 : u 2 = (.bool false) := hC.at 2 (by kernel_rfl)
            clear hC
            refine wpOp_step rfl (fun K hK => ?_)
            simp only [puts, List.foldl]
            go_simp
            exact hK _ _ ⟨rfl, rfl, hg, Below.refl _ _⟩
          case js4 =>
            intro u wx hg hC
            have hJ3 : u 3 = (.bool true) := hC.at 3 (by kernel_rfl)
            clear hC
            refine wpOp_step rfl (fun K hK => ?_)
            simp only [puts, List.foldl]
            go_simp
            exact hK _ _ ⟨rfl, rfl, hg, Below.refl _ _⟩
          case js5 =>
            intro u wx hg hC
            have hJ4 : u 4 = .bool true := hC.at 4 (by kernel_rfl)
            clear hC
            generalize hA : puts [(0, 58), (1, 59), (2, 60), (3, 61), (4, 62), (5, 63), (6, 64), (7, 65), (8, 66), (9, 67), (10, 68), (11, 69), (12, 70), (13, 71), (14, 72), (15, 73)] _ u = A
            have hgv : A.tmps.getD 62 undef = .bool true := by rw [← hA]; exact (puts_get u 4 62 _ _ (by decide) (by decide) (by kernel_rfl)).trans hJ4
            have hgs : 62 < A.tmps.size := by rw [← hA]; exact puts_room u (by kernel_rfl)
            refine wpOp_skip rfl 4 62 false rfl rfl hgs hgv ?_
            subst hA
            simp only [puts, List.foldl]
            go_simp
            first | exact ⟨rfl, hg, Below.refl _ _⟩ | exact ⟨rfl, hg⟩ | exact ⟨rfl, Below.refl _ _⟩ | exact ⟨rfl, rfl, hg, Below.refl _ _⟩ | exact ⟨hg, Below.refl _ _⟩
          case js6 =>
            intro u wx hg hC
            have hJ4 : u 4 = .bool true := hC.at 4 (by kernel_rfl)
            clear hC
            generalize hA : puts [(0, 58), (1, 59), (2, 60), (3, 61), (4, 62), (5, 63), (6, 64), (7, 65), (8, 66), (9, 67), (10, 68), (11, 69), (12, 70), (13, 71), (14, 72), (15, 73)] _ u = A
            have hgv : A.tmps.getD 62 undef = .bool true := by rw [← hA]; exact (puts_get u 4 62 _ _ (by decide) (by decide) (by kernel_rfl)).trans hJ4
            have hgs : 62 < A.tmps.size := by rw [← hA]; exact puts_room u (by kernel_rfl)
            refine wpOp_skip rfl 4 62 false rfl rfl hgs hgv ?_
            subst hA
            simp only [puts, List.foldl]
            go_simp
            first | exact ⟨rfl, hg, Below.refl _ _⟩ | exact ⟨rfl, hg⟩ | exact ⟨rfl, Below.refl _ _⟩ | exact ⟨rfl, rfl, hg, Below.refl _ _⟩ | exact ⟨hg, Below.refl _ _⟩
          case js7 =>
            intro u wx hg hC
            have hJ4 : u 4 = .bool true := hC.at 4 (by kernel_rfl)
            clear hC
            generalize hA : puts [(0, 58), (1, 59), (2, 60), (3, 61), (4, 62), (5, 63), (6, 64), (7, 65), (8, 66), (9, 67), (10, 68), (11, 69), (12, 70), (13, 71), (14, 72), (15, 73)] _ u = A
            have hgv : A.tmps.getD 62 undef = .bool true := by rw [← hA]; exact (puts_get u 4 62 _ _ (by decide) (by decide) (by kernel_rfl)).trans hJ4
            have hgs : 62 < A.tmps.size := by rw [← hA]; exact puts_room u (by kernel_rfl)
            refine wpOp_skip rfl 4 62 false rfl rfl hgs hgv ?_
            subst hA
            simp only [puts, List.foldl]
            go_simp
            first | exact ⟨rfl, hg, Below.refl _ _⟩ | exact ⟨rfl, hg⟩ | exact ⟨rfl, Below.refl _ _⟩ | exact ⟨rfl, rfl, hg, Below.refl _ _⟩ | exact ⟨hg, Below.refl _ _⟩
          case js8 =>
            intro u wx hg hC
            have hJ4 : u 4 = .bool true := hC.at 4 (by kernel_rfl)
            clear hC
            generalize hA : puts [(0, 58), (1, 59), (2, 60), (3, 61), (4, 62), (5, 63), (6, 64), (7, 65), (8, 66), (9, 67), (10, 68), (11, 69), (12, 70), (13, 71), (14, 72), (15, 73)] _ u = A
            have hgv : A.tmps.getD 62 undef = .bool true := by rw [← hA]; exact (puts_get u 4 62 _ _ (by decide) (by decide) (by kernel_rfl)).trans hJ4
            have hgs : 62 < A.tmps.size := by rw [← hA]; exact puts_room u (by kernel_rfl)
            refine wpOp_skip rfl 4 62 false rfl rfl hgs hgv ?_
            subst hA
            simp only [puts, List.foldl]
            go_simp
            first | exact ⟨rfl, hg, Below.refl _ _⟩ | exact ⟨rfl, hg⟩ | exact ⟨rfl, Below.refl _ _⟩ | exact ⟨rfl, rfl, hg, Below.refl _ _⟩ | exact ⟨hg, Below.refl _ _⟩
          case js9 =>
            intro u wx hg hC
            have hJ4 : u 4 = .bool true := hC.at 4 (by kernel_rfl)
            clear hC
            generalize hA : puts [(0, 58), (1, 59), (2, 60), (3, 61), (4, 62), (5, 63), (6, 64), (7, 65), (8, 66), (9, 67), (10, 68), (11, 69), (12, 70), (13, 71), (14, 72), (15, 73)] _ u = A
            have hgv : A.tmps.getD 62 undef = .bool true := by rw [← hA]; exact (puts_get u 4 62 _ _ (by decide) (by decide) (by kernel_rfl)).trans hJ4
            have hgs : 62 < A.tmps.size := by rw [← hA]; exact puts_room u (by kernel_rfl)
            refine wpOp_skip rfl 4 62 false rfl rfl hgs hgv ?_
            subst hA
            simp only [puts, List.foldl]
            go_simp
            first | exact ⟨rfl, hg, Below.refl _ _⟩ | exact ⟨rfl, hg⟩ | exact ⟨rfl, Below.refl _ _⟩ | exact ⟨rfl, rfl, hg, Below.refl _ _⟩ | exact ⟨hg, Below.refl _ _⟩
          case js10 =>
            intro u wx hg hC
            have hJ4 : u 4 = .bool true := hC.at 4 (by kernel_rfl)
            clear hC
            generalize hA : puts [(0, 58), (1, 59), (2, 60), (3, 61), (4, 62), (5, 63), (6, 64), (7, 65), (8, 66), (9, 67), (10, 68), (11, 69), (12, 70), (13, 71), (14, 72), (15, 73)] _ u = A
            have hgv : A.tmps.getD 62 undef = .bool true := by rw [← hA]; exact (puts_get u 4 62 _ _ (by decide) (by decide) (by kernel_rfl)).trans hJ4
            have hgs : 62 < A.tmps.size := by rw [← hA]; exact puts_room u (by kernel_rfl)
            refine wpOp_skip rfl 4 62 false rfl rfl hgs hgv ?_
            subst hA
            simp only [puts, List.foldl]
            go_simp
            first | exact ⟨rfl, hg, Below.refl _ _⟩ | exact ⟨rfl, hg⟩ | exact ⟨rfl, Below.refl _ _⟩ | exact ⟨rfl, rfl, hg, Below.refl _ _⟩ | exact ⟨hg, Below.refl _ _⟩
          case js11 =>
            intro u wx hg hC
            have hJ4 : u 4 = .bool true := hC.at 4 (by kernel_rfl)
            clear hC
            generalize hA : puts [(0, 58), (1, 59), (2, 60), (3, 61), (4, 62), (5, 63), (6, 64), (7, 65), (8, 66), (9, 67), (10, 68), (11, 69), (12, 70), (13, 71), (14, 72), (15, 73)] _ u = A
            have hgv : A.tmps.getD 62 undef = .bool true := by rw [← hA]; exact (puts_get u 4 62 _ _ (by decide) (by decide) (by kernel_rfl)).trans hJ4
            have hgs : 62 < A.tmps.size := by rw [← hA]; exact puts_room u (by kernel_rfl)
            refine wpOp_skip rfl 4 62 false rfl rfl hgs hgv ?_
            subst hA
            simp only [puts, List.foldl]
            go_simp
            first | exact ⟨rfl, hg, Below.refl _ _⟩ | exact ⟨rfl, hg⟩ | exact ⟨rfl, Below.refl _ _⟩ | exact ⟨rfl, rfl, hg, Below.refl _ _⟩ | exact ⟨hg, Below.refl _ _⟩
          case js12 =>
            intro u wx hg hC
            have hJ4 : u 4 = .bool true := hC.at 4 (by kernel_rfl)
            clear hC
            generalize hA : puts [(0, 58), (1, 59), (2, 60), (3, 61), (4, 62), (5, 63), (6, 64), (7, 65), (8, 66), (9, 67), (10, 68), (11, 69), (12, 70), (13, 71), (14, 72), (15, 73)] _ u = A
            have hgv : A.tmps.getD 62 undef = .bool true := by rw [← hA]; exact (puts_get u 4 62 _ _ (by decide) (by decide) (by kernel_rfl)).trans hJ4
            have hgs : 62 < A.tmps.size := by rw [← hA]; exact puts_room u (by kernel_rfl)
            refine wpOp_skip rfl 4 62 false rfl rfl hgs hgv ?_
            subst hA
            simp only [puts, List.foldl]
            go_simp
            first | exact ⟨rfl, hg, Below.refl _ _⟩ | exact ⟨rfl, hg⟩ | exact ⟨rfl, Below.refl _ _⟩ | exact ⟨rfl, rfl, hg, Below.refl _ _⟩ | exact ⟨hg, Below.refl _ _⟩
          case js13 =>
            intro u wx hg hC
            have hJ4 : u 4 = .bool true := hC.at 4 (by kernel_rfl)
            clear hC
            generalize hA : puts [(0, 58), (1, 59), (2, 60), (3, 61), (4, 62), (5, 63), (6, 64), (7, 65), (8, 66), (9, 67), (10, 68), (11, 69), (12, 70), (13, 71), (14, 72), (15, 73)] _ u = A
            have hgv : A.tmps.getD 62 undef = .bool true := by rw [← hA]; exact (puts_get u 4 62 _ _ (by decide) (by decide) (by kernel_rfl)).trans hJ4
            have hgs : 62 < A.tmps.size := by rw [← hA]; exact puts_room u (by kernel_rfl)
            refine wpOp_skip rfl 4 62 false rfl rfl hgs hgv ?_
            subst hA
            simp only [puts, List.foldl]
            go_simp
            first | exact ⟨rfl, hg, Below.refl _ _⟩ | exact ⟨rfl, hg⟩ | exact ⟨rfl, Below.refl _ _⟩ | exact ⟨rfl, rfl, hg, Below.refl _ _⟩ | exact ⟨hg, Below.refl _ _⟩
          case js14 =>
            intro u wx hg hC
            have hJ4 : u 4 = .bool true := hC.at 4 (by kernel_rfl)
            clear hC
            generalize hA : puts [(0, 58), (1, 59), (2, 60), (3, 61), (4, 62), (5, 63), (6, 64), (7, 65), (8, 66), (9, 67), (10, 68), (11, 69), (12, 70), (13, 71), (14, 72), (15, 73)] _ u = A
            have hgv : A.tmps.getD 62 undef = .bool true := by rw [← hA]; exact (puts_get u 4 62 _ _ (by decide) (by decide) (by kernel_rfl)).trans hJ4
            have hgs : 62 < A.tmps.size := by rw [← hA]; exact puts_room u (by kernel_rfl)
            refine wpOp_skip rfl 4 62 false rfl rfl hgs hgv ?_
            subst hA
            simp only [puts, List.foldl]
            go_simp
            first | exact ⟨rfl, hg, Below.refl _ _⟩ | exact ⟨rfl, hg⟩ | exact ⟨rfl, Below.refl _ _⟩ | exact ⟨rfl, rfl, hg, Below.refl _ _⟩ | exact ⟨hg, Below.refl _ _⟩
          case js15 =>
            intro u wx hg hC
            have hJ4 : u 4 = (.bool true) := hC.at 4 (by kernel_rfl)
            have hJ14 : u 14 = undef := hC.at 14 (by kernel_rfl)
            clear hC
            refine wpOp_step rfl (fun K hK => ?_)
            simp only [puts, List.foldl]
            go_simp
            exact hK _ _ ⟨rfl, rfl, hg, Below.refl _ _⟩
        case finj =>
          intro u w9 hb9 hφ
          have e73 : u 15 = .bool true := hφ (15, 73) (by decide)
          clear hφ
          simp only [puts, List.foldl]
          go_simp
          have B9 := Lib.hid (B8.out.next hb9)
          have HO := Lib.hid (HBAD.out (Or.inl rfl))
          clear hb9 HBAD
          go_wp2
          go_ret3
          exact ⟨by rw [HO.out]; rfl, B9.out⟩

end Go.Proofs.YtnbjaijhdjneoaaGreat

namespace Go.Proofs.YtnbjaijhdjneoaaGreat
open Go.RowKit
set_option maxRecDepth 100000

theorem same_ints (a c : Option Addr) (ca cc : Nat) (l m : List Int) (w : World) (hl : l.length ≤ 1152921504606846976) (hm : m.length ≤ 1152921504606846976) (hr : Lies w w.heap.size a (ints l)) (hq : Lies w w.heap.size c (ints m)) :
    Calls Tryz.prog 11 #[.slice a l.length ca, .slice c m.length cc] w fun e w' => e = .returned (.bool (decide (l = m))) ∧ Below w.heap.size w w' := by
  by_cases hlen : l.length = m.length
  · have hb : ((l.length : Int) != (m.length : Int)) = false := by simp; omega
    have HL := Lib.hid hlen
    clear hlen
    go_enter Tryz.func11, Tryz.ntmps11
    go_wp2
    go_loopw [5] (fun i wr => ∃ k : Nat, k ≤ l.length ∧ i = .int .i64 k ∧ l.take k = m.take k ∧ Below w.heap.size w wr) (fun i _ => l.length - (intOf i).toNat)
    case atStart => exact ⟨0, Nat.zero_le _, rfl, rfl, Below.refl _ _⟩
    case round =>
      obtain ⟨k, hk, rfl, htk, hbw⟩ := hrel
      have HTK := Lib.hid htk
      clear htk
      by_cases hlt : k < l.length
      · have hlm : k < m.length := by have := HL.out; omega
        obtain ⟨b, off, rfl, hbb, hc⟩ := hr (by rw [ints_length]; omega)
        obtain ⟨d, of2, rfl, hdd, hd⟩ := hq (by rw [ints_length]; omega)
        have hcell : wr.cell? ⟨b, off + k, none⟩ = some (.int .i64 l[k]) := (hbw.cell (p := ⟨b, off + k, none⟩) hbb).trans <| hc k _ (ints_get l k hlt)
        have hcel2 : wr.cell? ⟨d, of2 + k, none⟩ = some (.int .i64 m[k]) := (hbw.cell (p := ⟨d, of2 + k, none⟩) hdd).trans <| hd k _ (ints_get m k hlm)
        clear hc hd hr hq
        have HT := Lib.hid (take_snoc l k hlt)
        have HT2 := Lib.hid (take_snoc m k hlm)
        by_cases he : l[k] = m[k]
        · have hne : (l[k] != m[k]) = false := by simp [he]
          have HE := Lib.hid he
          clear he
          go_wp2
          go_quiet (fail)
          go_wp2
          go_roundw
          case rel => exact ⟨k + 1, by omega, by go_num, by rw [HT.out, HT2.out, HTK.out, HE.out], hbw.drewN nq⟩
          case measure => simp [intOf]; omega
        · have hne : (l[k] != m[k]) = true := by simpa using he
          have HE : Hid (l ≠ m) := Lib.hid fun h => by subst h; exact he rfl
          clear he
          go_wp2
          go_quiet (fail)
          go_wp2
          go_ret
          exact ⟨ret_bool (decide_eq_false HE.out).symm, hbw.drewN nq⟩
      · have HE : Hid (l = m) := Lib.hid <| by
          have h1 := HTK.out
          rwa [List.take_of_length_le (by omega), List.take_of_length_le (by have := HL.out; omega)] at h1
        go_wp2
        go_ret
        exact ⟨ret_bool (decide_eq_true HE.out).symm, hbw⟩
  · have hb : ((l.length : Int) != (m.length : Int)) = true := by rw [bne_iff_ne]; omega
    have HE : Hid (l ≠ m) := Lib.hid fun h => hlen (by rw [h])
    clear hlen
    go_enter Tryz.func11, Tryz.ntmps11
    go_wp2
    go_ret
    exact ⟨ret_bool (decide_eq_false HE.out).symm, Below.refl _ _⟩

end Go.Proofs.YtnbjaijhdjneoaaGreat

namespace Go.Proofs.YtnbjaijhdjneoaaGreat
open Go.RowKit GfMath PolyMath
set_option linter.unusedVariables false

end Go.Proofs.YtnbjaijhdjneoaaGreat

namespace Go.Proofs.YtnbjaijhdjneoaaGreat
open Go.RowKit GfMath PolyMath
set_option linter.unusedVariables false

end Go.Proofs.YtnbjaijhdjneoaaGreat

namespace Go.Proofs.YtnbjaijhdjneoaaGreat
open Go.RowKit GfMath PolyMath RsMath
set_option linter.unusedVariables false

theorem by_12 : By [1, 2] := by_two (by omega) (by omega)

end Go.Proofs.YtnbjaijhdjneoaaGreat

namespace Go.Proofs.YtnbjaijhdjneoaaGreat
open Go.RowKit GfMath PolyMath RsMath
set_option linter.unusedVariables false

theorem ev_lo {l : List Nat} (hl : By l) {x : Nat} (hx : x < 256) : E (sq (lo l)) (lo l).length x = ev l x := by
  rw [← ev_beh hx hl, ev_E hx hl.beh, lo_length]
  exact E_congr fun k _ => by rw [sq_lo, cf_beh]
theorem gm_ex_two (i : Nat) : gm (ex i) 2 = ex (i + 1) := ex_add i 1
theorem vals_snoc (l : List Nat) (p : Nat) : vals l (p + 1) = vals l p ++ [ev l (ex p)] := tab_snoc p _

set_option maxHeartbeats 1000000 in
theorem rvalues_any (a : Option Addr) (cap : Nat) (l : List Nat) (p : Nat) (w : World) (hb : By l) (hl : l.length ≤ 1000) (hp : p ≤ 1000) (hr : Lies w w.heap.size a (u8s l)) :
    Calls Tryz.prog 105 #[.slice a l.length cap, .int .i64 (p : Int)] w fun e w' => (∃ v, e = .returned v ∧ IReads w' v (vals l p)) ∧ Below w.heap.size w w' := by
  have HO := Lib.hid (of_any a cap l w hb (by omega) hr)
  have HB := Lib.hid hb
  clear hr hb
  go_enter Tryz.func105, Tryz.ntmps105
  go_wp2_with (go_at_call 126; (with_reducible refine HO.out.mono ?_); rintro e w1 ⟨⟨v1, rfl, a1, c1, rfl, hc1, hl1⟩, b1⟩; have L1 := Lib.hid hl1; have B1 := Lib.hid b1; clear hl1 b1)
  go_loopw [6, 7, 8] (fun v x i wr => ∃ j : Nat, j ≤ p ∧ i = .int .i64 j ∧ x = .int .i64 ((ex j : Nat) : Int) ∧ wr.ownsRow w1.heap.size 3 1 v j (nats (vals l j)) ∧ Below w1.heap.size w1 wr) (fun _ _ i _ => p - (intOf i).toNat)
  case atStart => exact ⟨0, Nat.zero_le _, rfl, rfl, own_zero w1 _, alloc_below _ _⟩
  case round =>
    obtain ⟨j, hj, rfl, rfl, hown, hbw⟩ := hrel
    have hlw := L1.out.step hbw
    obtain ⟨av, cv, rfl, hcv, hlv⟩ := own_form2 hown
    clear hcv hlv
    by_cases hlt : j < p
    · have hj1 : (j : Int) < p := by omega
      have hx8 := ex_lt j
      have hst := vals_snoc l j
      have HE0 := reval_any a1 c1 (lo l) (ex j) wr (lo_by HB.out) hx8 (by have := lo_le l; omega) hlw
      rw [ev_lo HB.out hx8] at HE0
      have HM0 := rmul_any (ex j) 2
      rw [gm_ex_two] at HM0
      have hy8 := ev_lt HB.out hx8
      obtain ⟨x, hx⟩ : ∃ x, ex j = x := ⟨_, rfl⟩
      have HX := Lib.hid hx
      obtain ⟨y, hy⟩ : ∃ y, ev l (ex j) = y := ⟨_, rfl⟩
      rw [hy] at HE0 hst hy8
      rw [hx] at HE0 HM0 hx8
      have HE := Lib.hid HE0
      have HM : Hid (∀ u : World, Calls Tryz.prog 108 #[.int .i64 (x : Int), .int .i64 2] u fun e w' => e = .returned (.int .i64 (ex (j + 1) : Int)) ∧ u = w') := Lib.hid fun u => HM0 u hx8
      have HST := Lib.hid hst
      have HLW := Lib.hid hlw
      have HOWN := Lib.hid hown
      have HBW := Lib.hid hbw
      have HOW2 := Lib.hid (HOWN.out.alloc (.cells #[.int .i64 (y : Int)] 3))
      have HL2 : Hid (Lies (wr.alloc (.cells #[.int .i64 (y : Int)] 3)) (wr.alloc (.cells #[.int .i64 (y : Int)] 3)).heap.size (some ⟨wr.heap.size, 0, none⟩) [.int .i64 (y : Int)]) := Lib.hid (Lies.new [_] _ _)
      have HBW2 := Lib.hid (HBW.out.alloc HBW.out.size (.cells #[.int .i64 (y : Int)] 3))
      have HO1 : Hid ((Value.int .i64 (y : Int)).oneCell' = true) := Lib.hid rfl
      have HPK : Big (j + 1 ≤ 1099511627776) := ⟨by omega⟩
      have HOL : Hid (∀ q, (Value.slice av j cv).ownBlock = some q → w1.heap.size ≤ q) := Lib.hid fun q hq => (HOWN.out.lt q hq).1
      have HOL2 : Hid (∀ q, (Value.slice av j cv).ownBlock = some q → q < wr.heap.size) := Lib.hid fun q hq => (HOWN.out.lt q hq).2
      have HZ2 := Lib.hid HBW2.out.size
      rw [hx]
      clear hown hbw hst hx hy HE0 HM0 hlw hx8
      go_wp2_with (first
        | (go_at_call 127; (with_reducible refine HE.out.mono ?_); rintro e w2 ⟨rfl, rfl⟩)
        | (go_at_call 108; (with_reducible refine (HM.out _).mono ?_); rintro e w2 ⟨rfl, rfl⟩)
        | ((with_reducible refine wpAppend1K HOW2.out Tryz.underlying38 one_int HL2.out HO1.out HPK HZ2.out ?_ ?_); rfl; intro v1 w2 g1 g2 g3; have HV1 := Lib.hid g1; have HG1 := Lib.hid g2; clear g1 g2 g3))
      go_roundw
      case rel => exact ⟨j + 1, by omega, by go_num, rfl, by rw [HST.out, nats_snoc]; exact HV1.out, HBW2.out.grown HG1.out HBW2.out.size HOL.out⟩
      case measure => first | (simp [intOf]; done) | (simp [intOf]; omega)
    · have ej : j = p := by omega
      subst ej
      have HF2 : Hid (IReads wr (.slice av j cv) (vals l j)) := Lib.hid (by
        obtain ⟨a', c', e, h1, h2⟩ := own_form2 hown
        cases e
        exact ⟨av, cv, by rw [vals_length], by rw [vals_length]; exact h1, h2⟩)
      have HBW := Lib.hid (B1.out.next hbw)
      clear hown hbw hlw
      go_wp2
      go_ret
      exact ⟨⟨_, rfl, HF2.out⟩, HBW.out⟩

end Go.Proofs.YtnbjaijhdjneoaaGreat

namespace Go.Proofs.YtnbjaijhdjneoaaGreat
open Go.RowKit GfMath PolyMath RsMath
set_option linter.unusedVariables false

end Go.Proofs.YtnbjaijhdjneoaaGreat

namespace RsMath
open GfMath PolyMath
set_option linter.unusedVariables false

def dif (A B : List Nat) : Nat → Nat
  | 0 => 0
  | i + 1 => dif A B i + if sq A i = sq B i then 0 else 1
theorem dif_le (A B : List Nat) : ∀ i, dif A B i ≤ i
  | 0 => Nat.le_refl _
  | i + 1 => by have := dif_le A B i; rw [dif]; split <;> omega
theorem dif_filter (A B : List Nat) : ∀ i, dif A B i = ((List.range i).filter fun j => (sq A j ^^^ sq B j) ≠ 0).length
  | 0 => rfl
  | i + 1 => by
    rw [dif, dif_filter A B i, List.range_succ, List.filter_append, List.length_append]
    congr 1
    by_cases h : sq A i = sq B i
    · rw [if_pos h, List.filter_cons, if_neg (by simp [h])]
      rfl
    · rw [if_neg h, List.filter_cons, if_pos (by simpa using xor_ne h)]
      rfl
theorem dif_supp (A B : List Nat) (h : A.length = B.length) : dif A B A.length = (supp (xl A B)).length := by
  rw [dif_filter, supp, xl_length]
  congr 1
  refine List.filter_congr fun j hj => ?_
  rw [xl, sq_tab, if_pos (List.mem_range.1 hj)]
theorem sq_set (D : List Nat) (j v q : Nat) (hj : j < D.length) : sq (D.set j v) q = if q = j then v else sq D q := by
  by_cases e : q = j
  · subst e
    rw [if_pos rfl, sq_get _ _ (by simpa using hj)]
    simp
  · rw [if_neg e]
    by_cases hq : q < D.length
    · rw [sq_get _ _ (by simpa using hq), sq_get _ _ hq, List.getElem_set_ne (by omega)]
    · rw [sq_out _ _ (by simp; omega), sq_out _ _ (by omega)]
theorem dif_set_le (D B : List Nat) (j v : Nat) (hj : j < D.length) : ∀ i, i ≤ j → dif (D.set j v) B i = dif D B i
  | 0, _ => rfl
  | i + 1, h => by rw [dif, dif, dif_set_le D B j v hj i (by omega), sq_set D j v i hj, if_neg (show ¬ i = j by omega)]
theorem far_dif {a b : List Nat} {p : Nat} (ha : By a) (hb : By b) (hl : a.length = b.length) (hn : a.length ≤ 255) (hs : dif a b a.length ≤ p) (h0 : allz (vals a p) = true) (h1 : allz (vals b p) = true) : a = b :=
  far_two ha hb hl hn (by rw [← dif_supp a b hl]; exact hs) (allz_zero.1 h0) (allz_zero.1 h1)
end RsMath

namespace Go.Proofs.YtnbjaijhdjneoaaGreat
open Go.RowKit GfMath PolyMath RsMath
set_option linter.unusedVariables false

end Go.Proofs.YtnbjaijhdjneoaaGreat

namespace Go.Proofs.YtnbjaijhdjneoaaGreat
open Go.RowKit GfMath PolyMath RsMath
set_option linter.unusedVariables false

end Go.Proofs.YtnbjaijhdjneoaaGreat

namespace Go.Proofs.YtnbjaijhdjneoaaGreat
open Go.RowKit GfMath PolyMath RsMath SolMath
set_option linter.unusedVariables false
set_option maxRecDepth 100000

theorem nats_ints (l : List Nat) : nats l = ints (l.map fun n : Nat => (n : Int)) := by simp [nats, ints]
theorem map_cast_inj {l m : List Nat} (h : l.map (fun n : Nat => (n : Int)) = m.map fun n : Nat => (n : Int)) : l = m := by
  induction l generalizing m with
  | nil => cases m with
    | nil => rfl
    | cons b m => simp at h
  | cons a l ih => cases m with
    | nil => simp at h
    | cons b m =>
      simp only [List.map_cons, List.cons.injEq] at h
      obtain ⟨h1, h2⟩ := h
      rw [ih h2, Int.ofNat.inj h1]
theorem same_nats (v u : Value) (l m : List Nat) (w : World) (hl : l.length ≤ 100000) (hm : m.length ≤ 100000) (h1 : IReads w v l) (h2 : IReads w u m) :
    Calls Tryz.prog 11 #[v, u] w fun e w' => e = .returned (.bool (decide (l = m))) ∧ Below w.heap.size w w' := by
  obtain ⟨a, ca, rfl, _, h1⟩ := h1
  obtain ⟨c, cc, rfl, _, h2⟩ := h2
  rw [nats_ints] at h1 h2
  have := same_ints a c ca cc (l.map fun n : Nat => (n : Int)) (m.map fun n : Nat => (n : Int)) w (by rw [List.length_map]; omega) (by rw [List.length_map]; omega) h1 h2
  rw [List.length_map, List.length_map] at this
  have e : decide (l.map (fun n : Nat => (n : Int)) = m.map fun n : Nat => (n : Int)) = decide (l = m) := by
    rw [Bool.eq_iff_iff, decide_eq_true_iff, decide_eq_true_iff]
    exact ⟨map_cast_inj, fun h => by rw [h]⟩
  rwa [e] at this

/-- Three answers, whatever they are. -/
theorem mend_of (x y z : Value) (w : World) (Q : Value → Value → Value → World → Prop)
    (h : Calls Tryz.prog 78 #[x, y, z, .func (.func 79) #[] #[]] w fun e w' => ∃ p q r, e = .returned (.tuple #[p, q, r]) ∧ Q p q r w') :
    Calls Tryz.prog 52 #[x, y, z] w fun e w' => ∃ p q r, e = .returned (.tuple #[p, q, r]) ∧ Q p q r w' := by
  have HM := Lib.hid h
  clear h
  go_enter Tryz.func52, Tryz.ntmps52
  go_wp2_with (go_at_call 78; (with_reducible refine HM.out.mono ?_); rintro e w1 ⟨p, q, r, rfl, hq⟩; have HQ := Lib.hid hq; clear hq)
  go_ret3
  exact ⟨_, _, _, rfl, HQ.out⟩
theorem mdd_three {B : Nat} {d : Md} {n : Nat} {e : Ending} {w : World} (h : Mdd B d n e w) : ∃ p q r, e = .returned (.tuple #[p, q, r]) := by
  cases d with
  | arg => exact ⟨_, _, _, h⟩
  | bad => exact ⟨_, _, _, h⟩
  | ok m l => obtain ⟨_, _, _, h, _⟩ := h; exact ⟨_, _, _, h⟩
theorem mend_any (c b k p : Nat) (wb wo cw : Nat) (W : List Nat) (ea : Option Addr) (ecap : Nat) (er : List Int) (w : World) (h : Cod w c b k p) (hWl : W.length = k + p) (hWc : W.length ≤ cw) (hW8 : By W) (hW : Lies w w.heap.size (some ⟨wb, wo, none⟩) (u8s W)) (hel : er.length ≤ 1000) (her : Lies w w.heap.size ea (ints er)) :
    Calls Tryz.prog 52 #[.pointer (some ⟨c, 0, none⟩), .slice (some ⟨wb, wo, none⟩) (k + p) cw, .slice ea er.length ecap] w fun e w' =>
      Mdd w.heap.size (mendF masseyF (k + p) p W er) (k + p) e w' ∧ Below w.heap.size w w' :=
  (mend_of _ _ _ w (fun x y z w' => Mdd w.heap.size (mendF masseyF (k + p) p W er) (k + p) (.returned (.tuple #[x, y, z])) w' ∧ Below w.heap.size w w') ((mended_massey c b k p wb wo cw W ea ecap er w h hWl hWc hW8 hW hel her).mono fun e w' ⟨h1, h2⟩ => by
    obtain ⟨x, y, z, rfl⟩ := mdd_three h1
    exact ⟨x, y, z, rfl, h1, h2⟩)).mono fun e w' ⟨x, y, z, h1, h2, h3⟩ => ⟨by rw [h1]; exact h2, h3⟩

end Go.Proofs.YtnbjaijhdjneoaaGreat

namespace SolMath
open GfMath PolyMath RsMath
set_option linter.unusedVariables false

theorem gAt_set (G : List Bool) (i j : Nat) (hi : i < G.length) : gAt (G.set i true) j = (gAt G j || decide (i = j)) := by
  unfold gAt
  rw [List.getD_eq_getElem?_getD, List.getD_eq_getElem?_getD, List.getElem?_set]
  by_cases e : i = j
  · subst e; simp [hi]
  · simp [e]
theorem gAt_setG (n : Nat) : ∀ (er : List Int) (G : List Bool) (j : Nat), G.length = n → inB n er = true → gAt (setG G er) j = (gAt G j || er.any fun i => decide (i.toNat = j))
  | [], G, j, _, _ => by simp [setG]
  | a :: l, G, j, hG, hb => by
    have hb2 : inB n l = true := by
      unfold inB at hb ⊢
      rw [List.all_cons, Bool.and_eq_true] at hb
      exact hb.2
    have ha : 0 ≤ a ∧ a < (n : Int) := by
      unfold inB at hb
      rw [List.all_cons, Bool.and_eq_true, Bool.and_eq_true, decide_eq_true_iff, decide_eq_true_iff] at hb
      exact hb.1
    show gAt (setG (G.set a.toNat true) l) j = _
    rw [gAt_setG n l _ j (by rw [List.length_set]; exact hG) hb2, gAt_set G _ j (by omega), List.any_cons, Bool.or_assoc]
/-- The same of the places noted. -/
def mendG (seek : Nat → List Nat → Nat → List Nat) (n p : Nat) (W : List Nat) (G : List Bool) : Md :=
  let V := valsR W p
  let E := erF n G n
  let R := seek p (toldF p V E) (cnt G)
  let m := layW n p W V R E
  let l := layP n p V R E
  if allz (vals m p) = true ∧ cnt G ≤ p ∧ othF G l ≤ (p - cnt G) / 2 then .ok m l else .bad
theorem mendF_eq (seek : Nat → List Nat → Nat → List Nat) (n p : Nat) (W : List Nat) (er : List Int) : mendF seek n p W er = if inB n er = false then .arg else mendG seek n p W (markE n er) := rfl
theorem mendF_ok {seek : Nat → List Nat → Nat → List Nat} {n p : Nat} {W m l : List Nat} {er : List Int} (h : mendF seek n p W er = .ok m l) : inB n er = true ∧ allz (vals m p) = true ∧ cnt (markE n er) ≤ p ∧ m.length = W.length := by
  unfold mendF at h
  cases hb : inB n er with
  | false => rw [hb] at h; simp at h
  | true =>
    rw [hb] at h
    simp only [Bool.true_eq_false, if_false] at h
    split at h
    · rename_i hc
      injection h with h1 h2
      subst h1
      exact ⟨rfl, hc.1, hc.2.1, by unfold layW wordF; exact tab_length _ _⟩
    · cases h
theorem mendF_by {n p : Nat} {W m l : List Nat} {er : List Int} (hW : By W) (h : mendF masseyF n p W er = .ok m l) : By m := by
  unfold mendF at h
  cases hb : inB n er with
  | false => rw [hb] at h; simp at h
  | true =>
    rw [hb] at h
    simp only [Bool.true_eq_false, if_false] at h
    split at h
    · injection h with h1 h2
      subst h1
      refine tab_by _ fun i _ => xor_lt (hW.sq _) ?_
      split
      · refine dAt_lt n (lowl_by (pms_two_by ?_ (pms_two_by ?_ (erF_all _ _ _).1)) p) i
        · exact fun x hx => tab_by _ (fun i _ => ev_lt hW (ex_lt i)) x (List.mem_reverse.1 hx)
        · exact (bm_ok (lowl_by (pms_two_by (fun x hx => tab_by _ (fun i _ => ev_lt hW (ex_lt i)) x (List.mem_reverse.1 hx)) (erF_all _ _ _).1) p) _ _).r8
      · omega
    · cases h

end SolMath

namespace SolMath
open GfMath PolyMath RsMath
set_option linter.unusedVariables false

theorem mrk_pos (n i : Nat) : mrk n i ≠ 0 := ex_pos _
theorem pw_zero' (a : Nat) : pw a 0 = 1 := rfl
theorem pw_one_iv {X : Nat} (hX : X < 256) (h0 : X ≠ 0) : ∀ j, gm (pw X j) (pw (iv X) j) = 1
  | 0 => by rw [pw_zero', pw_zero']; exact gm_one (by omega)
  | j + 1 => by
    have hx := iv_lt X
    have h1 := pw_lt hX j
    have h2 := pw_lt hx j
    rw [pw, pw, gm_assoc h1 hX (gm_lt h2 hx), ← gm_assoc hX h2 hx, gm_comm hX h2, gm_assoc h2 hX hx, gm_iv hX h0, gm_one h2, pw_one_iv hX h0 j]
theorem pw_sub {X : Nat} (hX : X < 256) (h0 : X ≠ 0) (k j : Nat) (h : j ≤ k) : pw X (k - j) = gm (pw X k) (pw (iv X) j) := by
  have e : pw X k = gm (pw X (k - j)) (pw X j) := by rw [← pw_add hX, show k - j + j = k by omega]
  rw [e, gm_assoc (pw_lt hX _) (pw_lt hX _) (pw_lt (iv_lt X) _), pw_one_iv hX h0, gm_one (pw_lt hX _)]
/-- A polynomial's value at the inverse, by powers that fall. -/
theorem ev_fall {X : Nat} (hX : X < 256) (h0 : X ≠ 0) {R : List Nat} (hR : By R) (k : Nat) (hk : R.length ≤ k + 1) : xs (fun l => gm (cf R l) (pw X (k - l))) R.length = gm (pw X k) (ev R (iv X)) := by
  rw [ev_E (iv_lt X) hR, E, xs_gm]
  refine xs_congr _ fun l hl => ?_
  rw [pw_sub hX h0 k l (by omega), ← gm_assoc (hR.cf l) (pw_lt hX k) (pw_lt (iv_lt X) l), gm_comm (hR.cf l) (pw_lt hX k), gm_assoc (pw_lt hX k) (hR.cf l) (pw_lt (iv_lt X) l)]

/-- How many of the first n are not 0. -/
def ocnt (y : Nat → Nat) (n : Nat) : Nat := ((List.range n).filter fun j => decide (y j ≠ 0)).length
theorem filter_len_le {α : Type} (P Q : α → Bool) : ∀ (l : List α), (∀ x ∈ l, P x = true → Q x = true) → (l.filter P).length ≤ (l.filter Q).length
  | [], _ => Nat.le_refl _
  | a :: l, h => by
    have ih := filter_len_le P Q l fun x hx => h x (List.mem_cons_of_mem _ hx)
    rw [List.filter_cons, List.filter_cons]
    have ha := h a (List.mem_cons_self ..)
    cases hp : P a with
    | false => cases hq : Q a <;> simp <;> omega
    | true => rw [ha hp]; simp; omega
theorem ocnt_le {y z : Nat → Nat} {n : Nat} (h : ∀ j, j < n → y j ≠ 0 → z j ≠ 0) : ocnt y n ≤ ocnt z n :=
  filter_len_le _ _ _ fun x hx hp => by
    rw [decide_eq_true_iff] at hp ⊢
    exact h x (List.mem_range.1 hx) hp
/-- A sum of powers with at most t places that is 0 for t powers one behind the other has no places. -/
theorem vand {n t a : Nat} {y : Nat → Nat} (hn : n ≤ 255) (hy : ∀ j, y j < 256) (ht : ocnt y n ≤ t) (h : ∀ i, i < t → xs (fun j => gm (y j) (pw (mrk n j) (a + i))) n = 0) : ∀ j, j < n → y j = 0 := by
  obtain ⟨l, hl⟩ : ∃ l, l = tab n fun j => gm (y j) (pw (mrk n j) a) := ⟨_, rfl⟩
  have hm := fun j => mrk_lt n j
  have hl8 : By l := by rw [hl]; exact tab_by _ fun j _ => gm_lt (hy j) (pw_lt (hm j) a)
  have hll : l.length = n := by rw [hl]; exact tab_length _ _
  have hsq : ∀ j, j < n → sq l j = gm (y j) (pw (mrk n j) a) := fun j hj => by rw [hl, sq_tab, if_pos hj]
  have hpn : ∀ j, pw (mrk n j) a ≠ 0 := fun j => by rw [mrk, pw_ex]; exact ex_pos _
  have hs : supp l = [] := by
    refine far_zero (p := t) hl8 (by omega) ?_ fun i hi => ?_
    · refine Nat.le_trans ?_ ht
      unfold supp ocnt
      rw [hll]
      refine filter_len_le _ _ _ fun j hj hp => ?_
      rw [decide_eq_true_iff] at hp ⊢
      rw [hsq j (List.mem_range.1 hj)] at hp
      intro e
      rw [e, gm_zero_left] at hp
      exact hp rfl
    · rw [ev_places hl8, hll, ← h i hi]
      refine xs_congr _ fun j hj => ?_
      rw [hsq j hj, gm_assoc (hy j) (pw_lt (hm j) a) (ex_lt _), pw_add (hm j)]
      congr 2
      rw [mrk, pw_ex, Nat.mul_comm]
  intro j hj
  have h0 := supp_nil hs j
  rw [hsq j hj] at h0
  rcases gm_eq_zero (hy j) (pw_lt (hm j) a) h0 with h1 | h1
  · exact h1
  · exact absurd h1 (hpn j)

theorem cf_pms_two {a b : List Nat} (ha : By a) (hb : By b) (k : Nat) : cf (pms [a, b]) k = cv (cf a) (cf b) k := by
  rw [pms_two, pm_cf]
  have e1 : cf (pm [1] (beh a)) = cf a := funext fun i => by
    rw [pm_cf]
    have h1 : ∀ j, 1 ≤ j → cf [1] j = 0 := fun j hj => cf_out _ _ (by simpa using hj)
    unfold cv
    rw [xs_ext (fun j => gm (cf [1] j) (cf (beh a) (i - j))) (show 1 ≤ i + 1 by omega) fun j h _ => by rw [h1 j h, gm_zero_left]]
    show 0 ^^^ gm (cf [1] 0) (cf (beh a) (i - 0)) = _
    rw [show cf [1] 0 = 1 from rfl, gm_one_left (ha.beh.cf _), Nat.zero_xor, Nat.sub_zero, cf_beh]
  have e2 : cf (beh b) = cf b := funext fun i => cf_beh b i
  rw [e1, e2]
theorem cf_lowl (p : Nat) (l : List Nat) (i : Nat) : cf (lowl p l) i = if i < p then cf l i else 0 := by
  unfold lowl
  by_cases h : i < (l.drop (l.length - p)).length
  · rw [cf_in _ _ h]
    rw [List.length_drop] at h
    rw [if_pos (by omega), cf_in _ _ (by omega), sq_get _ _ (by rw [List.length_drop]; omega), List.getElem_drop, ← sq_get]
    congr 1
    rw [List.length_drop]
    omega
  · rw [cf_out _ _ (by omega)]
    rw [List.length_drop] at h
    split
    · rw [cf_out _ _ (by omega)]
    · rfl
theorem cf_valsR {W : List Nat} {p i : Nat} (hi : i < p) : cf (valsR W p) i = ev W (ex i) := by
  have hl : (valsR W p).length = p := by rw [valsR, List.length_reverse]; exact vals_length _ _
  rw [cf_in _ _ (by rw [hl]; exact hi), sq_get _ _ (by rw [hl]; omega)]
  simp only [valsR]
  rw [List.getElem_reverse, ← sq_get, vals_length]
  rw [show p - 1 - ((vals W p).reverse.length - 1 - i) = i by rw [List.length_reverse, vals_length]; omega, vals, sq_tab, if_pos hi]

/-- A word that differs from a right one. -/
structure Dec (n p : Nat) (W D : List Nat) : Prop where
  n255 : n ≤ 255
  W8 : By W
  Wl : W.length = n
  D8 : By D
  Dl : D.length = n
  D0 : ∀ i, i < p → ev D (ex i) = 0
def er (W D : List Nat) (j : Nat) : Nat := sq W j ^^^ sq D j
section
variable {n p : Nat} {W D : List Nat}
theorem er_lt (h : Dec n p W D) (j : Nat) : er W D j < 256 := xor_lt (h.W8.sq j) (h.D8.sq j)
theorem val_sum (h : Dec n p W D) {i : Nat} (hi : i < p) : ev W (ex i) = xs (fun j => gm (er W D j) (pw (mrk n j) i)) n := by
  have h1 := ev_xl h.W8 h.D8 (by rw [h.Wl, h.Dl]) i
  rw [h.D0 i hi, Nat.xor_zero, ev_places (xl_by h.W8 h.D8), xl_length, h.Wl] at h1
  rw [← h1]
  refine xs_congr _ fun j hj => ?_
  rw [xl, sq_tab, if_pos (by rw [h.Wl]; exact hj), mrk, pw_ex, Nat.mul_comm]
  rfl
/-- What is told of a place: by how much it is wrong, times what the erased places make of it. -/
def cc (W D E : List Nat) (n q j : Nat) : Nat := gm (gm (er W D j) (pw (mrk n j) q)) (ev E (iv (mrk n j)))
theorem cc_lt (h : Dec n p W D) {E : List Nat} (hE : By E) (q j : Nat) : cc W D E n q j < 256 := gm_lt (gm_lt (er_lt h j) (pw_lt (mrk_lt n j) q)) (ev_lt hE (iv_lt _))
/-- The sum over a polynomial's powers of what the places tell. -/
theorem fall_sum {y : Nat → Nat} (hy : ∀ j, y j < 256) {R : List Nat} (hR : By R) (k : Nat) (hk : R.length ≤ k + 1) :
    xs (fun l => gm (cf R l) (xs (fun j => gm (y j) (pw (mrk n j) (k - l))) n)) R.length = xs (fun j => gm (gm (y j) (pw (mrk n j) k)) (ev R (iv (mrk n j)))) n := by
  rw [show (fun l => gm (cf R l) (xs (fun j => gm (y j) (pw (mrk n j) (k - l))) n)) = fun l => xs (fun j => gm (y j) (gm (cf R l) (pw (mrk n j) (k - l)))) n from funext fun l => by
    rw [xs_gm]
    refine xs_congr _ fun j _ => ?_
    rw [← gm_assoc (hR.cf l) (hy j) (pw_lt (mrk_lt n j) _), gm_comm (hR.cf l) (hy j), gm_assoc (hy j) (hR.cf l) (pw_lt (mrk_lt n j) _)], xs_swap]
  refine xs_congr _ fun j _ => ?_
  rw [← xs_gm, ev_fall (mrk_lt n j) (mrk_pos n j) hR k hk, gm_assoc (hy j) (pw_lt (mrk_lt n j) k) (ev_lt hR (iv_lt _))]
theorem told_sum (h : Dec n p W D) {E : List Nat} (hE : By E) {q i : Nat} (hEl : E.length ≤ q + 1) (hq : q ≤ i) (hi : i < p) :
    cf (toldF p (valsR W p) E) i = xs (fun j => gm (cc W D E n q j) (pw (mrk n j) (i - q))) n := by
  have hV8 : By (valsR W p) := fun x hx => tab_by _ (fun i _ => ev_lt h.W8 (ex_lt i)) x (List.mem_reverse.1 hx)
  rw [toldF, cf_lowl, if_pos hi, cf_pms_two hV8 hE, cv_comm (fun k => hV8.cf k) (fun k => hE.cf k)]
  unfold cv
  rw [xs_ext (fun l => gm (cf E l) (cf (valsR W p) (i - l))) (show E.length ≤ i + 1 by omega) fun l hl _ => by rw [cf_out _ _ hl, gm_zero_left]]
  rw [xs_congr E.length (g := fun l => gm (cf E l) (xs (fun j => gm (er W D j) (pw (mrk n j) (i - l))) n)) fun l hl => by rw [cf_valsR (show i - l < p by omega), val_sum h (show i - l < p by omega)]]
  rw [fall_sum (er_lt h) hE i (by omega)]
  refine xs_congr _ fun j _ => ?_
  have e1 := er_lt h j
  have e2 := pw_lt (mrk_lt n j) q
  have e3 := pw_lt (mrk_lt n j) (i - q)
  have e4 := ev_lt hE (iv_lt (mrk n j))
  rw [cc, show pw (mrk n j) i = gm (pw (mrk n j) q) (pw (mrk n j) (i - q)) by rw [← pw_add (mrk_lt n j), show q + (i - q) = i by omega],
    ← gm_assoc e1 e2 e3, gm_assoc (gm_lt e1 e2) e3 e4, gm_comm e3 e4, ← gm_assoc (gm_lt e1 e2) e4 e3]
/-- By how much a rule misses, as long as it reaches back no farther than the first thing. -/
theorem miss_sum (h : Dec n p W D) {E : List Nat} (hE : By E) {q : Nat} (hEl : E.length ≤ q + 1) {R : List Nat} (hR : By R) {k : Nat} (hk : R.length ≤ k + 1) (hkp : q + k < p) :
    missF (toldF p (valsR W p) E) R q k = xs (fun j => gm (gm (cc W D E n q j) (pw (mrk n j) k)) (ev R (iv (mrk n j)))) n := by
  rw [← fall_sum (cc_lt h hE q) hR k hk]
  unfold missF
  refine xs_congr _ fun l hl => ?_
  congr 1
  rw [fcI, if_neg (by omega), show ((q : Int) + (k : Int) - (l : Int)).toNat = q + k - l by omega, told_sum h hE hEl (by omega) (by omega), show q + k - l - q = k - l by omega]
end

end SolMath

namespace SolMath
open GfMath PolyMath RsMath
set_option linter.unusedVariables false

theorem cf_pad (l : List Nat) : ∀ (s j : Nat), cf (l ++ List.replicate s 0) j = if j < s then 0 else cf l (j - s)
  | 0, j => by simp
  | s + 1, j => by
    rw [List.replicate_succ', ← List.append_assoc, cf_snoc]
    by_cases h : j = 0
    · subst h; simp
    · rw [if_neg h, cf_pad l s (j - 1)]
      by_cases h2 : j - 1 < s
      · rw [if_pos h2, if_pos (by omega)]
      · rw [if_neg h2, if_neg (by omega)]
        congr 1
        omega
theorem cf_shl' (l : List Nat) (s j : Nat) : cf (shl l s) j = if j < s then 0 else cf l (j - s) := by
  unfold shl
  split
  · rename_i h
    have e : ∀ i, cf l i = 0 := fun i => by rw [← cf_beh, List.eq_nil_of_length_eq_zero h]; exact cf_out _ _ (by simp)
    rw [cf_out _ _ (by simp), e]
    split <;> rfl
  · rw [cf_pad]
    split
    · rfl
    · exact cf_beh l _
theorem cf_scale {q : Nat} (hq : q < 256) {l : List Nat} (hl : By l) (j : Nat) : cf (pms [[q], l]) j = gm q (cf l j) := by
  rw [cf_pms_two (by_one hq) hl]
  unfold cv
  rw [xs_ext (fun i => gm (cf [q] i) (cf l (j - i))) (show 1 ≤ j + 1 by omega) fun i h _ => by rw [cf_out _ _ (by simpa using h), gm_zero_left]]
  show 0 ^^^ gm (cf [q] 0) (cf l (j - 0)) = _
  rw [Nat.zero_xor, Nat.sub_zero]
  rfl
theorem cf_addl_two (a b : List Nat) (k : Nat) : cf (addl [a, b]) k = cf a k ^^^ cf b k := by
  rw [addl_cf]
  simp [sumf]
theorem missF_ext (T X : List Nat) (q k M : Nat) (h : X.length ≤ M) : missF T X q k = xs (fun j => gm (cf X j) (fcI T ((q : Int) + (k : Int) - (j : Int)))) M := by
  unfold missF
  exact (xs_ext _ h fun j hj _ => by rw [cf_out _ _ hj, gm_zero_left]).symm
theorem next_miss {T R B : List Nat} (hT : By T) (hR : By R) (hB : By B) {c : Nat} (hc : c < 256) (s q k : Nat) (hs : s ≤ k) :
    missF T (addl [R, pms [[c], shl B s]]) q k = missF T R q k ^^^ gm c (missF T B q (k - s)) := by
  obtain ⟨M, hM⟩ : ∃ M, M = (addl [R, pms [[c], shl B s]]).length + R.length + B.length := ⟨_, rfl⟩
  rw [missF_ext T _ q k (s + M) (by omega), missF_ext T R q k (s + M) (by omega), missF_ext T B q (k - s) M (by omega)]
  rw [show (fun j : Nat => gm (cf (addl [R, pms [[c], shl B s]]) j) (fcI T ((q : Int) + (k : Int) - (j : Int)))) = fun j => gm (cf R j) (fcI T ((q : Int) + (k : Int) - (j : Int))) ^^^ gm (if j < s then 0 else gm c (cf B (j - s))) (fcI T ((q : Int) + (k : Int) - (j : Int))) from funext fun j => by
    rw [cf_addl_two, cf_scale hc (shl_by hB s), cf_shl', gm_add_left]
    split
    · rw [gm_zero_right]
    · rfl]
  rw [xs_xor]
  congr 1
  rw [xs_split, xs_zero (f := fun j => gm (if j < s then 0 else gm c (cf B (j - s))) (fcI T ((q : Int) + (k : Int) - (j : Int)))) s fun j hj => by rw [if_pos hj, gm_zero_left], Nat.zero_xor, xs_gm]
  refine xs_congr _ fun j _ => ?_
  rw [if_neg (by omega), show s + j - s = j by omega, gm_assoc hc (hB.cf j) (fcI_lt hT _)]
  congr 3
  omega

section
variable {n p : Nat} {W D : List Nat}
/-- A rule that misses the thing i, and no other one that it reaches, is long. -/
theorem disc (h : Dec n p W D) {E : List Nat} (hE : By E) {q t : Nat} (hEl : E.length ≤ q + 1) (ht : ocnt (cc W D E n q) n ≤ t) {R : List Nat} {L i : Nat} (hR : By R) (hRl : R.length ≤ L + 1) (hL : L ≤ i)
    (hgen : ∀ k, L ≤ k → k < i → missF (toldF p (valsR W p) E) R q k = 0) (hi : q + i < p) (hne : missF (toldF p (valsR W p) E) R q i ≠ 0) : i + 1 ≤ L + t := by
  refine Classical.byContradiction fun hc => hne ?_
  have hy : ∀ j, gm (cc W D E n q j) (ev R (iv (mrk n j))) < 256 := fun j => gm_lt (cc_lt h hE q j) (ev_lt hR (iv_lt _))
  have hsw : ∀ k, xs (fun j => gm (gm (cc W D E n q j) (pw (mrk n j) k)) (ev R (iv (mrk n j)))) n = xs (fun j => gm (gm (cc W D E n q j) (ev R (iv (mrk n j)))) (pw (mrk n j) k)) n := fun k => xs_congr _ fun j _ => by
    have e1 := cc_lt h hE q j
    have e2 := pw_lt (mrk_lt n j) k
    have e3 := ev_lt hR (iv_lt (mrk n j))
    rw [gm_assoc e1 e2 e3, gm_comm e2 e3, ← gm_assoc e1 e3 e2]
  have h0 := vand (n := n) (t := t) (a := L) (y := fun j => gm (cc W D E n q j) (ev R (iv (mrk n j)))) h.n255 hy
    (Nat.le_trans (ocnt_le fun j _ hj e => hj (by show gm _ _ = 0; rw [e, gm_zero_left])) ht) fun k hk => by
      rw [← hsw, ← miss_sum h hE hEl hR (by omega) (by omega)]
      exact hgen _ (by omega) (by omega)
  rw [miss_sum h hE hEl hR (by omega) hi, hsw]
  exact xs_zero _ fun j hj => by rw [h0 j hj, gm_zero_left]

structure BInv (T : List Nat) (q t i : Nat) (s : BM) : Prop where
  ok : BMok s i
  rl : s.rule.length ≤ s.size + 1
  r0 : cf s.rule 0 = 1
  l0 : cf s.last 0 = 1
  ll : s.last.length + s.since + s.size ≤ i + 2
  gen : ∀ k, s.size ≤ k → k < i → missF T s.rule q k = 0
  old : (s.since = i + 1 ∧ s.size = 0) ∨ (s.since ≤ i ∧ missF T s.last q (i - s.since) = s.miss ∧ ∀ k, k + s.since < i → i + 1 ≤ k + s.since + s.size → missF T s.last q k = 0)
  st : s.size ≤ t

theorem cf_pos {l : List Nat} (h : cf l 0 = 1) : 1 ≤ l.length := by
  refine Classical.byContradiction fun hc => ?_
  rw [cf_out _ _ (by omega)] at h
  cases h
theorem gm_div {d m : Nat} (hd : d < 256) (hm : m < 256) (h0 : m ≠ 0) : gm (gm d (iv m)) m = d := by
  rw [gm_assoc hd (iv_lt _) hm, iv_gm hm h0, gm_one hd]
theorem bm_inv_step (h : Dec n p W D) {E : List Nat} (hE : By E) {q t : Nat} (hEl : E.length ≤ q + 1) (ht : ocnt (cc W D E n q) n ≤ t) {i : Nat} (hi : q + i < p) {s : BM} (hI : BInv (toldF p (valsR W p) E) q t i s) :
    BInv (toldF p (valsR W p) E) q t (i + 1) (bmStep (toldF p (valsR W p) E) q i s) := by
  have hT : By (toldF p (valsR W p) E) := lowl_by (pms_two_by (fun x hx => tab_by _ (fun i _ => ev_lt h.W8 (ex_lt i)) x (List.mem_reverse.1 hx)) hE) p
  have hok := bmStep_ok hT q hI.ok
  obtain ⟨⟨r8, l8, m8, m0, rl', ll', s1, sz⟩, rl, r0, l0, ll, gen, old, st⟩ := hI
  by_cases hd : missF (toldF p (valsR W p) E) s.rule q i = 0
  · have e : bmStep (toldF p (valsR W p) E) q i s = { s with since := s.since + 1 } := if_pos hd
    rw [e] at hok ⊢
    refine ⟨hok, rl, r0, l0, by show s.last.length + (s.since + 1) + s.size ≤ _; omega, fun k h1 h2 => ?_, ?_, st⟩
    · by_cases e2 : k = i
      · rw [e2]; exact hd
      · exact gen k h1 (by omega)
    · rcases old with ⟨o1, o2⟩ | ⟨o1, o2, o3⟩
      · exact .inl ⟨by show s.since + 1 = _; omega, o2⟩
      · refine .inr ⟨by show s.since + 1 ≤ _; omega, ?_, fun k h1 h2 => o3 k ?_ ?_⟩
        · show missF _ s.last q (i + 1 - (s.since + 1)) = _
          rw [show i + 1 - (s.since + 1) = i - s.since by omega]; exact o2
        · have : k + (s.since + 1) < i + 1 := h1
          omega
        · have : i + 1 + 1 ≤ k + (s.since + 1) + s.size := h2
          omega
  · have hd8 : missF (toldF p (valsR W p) E) s.rule q i < 256 := missK_lt hT r8 q i _
    have hlong := disc h hE hEl ht r8 rl sz gen hi hd
    have hl1 := cf_pos l0
    have hq8 : gm (missF (toldF p (valsR W p) E) s.rule q i) (iv s.miss) < 256 := gm_lt hd8 (iv_lt _)
    -- the new rule
    have hn0 : cf (nextF s (missF (toldF p (valsR W p) E) s.rule q i)) 0 = 1 := by
      unfold nextF
      rw [cf_addl_two, cf_scale hq8 (shl_by l8 _), cf_shl', if_pos (by omega), gm_zero_right, Nat.xor_zero]
      exact r0
    have hnl : (nextF s (missF (toldF p (valsR W p) E) s.rule q i)).length ≤ max (s.size + 1) (i + 2 - s.size) := by
      have h3 := addl_two_le s.rule (pms [[gm (missF (toldF p (valsR W p) E) s.rule q i) (iv s.miss)], shl s.last s.since])
      have h4 := pms_two_le [gm (missF (toldF p (valsR W p) E) s.rule q i) (iv s.miss)] (shl s.last s.since)
      have h5 := shl_le s.last s.since
      simp only [List.length_cons, List.length_nil] at h4
      unfold nextF
      omega
    have hgn : ∀ k, s.size ≤ k → i + 1 - s.size ≤ k → k < i + 1 → missF (toldF p (valsR W p) E) (nextF s (missF (toldF p (valsR W p) E) s.rule q i)) q k = 0 := by
      intro k h1 h2 h3
      rcases old with ⟨o1, o2⟩ | ⟨o1, o2, o3⟩
      · omega
      · unfold nextF
        rw [next_miss hT r8 l8 hq8 s.since q k (by omega)]
        by_cases e : k = i
        · rw [e, o2, gm_div hd8 m8 m0, Nat.xor_self]
        · rw [gen k h1 (by omega), o3 (k - s.since) (by omega) (by omega), gm_zero_right]
          rfl
    by_cases hg : 2 * s.size ≤ i
    · have e : bmStep (toldF p (valsR W p) E) q i s = ⟨nextF s (missF (toldF p (valsR W p) E) s.rule q i), s.rule, missF (toldF p (valsR W p) E) s.rule q i, 1, i + 1 - s.size⟩ := by
        unfold bmStep
        rw [if_neg hd, if_pos hg]
      rw [e] at hok ⊢
      refine ⟨hok, by show (nextF s _).length ≤ i + 1 - s.size + 1; omega, hn0, r0, by show s.rule.length + 1 + (i + 1 - s.size) ≤ _; omega, fun k h1 h2 => ?_, ?_, by show i + 1 - s.size ≤ t; omega⟩
      · have h1' : i + 1 - s.size ≤ k := h1
        exact hgn k (by omega) h1' h2
      · refine .inr ⟨by show 1 ≤ _; omega, ?_, fun k h1 h2 => ?_⟩
        · show missF _ s.rule q (i + 1 - 1) = _
          rw [show i + 1 - 1 = i by omega]
        · have h1' : k + 1 < i + 1 := h1
          have h2' : i + 1 + 1 ≤ k + 1 + (i + 1 - s.size) := h2
          exact gen k (by omega) (by omega)
    · have e : bmStep (toldF p (valsR W p) E) q i s = ⟨nextF s (missF (toldF p (valsR W p) E) s.rule q i), s.last, s.miss, s.since + 1, s.size⟩ := by
        unfold bmStep
        rw [if_neg hd, if_neg hg]
      rw [e] at hok ⊢
      refine ⟨hok, by show (nextF s _).length ≤ s.size + 1; omega, hn0, l0, by show s.last.length + (s.since + 1) + s.size ≤ _; omega, fun k h1 h2 => ?_, ?_, st⟩
      · have h1' : s.size ≤ k := h1
        exact hgn k h1' (by omega) h2
      · rcases old with ⟨o1, o2⟩ | ⟨o1, o2, o3⟩
        · omega
        · refine .inr ⟨by show s.since + 1 ≤ _; omega, ?_, fun k h1 h2 => o3 k ?_ ?_⟩
          · show missF _ s.last q (i + 1 - (s.since + 1)) = _
            rw [show i + 1 - (s.since + 1) = i - s.since by omega]; exact o2
          · have : k + (s.since + 1) < i + 1 := h1
            omega
          · have : i + 1 + 1 ≤ k + (s.since + 1) + s.size := h2
            omega
theorem bm_inv (h : Dec n p W D) {E : List Nat} (hE : By E) {q t : Nat} (hEl : E.length ≤ q + 1) (ht : ocnt (cc W D E n q) n ≤ t) : ∀ i, q + i ≤ p → BInv (toldF p (valsR W p) E) q t i (bm (toldF p (valsR W p) E) q i)
  | 0, _ => ⟨bm_ok (lowl_by (pms_two_by (fun x hx => tab_by _ (fun i _ => ev_lt h.W8 (ex_lt i)) x (List.mem_reverse.1 hx)) hE) p) q 0, by show 1 ≤ 0 + 1; omega, rfl, rfl, by show 1 + 1 + 0 ≤ 0 + 2; omega, fun k _ h => absurd h (by omega), .inl ⟨rfl, rfl⟩, Nat.zero_le _⟩
  | i + 1, hi => bm_inv_step h hE hEl ht (by omega) (bm_inv h hE hEl ht i (by omega))

/-- What is found: it is 0 at the inverse of each place of which something is told, and short. -/
theorem massey_finds (h : Dec n p W D) {E : List Nat} (hE : By E) {q t : Nat} (hEl : E.length ≤ q + 1) (ht : ocnt (cc W D E n q) n ≤ t) (hqt : q + 2 * t ≤ p) :
    (masseyF p (toldF p (valsR W p) E) q).length ≤ t + 1 ∧ cf (masseyF p (toldF p (valsR W p) E) q) 0 = 1 ∧ ∀ j, j < n → cc W D E n q j ≠ 0 → ev (masseyF p (toldF p (valsR W p) E) q) (iv (mrk n j)) = 0 := by
  have hI := bm_inv h hE hEl ht (p - q) (by omega)
  obtain ⟨C, hC⟩ : ∃ C, masseyF p (toldF p (valsR W p) E) q = C := ⟨_, rfl⟩
  have hC2 : (bm (toldF p (valsR W p) E) q (p - q)).rule = C := hC
  obtain ⟨s, hs⟩ : ∃ s, bm (toldF p (valsR W p) E) q (p - q) = s := ⟨_, rfl⟩
  rw [hs] at hI hC2
  have hr8 := hI.ok.r8
  have hrl := hI.rl
  have hst := hI.st
  rw [hC]
  have hgen := hI.gen
  have hr0 := hI.r0
  rw [hC2] at hr8 hrl hgen hr0
  refine ⟨by omega, hr0, ?_⟩
  have hy : ∀ j, gm (cc W D E n q j) (ev C (iv (mrk n j))) < 256 := fun j => gm_lt (cc_lt h hE q j) (ev_lt hr8 (iv_lt _))
  have h0 := vand (n := n) (t := t) (a := s.size) (y := fun j => gm (cc W D E n q j) (ev C (iv (mrk n j)))) h.n255 hy
    (Nat.le_trans (ocnt_le fun j _ hj e => hj (by show gm _ _ = 0; rw [e, gm_zero_left])) ht) fun k hk => by
      have := hgen (s.size + k) (by omega) (by omega)
      rw [miss_sum h hE hEl hr8 (by omega) (by omega)] at this
      rw [← this]
      refine xs_congr _ fun j _ => ?_
      have e1 := cc_lt h hE q j
      have e2 := pw_lt (mrk_lt n j) (s.size + k)
      have e3 := ev_lt hr8 (iv_lt (mrk n j))
      rw [gm_assoc e1 e2 e3, gm_comm e2 e3, ← gm_assoc e1 e3 e2]
  intro j hj hc
  rcases gm_eq_zero (cc_lt h hE q j) (ev_lt hr8 (iv_lt _)) (h0 j hj) with h1 | h1
  · exact absurd h1 hc
  · exact h1
end

end SolMath

namespace SolMath
open GfMath PolyMath RsMath
set_option linter.unusedVariables false

theorem iv_ne' {a : Nat} (ha : a < 256) (h0 : a ≠ 0) : iv a ≠ 0 := fun e => by
  have := gm_iv ha h0
  rw [e, gm_zero_right] at this
  cases this
theorem mk_inv {n l j : Nat} (hn : n ≤ 255) (hl : l < n) (hj : j < n) (h : gm (mrk n l) (iv (mrk n j)) = 1) : l = j := by
  have h1 : gm (mrk n j) (iv (mrk n j)) = 1 := gm_iv (mrk_lt n j) (mrk_pos n j)
  have h2 : mrk n l = mrk n j := by
    refine gm_cancel (iv_lt (mrk n j)) (mrk_lt n l) (mrk_lt n j) (iv_ne' (mrk_lt n j) (mrk_pos n j)) ?_
    rw [gm_comm (iv_lt _) (mrk_lt n l), gm_comm (iv_lt _) (mrk_lt n j), h, h1]
  have := ex_inj (by omega) (by omega) h2
  omega
theorem ev_two {X x : Nat} (hX : X < 256) : ev [X, 1] x = gm X x ^^^ 1 := by
  show gm (gm 0 x ^^^ X) x ^^^ 1 = _
  rw [gm_zero_left, Nat.zero_xor]
theorem ev_pms_two {a b : List Nat} {x : Nat} (ha : By a) (hb : By b) (hx : x < 256) : ev (pms [a, b]) x = gm (ev a x) (ev b x) := by
  rw [pms_two, ev_pm (pm_by (by_one (by omega)) ha.beh) hb.beh hx, ev_pm (by_one (by omega)) ha.beh hx, ev_beh hx ha, ev_beh hx hb]
  rw [show ev [1] x = 1 by show gm 0 x ^^^ 1 = 1; rw [gm_zero_left]; rfl, gm_one_left (ev_lt ha hx)]
theorem xor_eq_zero' {a b : Nat} : a ^^^ b = 0 ↔ a = b := by
  constructor
  · intro h
    have : a ^^^ b ^^^ b = 0 ^^^ b := by rw [h]
    rwa [Nat.xor_assoc, Nat.xor_self, Nat.xor_zero, Nat.zero_xor] at this
  · rintro rfl; exact Nat.xor_self _
def gcnt (G : List Bool) (i : Nat) : Nat := ((List.range i).filter fun j => gAt G j).length
theorem gcnt_succ (G : List Bool) (i : Nat) : gcnt G (i + 1) = gcnt G i + if gAt G i then 1 else 0 := by
  unfold gcnt
  rw [List.range_succ, List.filter_append, List.length_append, List.filter_cons, List.filter_nil]
  cases gAt G i <;> rfl
theorem gcnt_cnt : ∀ (G : List Bool), gcnt G G.length = cnt G := by
  intro G
  have h : ∀ k, k ≤ G.length → gcnt G k = (G.take k).count true := by
    intro k
    induction k with
    | zero => intro _; rfl
    | succ k ih =>
      intro hk
      have e : G.take (k + 1) = G.take k ++ [G[k]] := by
        rw [List.take_succ_eq_append_getElem (by omega)]
      rw [gcnt_succ, ih (by omega), e, List.count_append]
      have : gAt G k = G[k] := by unfold gAt; rw [List.getD_eq_getElem?_getD, List.getElem?_eq_getElem (by omega)]; rfl
      rw [this]
      cases G[k] <;> simp
  rw [h _ (Nat.le_refl _), List.take_length]
  rfl
theorem erF_spec {n : Nat} {G : List Bool} (hn : n ≤ 255) : ∀ i, i ≤ n → (erF n G i).length ≤ gcnt G i + 1 ∧ cf (erF n G i) 0 = 1 ∧ ∀ j, j < n → (ev (erF n G i) (iv (mrk n j)) = 0 ↔ j < i ∧ gAt G j = true)
  | 0, _ => ⟨by simp [erF], rfl, fun j _ => by
      have : ev (erF n G 0) (iv (mrk n j)) = 1 := by show gm 0 _ ^^^ 1 = 1; rw [gm_zero_left]; rfl
      rw [this]
      exact ⟨(fun h => by cases h), fun h => absurd h.1 (by omega)⟩⟩
  | i + 1, hi => by
    obtain ⟨h1, h2, h3⟩ := erF_spec (G := G) hn i (by omega)
    have h8 := (erF_all n G i).1
    have hm8 : By [mrk n i, 1] := by_two (mrk_lt n i) (by omega)
    rw [gcnt_succ]
    cases hg : gAt G i with
    | false =>
      have e : erF n G (i + 1) = erF n G i := by show (if gAt G i then _ else _) = _; rw [hg]; rfl
      rw [e]
      refine ⟨by simpa using h1, h2, fun j hj => (h3 j hj).trans ⟨fun h => ⟨by omega, h.2⟩, fun h => ⟨?_, h.2⟩⟩⟩
      have : j ≠ i := fun e => by rw [e, hg] at h; cases h.2
      omega
    | true =>
      have e : erF n G (i + 1) = pms [erF n G i, [mrk n i, 1]] := by show (if gAt G i then _ else _) = _; rw [hg]; rfl
      rw [e]
      refine ⟨?_, ?_, fun j hj => ?_⟩
      · have := pms_two_le (erF n G i) [mrk n i, 1]
        simp only [List.length_cons, List.length_nil] at this
        simp only [if_true]
        omega
      · rw [cf_pms_two h8 hm8]
        show 0 ^^^ gm (cf (erF n G i) 0) (cf [mrk n i, 1] (0 - 0)) = 1
        rw [h2, show cf [mrk n i, 1] (0 - 0) = 1 from rfl, Nat.zero_xor]
        exact gm_one (by omega)
      · have hx := iv_lt (mrk n j)
        rw [ev_pms_two h8 hm8 hx, ev_two (mrk_lt n i)]
        constructor
        · intro h0
          rcases gm_eq_zero (ev_lt h8 hx) (xor_lt (gm_lt (mrk_lt n i) hx) (by omega)) h0 with h4 | h4
          · have := (h3 j hj).1 h4
            exact ⟨by omega, this.2⟩
          · have := mk_inv hn (by omega) hj (xor_eq_zero'.1 h4)
            subst this
            exact ⟨by omega, hg⟩
        · rintro ⟨h4, h5⟩
          by_cases e2 : j = i
          · subst e2
            rw [gm_iv (mrk_lt n j) (mrk_pos n j), Nat.xor_self, gm_zero_right]
          · rw [(h3 j hj).2 ⟨by omega, h5⟩, gm_zero_left]

/-- The quotient by 1 - X x, from the lowest factor on. -/
def qf (A : List Nat) (X : Nat) : Nat → Nat
  | 0 => cf A 0
  | k + 1 => gm X (qf A X k) ^^^ cf A (k + 1)
theorem qf_lt {A : List Nat} (hA : By A) {X : Nat} (hX : X < 256) : ∀ k, qf A X k < 256
  | 0 => hA.cf 0
  | k + 1 => xor_lt (gm_lt hX (qf_lt hA hX k)) (hA.cf _)
theorem qf_sum {A : List Nat} (hA : By A) {X : Nat} (hX : X < 256) : ∀ k, xs (fun l => gm (cf A l) (pw X (k - l))) (k + 1) = qf A X k
  | 0 => by
    show 0 ^^^ gm (cf A 0) (pw X (0 - 0)) = cf A 0
    rw [Nat.zero_xor]
    exact gm_one (hA.cf 0)
  | k + 1 => by
    have e : xs (fun l => gm (cf A l) (pw X (k + 1 - l))) (k + 1 + 1) = xs (fun l => gm (cf A l) (pw X (k + 1 - l))) (k + 1) ^^^ gm (cf A (k + 1)) (pw X (k + 1 - (k + 1))) := rfl
    rw [e, Nat.sub_self, pw_zero', gm_one (hA.cf _), qf, ← qf_sum hA hX k, xs_gm]
    congr 1
    refine xs_congr _ fun l hl => ?_
    rw [show k + 1 - l = (k - l) + 1 by omega, ← pw_comm hX, ← gm_assoc (hA.cf l) hX (pw_lt hX _), gm_comm (hA.cf l) hX, gm_assoc hX (hA.cf l) (pw_lt hX _)]
theorem qf_far {A : List Nat} (hA : By A) {X : Nat} (hX : X < 256) (h0 : X ≠ 0) (hr : ev A (iv X) = 0) (k : Nat) (hk : A.length ≤ k + 1) : qf A X k = 0 := by
  rw [← qf_sum hA hX k, xs_ext (fun l => gm (cf A l) (pw X (k - l))) hk fun l h _ => by rw [cf_out _ _ h, gm_zero_left], ev_fall hX h0 hA k hk, hr, gm_zero_right]
/-- Its value. -/
def Qe (A : List Nat) (X x N : Nat) : Nat := xs (fun k => gm (qf A X k) (pw x k)) N
theorem Qe_lt {A : List Nat} (hA : By A) {X x : Nat} (hX : X < 256) (hx : x < 256) (N : Nat) : Qe A X x N < 256 := xs_lt _ fun k _ => gm_lt (qf_lt hA hX k) (pw_lt hx k)
theorem xor_four (a c d e : Nat) : a ^^^ (c ^^^ d) ^^^ (c ^^^ e) = a ^^^ d ^^^ e := by
  apply Nat.eq_of_testBit_eq
  intro i
  simp only [Nat.testBit_xor]
  cases a.testBit i <;> cases c.testBit i <;> cases d.testBit i <;> cases e.testBit i <;> rfl
theorem Qe_tele {A : List Nat} (hA : By A) {X x : Nat} (hX : X < 256) (hx : x < 256) : ∀ N, gm (1 ^^^ gm X x) (Qe A X x N) = E (cf A) N x ^^^ gm (qf A X N ^^^ cf A N) (pw x N)
  | 0 => by
    show gm _ 0 = 0 ^^^ gm (cf A 0 ^^^ cf A 0) _
    rw [gm_zero_right, Nat.xor_self, gm_zero_left]
    rfl
  | N + 1 => by
    have hq := qf_lt hA hX N
    have hp := pw_lt hx N
    have e1 : Qe A X x (N + 1) = Qe A X x N ^^^ gm (qf A X N) (pw x N) := rfl
    have e2 : E (cf A) (N + 1) x = E (cf A) N x ^^^ gm (cf A N) (pw x N) := rfl
    have e3 : gm (gm X x) (gm (qf A X N) (pw x N)) = gm (qf A X (N + 1) ^^^ cf A (N + 1)) (pw x (N + 1)) := by
      rw [qf, Nat.xor_assoc, Nat.xor_self, Nat.xor_zero, ← pw_comm hx, gm_assoc hX hx (gm_lt hq hp), ← gm_assoc hx hq hp, gm_comm hx hq, gm_assoc hq hx hp, ← gm_assoc hX hq (gm_lt hx hp)]
    rw [e1, gm_add_right, Qe_tele hA hX hx N, gm_add_left (c := gm (qf A X N) (pw x N)), gm_one_left (gm_lt hq hp), e3, e2, gm_add_left (a := qf A X N)]
    exact xor_four _ _ _ _
theorem Qe_ev {A : List Nat} (hA : By A) {X x : Nat} (hX : X < 256) (h0 : X ≠ 0) (hx : x < 256) (hr : ev A (iv X) = 0) {N : Nat} (hN : A.length ≤ N + 1) : gm (1 ^^^ gm X x) (Qe A X x N) = ev A x := by
  rw [Qe_tele hA hX hx N, qf_far hA hX h0 hr N hN, Nat.zero_xor, ev_E_le hx hA hN]
  rfl
/-- The derivative at the root. -/
theorem dev_root {A : List Nat} (hA : By A) {X : Nat} (hX : X < 256) (h0 : X ≠ 0) : ∀ M, xs (fun k => gm (if k % 2 = 0 then cf A (k + 1) else 0) (pw (iv X) k)) (2 * M) = gm X (Qe A X (iv X) (2 * M))
  | 0 => by show 0 = gm X 0; rw [gm_zero_right]
  | M + 1 => by
    have hx := iv_lt X
    have q0 := qf_lt hA hX (2 * M)
    have p0 := pw_lt hx (2 * M)
    have e1 : ∀ f : Nat → Nat, xs f (2 * (M + 1)) = xs f (2 * M) ^^^ f (2 * M) ^^^ f (2 * M + 1) := fun f => rfl
    have hp : pw (iv X) (2 * M) = gm X (pw (iv X) (2 * M + 1)) := by
      rw [← pw_comm hx, ← gm_assoc hX hx p0, gm_iv hX h0, gm_one_left p0]
    have hc : cf A (2 * M + 1) = gm X (qf A X (2 * M)) ^^^ qf A X (2 * M + 1) := by
      rw [qf, ← Nat.xor_assoc, Nat.xor_self, Nat.zero_xor]
    unfold Qe
    rw [e1, e1, dev_root hA hX h0 M, if_pos (by omega), if_neg (by omega), gm_zero_left, Nat.xor_zero, gm_add_right, gm_add_right]
    unfold Qe
    rw [Nat.xor_assoc]
    congr 1
    rw [hc, gm_add_left, gm_assoc hX q0 p0]
    congr 1
    rw [hp, ← gm_assoc (qf_lt hA hX _) hX (pw_lt hx _), gm_comm (qf_lt hA hX _) hX, gm_assoc hX (qf_lt hA hX _) (pw_lt hx _)]
theorem xs_single {f : Nat → Nat} {i : Nat} : ∀ n, i < n → (∀ j, j < n → j ≠ i → f j = 0) → xs f n = f i
  | 0, h, _ => absurd h (by omega)
  | n + 1, h, hz => by
    have e : xs f (n + 1) = xs f n ^^^ f n := rfl
    rw [e]
    by_cases hi : i = n
    · subst hi
      rw [xs_zero _ fun j hj => hz j (by omega) (by omega), Nat.zero_xor]
    · rw [xs_single n (by omega) fun j hj hne => hz j (by omega) hne, hz n (by omega) (fun e => hi e.symm), Nat.xor_zero]

end SolMath

namespace SolMath
open GfMath PolyMath RsMath
set_option linter.unusedVariables false

theorem filter_or_len {α : Type} (P Q : α → Bool) : ∀ l : List α, (l.filter fun x => P x || Q x).length = (l.filter P).length + (l.filter fun x => !P x && Q x).length
  | [] => rfl
  | a :: l => by
    have ih := filter_or_len P Q l
    rw [List.filter_cons, List.filter_cons, List.filter_cons]
    cases P a <;> cases Q a <;> simp [ih] <;> omega
section
variable {n p : Nat} {W D : List Nat} {G : List Bool}
/-- The wrong places that aren't erased. -/
def oth (W D : List Nat) (G : List Bool) (j : Nat) : Nat := if gAt G j then 0 else er W D j
def Sl (W D : List Nat) (G : List Bool) (n : Nat) : List Nat := (List.range n).filter fun j => gAt G j || decide (er W D j ≠ 0)
theorem Sl_mem (j : Nat) : j ∈ Sl W D G n ↔ j < n ∧ (gAt G j = true ∨ er W D j ≠ 0) := by simp [Sl]
theorem Sl_len (hG : G.length = n) : (Sl W D G n).length = cnt G + ocnt (oth W D G) n := by
  unfold Sl ocnt
  rw [filter_or_len, ← gcnt_cnt G, hG, gcnt]
  congr 1
  congr 1
  apply List.filter_congr
  intro j _
  unfold oth
  cases gAt G j <;> simp
theorem map_nodup {α β : Type} {f : α → β} : ∀ {l : List α}, l.Nodup → (∀ x ∈ l, ∀ y ∈ l, f x = f y → x = y) → (l.map f).Nodup
  | [], _, _ => List.nodup_nil
  | a :: l, h, hi => by
    rw [List.nodup_cons] at h
    rw [List.map_cons, List.nodup_cons]
    refine ⟨fun hm => ?_, map_nodup h.2 fun x hx y hy => hi x (List.mem_cons_of_mem _ hx) y (List.mem_cons_of_mem _ hy)⟩
    obtain ⟨b, hb, e⟩ := List.mem_map.1 hm
    have := hi b (List.mem_cons_of_mem _ hb) a (List.mem_cons_self ..) e
    exact h.1 (this ▸ hb)
theorem iv_inj {i j : Nat} (hn : n ≤ 255) (hi : i < n) (hj : j < n) (h : iv (mrk n i) = iv (mrk n j)) : i = j :=
  mk_inv hn hi hj (by rw [← h]; exact gm_iv (mrk_lt n i) (mrk_pos n i))
theorem Sl_nodup (hn : n ≤ 255) : ((Sl W D G n).map fun j => iv (mrk n j)).Nodup :=
  map_nodup (List.Pairwise.filter _ List.nodup_range) fun x hx y hy e => iv_inj hn ((Sl_mem x).1 hx).1 ((Sl_mem y).1 hy).1 e
theorem Sl_by (l : List Nat) : By (l.map fun j => iv (mrk n j)) := by
  intro x hx
  obtain ⟨j, _, rfl⟩ := List.mem_map.1 hx
  exact iv_lt _

/-- What a polynomial does that is 0 just where it must be: Forney's rule. -/
theorem forney (h : Dec n p W D) (hp : 1 ≤ p) (hG : G.length = n) {A : List Nat} (hA : By A) (hAl : A.length ≤ (Sl W D G n).length + 1) (hA0 : cf A 0 = 1) (hS : (Sl W D G n).length ≤ p) (hr : ∀ j, j ∈ Sl W D G n → ev A (iv (mrk n j)) = 0) :
    ∀ i, i < n → dAt n A (beh (dl A)) (lowl p (pms [valsR W p, A])) i = er W D i := by
  have hV8 : By (valsR W p) := fun x hx => tab_by _ (fun i _ => ev_lt h.W8 (ex_lt i)) x (List.mem_reverse.1 hx)
  have hm := fun j => mrk_lt n j
  have hm0 := fun j => mrk_pos n j
  have hx := fun j => iv_lt (mrk n j)
  intro i hi
  unfold dAt
  by_cases hiS : i ∈ Sl W D G n
  · rw [if_neg (by rw [hr i hiS]; simp)]
    have hSl1 : 1 ≤ (Sl W D G n).length := List.length_pos_of_mem hiS
    -- the quotient isn't 0 there
    have hlp : A.length ≤ p + 1 := by omega
    have hQo : ∀ j, j ∈ Sl W D G n → ∀ l, l ∈ Sl W D G n → l ≠ j → Qe A (mrk n j) (iv (mrk n l)) p = 0 := fun j hj l hl hne => by
      have h1 := Qe_ev hA (hm j) (hm0 j) (hx l) (hr j hj) hlp
      rw [hr l hl] at h1
      rcases gm_eq_zero (xor_lt (by omega) (gm_lt (hm j) (hx l))) (Qe_lt hA (hm j) (hx l) p) h1 with h2 | h2
      · have := mk_inv h.n255 ((Sl_mem j).1 hj).1 ((Sl_mem l).1 hl).1 (xor_eq_zero'.1 h2).symm
        exact absurd this.symm hne
      · exact h2
    have hQn : Qe A (mrk n i) (iv (mrk n i)) p ≠ 0 := fun h0 => by
      obtain ⟨m, hme⟩ : ∃ m, (Sl W D G n).length = m := ⟨_, rfl⟩
      have hz := roots_zero m (PolyMath.hi m (qf A (mrk n i))) ((Sl W D G n).map fun j => iv (mrk n j)) (tab_by _ fun k _ => qf_lt hA (hm i) _) (Sl_by _) (by rw [hi_length]; exact Nat.le_refl _) (by rw [List.length_map, hme]) (Sl_nodup h.n255) fun x hxm => by
        obtain ⟨l, hl, rfl⟩ := List.mem_map.1 hxm
        have hq8 : By (PolyMath.hi m (qf A (mrk n i))) := tab_by _ fun k _ => qf_lt hA (hm i) _
        rw [ev_E (hx l) hq8, hi_length]
        have e1 : E (cf (PolyMath.hi m (qf A (mrk n i)))) m (iv (mrk n l)) = Qe A (mrk n i) (iv (mrk n l)) m := xs_congr _ fun k hk => by rw [cf_hi, if_pos hk]
        have e2 : Qe A (mrk n i) (iv (mrk n l)) p = Qe A (mrk n i) (iv (mrk n l)) m := xs_ext _ (by omega) fun k hk _ => by rw [qf_far hA (hm i) (hm0 i) (hr i hiS) k (by omega), gm_zero_left]
        rw [e1, ← e2]
        by_cases e : l = i
        · rw [e]; exact h0
        · exact hQo i hiS l hl e
      have h1 : cf (PolyMath.hi m (qf A (mrk n i))) 0 = qf A (mrk n i) 0 := by rw [cf_hi, if_pos (by omega)]
      have h2 : cf (PolyMath.hi m (qf A (mrk n i))) 0 = 0 := by
        rw [cf_in _ _ (by rw [hi_length]; omega), sq_get _ _ (by rw [hi_length]; omega)]
        exact hz _ (List.getElem_mem _)
      rw [h2] at h1
      have h3 : qf A (mrk n i) 0 = 1 := hA0
      rw [h3] at h1
      cases h1
    -- the values' side
    have hL8 : By (lowl p (pms [valsR W p, A])) := lowl_by (pms_two_by hV8 hA) p
    have hev : ev (lowl p (pms [valsR W p, A])) (iv (mrk n i)) = gm (er W D i) (Qe A (mrk n i) (iv (mrk n i)) p) := by
      rw [ev_E_le (hx i) hL8 (N := p) (lowl_le' _ _)]
      unfold E
      rw [xs_congr p (g := fun k => xs (fun j => gm (er W D j) (gm (qf A (mrk n j) k) (pw (iv (mrk n i)) k))) n) fun k hk => by
        rw [cf_lowl, if_pos hk, cf_pms_two hV8 hA, cv_comm (fun k => hV8.cf k) (fun k => hA.cf k)]
        unfold cv
        rw [xs_congr (k + 1) (g := fun l => xs (fun j => gm (er W D j) (gm (cf A l) (pw (mrk n j) (k - l)))) n) fun l hl => by
          rw [cf_valsR (show k - l < p by omega), val_sum h (show k - l < p by omega), xs_gm]
          refine xs_congr _ fun j _ => ?_
          rw [← gm_assoc (hA.cf l) (er_lt h j) (pw_lt (hm j) _), gm_comm (hA.cf l) (er_lt h j), gm_assoc (er_lt h j) (hA.cf l) (pw_lt (hm j) _)], xs_swap]
        rw [xs_gm_right]
        refine xs_congr _ fun j _ => ?_
        rw [← xs_gm, qf_sum hA (hm j) k, gm_assoc (er_lt h j) (qf_lt hA (hm j) k) (pw_lt (hx i) k)], xs_swap]
      rw [xs_congr n (g := fun j => gm (er W D j) (Qe A (mrk n j) (iv (mrk n i)) p)) fun j _ => by rw [← xs_gm]; rfl]
      refine xs_single n hi fun j hj hne => ?_
      by_cases he : er W D j = 0
      · rw [he, gm_zero_left]
      · rw [hQo j ((Sl_mem j).2 ⟨hj, Or.inr he⟩) i hiS (fun e => hne e.symm), gm_zero_right]
    have hdv : ev (beh (dl A)) (iv (mrk n i)) = gm (mrk n i) (Qe A (mrk n i) (iv (mrk n i)) p) := by
      rw [ev_beh (hx i) (dl_by hA)]
      have e1 := dev_E (N := 2 * p) hA (hx i) (by omega)
      unfold dev at e1
      rw [e1, dev_root hA (hm i) (hm0 i) p]
      congr 1
      exact xs_ext _ (by omega) fun k hk _ => by rw [qf_far hA (hm i) (hm0 i) (hr i hiS) k (by omega), gm_zero_left]
    rw [hev, hdv]
    have hq := Qe_lt hA (hm i) (hx i) p
    have he := er_lt h i
    obtain ⟨X, hX⟩ : ∃ X, mrk n i = X := ⟨_, rfl⟩
    obtain ⟨Q, hQ⟩ : ∃ Q, Qe A (mrk n i) (iv (mrk n i)) p = Q := ⟨_, rfl⟩
    have hX8 := hm i
    have hX0 := hm0 i
    rw [hQ] at hq hQn ⊢
    rw [hX] at hX8 hX0 ⊢
    have hXQ := gm_lt hX8 hq
    have hXQ0 := gm_ne hX8 hq hX0 hQn
    rw [← gm_assoc hX8 (gm_lt he hq) (iv_lt _), ← gm_assoc hX8 he hq, gm_comm hX8 he, gm_assoc he hX8 hq, gm_assoc he hXQ (iv_lt _), gm_iv hXQ hXQ0, gm_one he]
  · have h0 : er W D i = 0 := Classical.byContradiction fun he => hiS ((Sl_mem i).2 ⟨hi, Or.inr he⟩)
    rw [h0]
    refine if_pos fun hz => ?_
    have hnz := roots_zero ((Sl W D G n).length + 1) A (iv (mrk n i) :: (Sl W D G n).map fun j => iv (mrk n j)) hA (by
      intro x hxm
      rcases List.mem_cons.1 hxm with rfl | hxm
      · exact hx i
      · exact Sl_by _ x hxm) hAl (by simp) (by
      rw [List.nodup_cons]
      refine ⟨fun hmm => ?_, Sl_nodup h.n255⟩
      obtain ⟨j, hj, e⟩ := List.mem_map.1 hmm
      have := iv_inj h.n255 ((Sl_mem j).1 hj).1 hi e
      exact hiS (this ▸ hj)) fun x hxm => by
      rcases List.mem_cons.1 hxm with rfl | hxm
      · exact hz
      · obtain ⟨j, hj, rfl⟩ := List.mem_map.1 hxm
        exact hr j hj
    have hl := cf_pos hA0
    rw [cf_in _ _ (by omega), sq_get _ _ (by omega)] at hA0
    rw [hnz _ (List.getElem_mem _)] at hA0
    cases hA0

/-- A codeword of which some erased places, and some others, have any other bytes, within what may be, is mended to itself. -/
theorem decode (h : Dec n p W D) (hp : 1 ≤ p) {el : List Int} (hb : inB n el = true) (hq : cnt (markE n el) + 2 * ocnt (oth W D (markE n el)) n ≤ p) :
    mendF masseyF n p W el = .ok D (atF (er W D) n) := by
  rw [mendF_eq, if_neg (by rw [hb]; simp)]
  have hG : (markE n el).length = n := by unfold markE; rw [setG_length]; exact List.length_replicate
  obtain ⟨G, hGe⟩ : ∃ G, markE n el = G := ⟨_, rfl⟩
  rw [hGe] at hq hG ⊢
  obtain ⟨hEl, hE0, hEr⟩ := erF_spec (n := n) (G := G) h.n255 n (Nat.le_refl _)
  have hE8 := (erF_all n G n).1
  rw [show gcnt G n = cnt G by rw [← gcnt_cnt G, hG]] at hEl
  have hV8 : By (valsR W p) := fun x hx => tab_by _ (fun i _ => ev_lt h.W8 (ex_lt i)) x (List.mem_reverse.1 hx)
  have hcc : ∀ j, j < n → (cc W D (erF n G n) n (cnt G) j ≠ 0 → oth W D G j ≠ 0) ∧ (oth W D G j ≠ 0 → cc W D (erF n G n) n (cnt G) j ≠ 0) := fun j hj => by
    unfold cc oth
    constructor
    · intro h1 h2
      cases hg : gAt G j with
      | true => exact h1 (by rw [(hEr j hj).2 ⟨hj, hg⟩, gm_zero_right])
      | false => rw [hg] at h2; simp only [Bool.false_eq_true, if_false] at h2; exact h1 (by rw [h2, gm_zero_left, gm_zero_left])
    · intro h1
      cases hg : gAt G j with
      | true => rw [hg] at h1; simp at h1
      | false =>
        rw [hg] at h1
        simp only [Bool.false_eq_true, if_false] at h1
        refine gm_ne (gm_lt (er_lt h j) (pw_lt (mrk_lt n j) _)) (ev_lt hE8 (iv_lt _)) (gm_ne (er_lt h j) (pw_lt (mrk_lt n j) _) h1 (by rw [mrk, pw_ex]; exact ex_pos _)) fun h2 => ?_
        have := ((hEr j hj).1 h2).2
        rw [hg] at this
        cases this
  have hoc : ocnt (cc W D (erF n G n) n (cnt G)) n ≤ ocnt (oth W D G) n := ocnt_le fun j hj => (hcc j hj).1
  obtain ⟨hCl, hC0, hCr⟩ := massey_finds h hE8 hEl hoc hq
  have hC8 : By (masseyF p (toldF p (valsR W p) (erF n G n)) (cnt G)) := (bm_ok (lowl_by (pms_two_by hV8 hE8) p) _ _).r8
  obtain ⟨C, hC⟩ : ∃ C, masseyF p (toldF p (valsR W p) (erF n G n)) (cnt G) = C := ⟨_, rfl⟩
  obtain ⟨E, hE⟩ : ∃ E, erF n G n = E := ⟨_, rfl⟩
  rw [hC] at hCl hC0 hCr hC8
  rw [hE] at hE8 hEl hE0 hEr hcc hCr hC
  have hSn := Sl_len (W := W) (D := D) hG
  have hA8 : By (pms [C, E]) := pms_two_by hC8 hE8
  have hAl := pms_two_le C E
  have hA0 : cf (pms [C, E]) 0 = 1 := by
    rw [cf_pms_two hC8 hE8]
    show 0 ^^^ gm (cf C 0) (cf E (0 - 0)) = 1
    rw [hC0, Nat.sub_self, hE0, Nat.zero_xor]
    exact gm_one (by omega)
  have hAr : ∀ j, j ∈ Sl W D G n → ev (pms [C, E]) (iv (mrk n j)) = 0 := fun j hj => by
    obtain ⟨h1, h2⟩ := (Sl_mem j).1 hj
    rw [ev_pms_two hC8 hE8 (iv_lt _)]
    cases hg : gAt G j with
    | true => rw [(hEr j h1).2 ⟨h1, hg⟩, gm_zero_right]
    | false =>
      rcases h2 with h2 | h2
      · rw [hg] at h2; cases h2
      · rw [hCr j h1 ((hcc j h1).2 (by unfold oth; rw [hg]; simpa using h2)), gm_zero_left]
  have hF := forney h hp hG hA8 (by omega) hA0 (by omega) hAr
  have hd : ∀ i, i < n → dF n p (valsR W p) C E i = er W D i := hF
  have hW : layW n p W (valsR W p) C E = D := by
    refine list_eq (by unfold layW wordF; rw [tab_length, h.Wl, h.Dl]) fun i hi => ?_
    unfold layW wordF at hi ⊢
    rw [tab_length, h.Wl] at hi
    rw [sq_tab, if_pos (by rw [h.Wl]; exact hi), if_pos hi, hd i hi, er, ← Nat.xor_assoc, Nat.xor_self, Nat.zero_xor]
  have hP : layP n p (valsR W p) C E = atF (er W D) n := by
    unfold layP atF
    apply List.filter_congr
    intro j hj
    rw [hd j (List.mem_range.1 hj)]
  have hO : othF G (atF (er W D) n) = ocnt (oth W D G) n := by
    unfold othF atF ocnt
    rw [List.filter_filter]
    congr 1
    apply List.filter_congr
    intro j _
    unfold oth
    cases gAt G j <;> simp
  unfold mendG
  simp only
  rw [hE, hC, hW, hP, hO]
  refine if_pos ⟨?_, by omega, by omega⟩
  rw [allz_zero]
  exact h.D0
end

end SolMath

namespace Go.Proofs.YtnbjaijhdjneoaaGreat
open Go.RowKit

theorem Row.resultT {w : World} {g : Nat} {t : TypeId} {l : List Value} (h : Row w g t l) {fn : Func} {p q : Tmp} {ty : TypeId} (hf : fn.results = #[.cell p ty, .tmp q]) (tmps : Array Value) (d : TypeDesc)
    (hp : tmps.getD p undef = .pointer (some ⟨g, 0, none⟩)) (hu : Tryz.prog.underlying ty = some d) (hd : d.isRow = true) (hi : (Tryz.prog.info? ty).map (·.size) = some l.length) :
    (results fn tmps).run Tryz.prog w = .ok (.tuple #[.agg l.toArray, tmps.getD q undef]) w := by
  have hp' : tmps[p]?.getD undef = .pointer (some ⟨g, 0, none⟩) := by simpa using hp
  have := run_loadVar_row (P := Tryz.prog) w g t ty l.toArray (0, 0) d h hu (by cases d <;> simp_all) (by simpa using hi)
  simp [results, hf, hp', asAddr, this]

end Go.Proofs.YtnbjaijhdjneoaaGreat

namespace Go.Proofs.YtnbjaijhdjneoaaGreat.CrcMath

abbrev R := BitVec 32
def P : R := 0xEDB88320#32
def stp (r : R) : R := if r.getLsbD 0 then (r >>> 1) ^^^ P else r >>> 1
def its : Nat → R → R
  | 0, r => r
  | k + 1, r => stp (its k r)
def eight (r : R) : R := its 8 r
/-- A byte as a register. -/
def ex (b : UInt8) : R := BitVec.ofNat 32 b.toNat
def fd (r : R) (b : UInt8) : R := eight (r ^^^ ex b)
def reg (r : R) (l : List UInt8) : R := l.foldl fd r
def ones : R := BitVec.allOnes 32
def crc (l : List UInt8) : R := ~~~ reg ones l

theorem reg_nil (r : R) : reg r [] = r := rfl
theorem reg_cons (r : R) (b : UInt8) (l : List UInt8) : reg r (b :: l) = reg (fd r b) l := rfl
theorem reg_append (r : R) (l m : List UInt8) : reg r (l ++ m) = reg (reg r l) m := by simp [reg]
theorem reg_snoc (r : R) (l : List UInt8) (b : UInt8) : reg r (l ++ [b]) = fd (reg r l) b := by simp [reg]

theorem stp_xor (a b : R) : stp (a ^^^ b) = stp a ^^^ stp b := by
  unfold stp
  rw [BitVec.getLsbD_xor]
  cases ha : a.getLsbD 0 <;> cases hb : b.getLsbD 0 <;> simp [BitVec.ushiftRight_xor_distrib]
  · ac_rfl
  · ac_rfl
  · rw [show a >>> 1 ^^^ P ^^^ (b >>> 1 ^^^ P) = (a >>> 1 ^^^ b >>> 1) ^^^ (P ^^^ P) by ac_rfl, BitVec.xor_self, BitVec.xor_zero]
theorem its_xor (k : Nat) (a b : R) : its k (a ^^^ b) = its k a ^^^ its k b := by
  induction k with
  | zero => rfl
  | succ k ih => rw [its, ih, stp_xor, its, its]
theorem eight_xor (a b : R) : eight (a ^^^ b) = eight a ^^^ eight b := its_xor 8 a b
theorem stp_zero : stp 0 = 0 := by decide
theorem its_zero (k : Nat) : its k 0 = 0 := by
  induction k with
  | zero => rfl
  | succ k ih => rw [its, ih, stp_zero]
theorem eight_zero : eight 0 = 0 := its_zero 8

theorem stp_even (x : R) (k : Nat) : stp (x <<< (k + 1)) = (x <<< (k + 1)) >>> 1 := by
  unfold stp
  rw [if_neg (by simp)]

theorem shl_shr (y : R) (k : Nat) (h : y.toNat * 2 ^ (k + 1) < 2 ^ 32) : (y <<< (k + 1)) >>> 1 = y <<< k := by
  apply BitVec.eq_of_toNat_eq
  rw [BitVec.toNat_ushiftRight, BitVec.toNat_shiftLeft, BitVec.toNat_shiftLeft, Nat.shiftLeft_eq, Nat.shiftLeft_eq, Nat.shiftRight_eq_div_pow]
  rw [Nat.mod_eq_of_lt h]
  have e : y.toNat * 2 ^ (k + 1) = (y.toNat * 2 ^ k) * 2 := by rw [Nat.pow_succ]; ac_rfl
  rw [e] at h ⊢
  rw [Nat.mod_eq_of_lt (by omega)]
  omega
theorem its_shl (y : R) (n k : Nat) (hk : k ≤ n) (h : y.toNat * 2 ^ n < 2 ^ 32) : its k (y <<< n) = y <<< (n - k) := by
  induction k with
  | zero => rfl
  | succ k ih =>
    rw [its, ih (by omega)]
    obtain ⟨m, hm⟩ : ∃ m, n - k = m + 1 := ⟨n - k - 1, by omega⟩
    have hp : 2 ^ (m + 1) ≤ 2 ^ n := Nat.pow_le_pow_right (by omega) (by omega)
    rw [hm, stp_even, shl_shr y m (Nat.lt_of_le_of_lt (Nat.mul_le_mul_left _ hp) h)]
    congr 1
    omega
/-- Of a register whose lowest eight bits are 0 eight steps make what lies above them. -/
theorem eight_high (y : R) (h : y.toNat * 256 < 2 ^ 32) : eight (y <<< 8) = y := by
  have := its_shl y 8 8 (Nat.le_refl _) h
  simpa [eight] using this

theorem split (r : R) : r = ((r >>> 8) <<< 8) ^^^ (BitVec.ofNat 32 (r.toNat % 256)) := by
  apply BitVec.eq_of_toNat_eq
  rw [BitVec.toNat_xor, BitVec.toNat_shiftLeft, BitVec.toNat_ushiftRight, BitVec.toNat_ofNat, Nat.shiftLeft_eq, Nat.shiftRight_eq_div_pow]
  have hr := r.isLt
  rw [Nat.mod_eq_of_lt (a := r.toNat % 256) (by omega), Nat.mod_eq_of_lt (by omega)]
  have h := Nat.two_pow_add_eq_or_of_lt (i := 8) (b := r.toNat % 256) (by omega) (r.toNat / 2 ^ 8)
  have h2 : 2 ^ 8 * (r.toNat / 2 ^ 8) ^^^ r.toNat % 256 = 2 ^ 8 * (r.toNat / 2 ^ 8) ||| r.toNat % 256 := by
    apply Nat.eq_of_testBit_eq
    intro i
    rw [Nat.testBit_xor, Nat.testBit_or, Nat.testBit_two_pow_mul]
    by_cases hi : i < 8
    · simp [show ¬ 8 ≤ i by omega]
    · have : (r.toNat % 256).testBit i = false := Nat.testBit_lt_two_pow (Nat.lt_of_lt_of_le (show r.toNat % 256 < 2 ^ 8 by omega) (Nat.pow_le_pow_right (by omega) (by omega)))
      simp [this]
  rw [Nat.mul_comm, h2, ← h]
  omega

/-- A byte, by the table. -/
theorem fd_table (r : R) (b : UInt8) : fd r b = (r >>> 8) ^^^ eight (BitVec.ofNat 32 ((r.toNat % 256) ^^^ b.toNat)) := by
  unfold fd
  have hx : BitVec.ofNat 32 ((r.toNat % 256) ^^^ b.toNat) = BitVec.ofNat 32 (r.toNat % 256) ^^^ ex b := by
    apply BitVec.eq_of_toNat_eq
    have hb : b.toNat < 256 := b.toNat_lt
    have h1 : r.toNat % 256 ^^^ b.toNat < 2 ^ 8 := Nat.xor_lt_two_pow (by omega) (by omega)
    rw [BitVec.toNat_xor, ex, BitVec.toNat_ofNat, BitVec.toNat_ofNat, BitVec.toNat_ofNat]
    rw [Nat.mod_eq_of_lt (a := r.toNat % 256 ^^^ b.toNat) (by omega), Nat.mod_eq_of_lt (a := b.toNat) (by omega), Nat.mod_eq_of_lt (a := r.toNat % 256) (by omega)]
  have hh : ((r >>> 8).toNat) * 256 < 2 ^ 32 := by
    rw [BitVec.toNat_ushiftRight, Nat.shiftRight_eq_div_pow]
    have hr := r.isLt
    omega
  conv => lhs; rw [split r]
  rw [BitVec.xor_assoc, ← hx, eight_xor, eight_high _ hh]

theorem fd_xor (r s : R) (a b : UInt8) : fd (r ^^^ s) (a ^^^ b) = fd r a ^^^ fd s b := by
  unfold fd
  have : ex (a ^^^ b) = ex a ^^^ ex b := by
    apply BitVec.eq_of_toNat_eq
    have ha : a.toNat < 256 := a.toNat_lt
    have hb : b.toNat < 256 := b.toNat_lt
    have h1 : a.toNat ^^^ b.toNat < 2 ^ 8 := Nat.xor_lt_two_pow (by omega) (by omega)
    rw [ex, ex, ex, BitVec.toNat_xor, BitVec.toNat_ofNat, BitVec.toNat_ofNat, BitVec.toNat_ofNat, UInt8.toNat_xor]
    rw [Nat.mod_eq_of_lt (by omega), Nat.mod_eq_of_lt (by omega), Nat.mod_eq_of_lt (by omega)]
  rw [this, ← eight_xor]
  congr 1
  ac_rfl

def xors (l m : List UInt8) : List UInt8 := List.zipWith (· ^^^ ·) l m
theorem reg_xor (l m : List UInt8) (h : l.length = m.length) (r s : R) : reg (r ^^^ s) (xors l m) = reg r l ^^^ reg s m := by
  induction l generalizing m r s with
  | nil => cases m with | nil => rfl | cons => simp at h
  | cons a l ih =>
    cases m with
    | nil => simp at h
    | cons b m =>
      simp only [xors, List.zipWith_cons_cons, reg_cons]
      rw [fd_xor]
      exact ih m (by simpa using h) _ _

theorem stp_inj {x : R} (h : stp x = 0) : x = 0 := by
  unfold stp at h
  cases hx : x.getLsbD 0 with
  | true =>
    rw [hx] at h
    simp only [if_true] at h
    have h31 : ((x >>> 1) ^^^ P).getLsbD 31 = true := by
      rw [BitVec.getLsbD_xor, BitVec.getLsbD_ushiftRight]
      have : x.getLsbD (1 + 31) = false := BitVec.getLsbD_of_ge _ _ (by omega)
      rw [this]
      decide
    rw [h] at h31
    simp at h31
  | false =>
    rw [hx] at h
    simp only [Bool.false_eq_true, if_false] at h
    apply BitVec.eq_of_getLsbD_eq
    intro i hi
    cases i with
    | zero => simpa using hx
    | succ i =>
      have := congrArg (fun y => BitVec.getLsbD y i) h
      simp only [BitVec.getLsbD_ushiftRight] at this
      rw [Nat.add_comm]
      simpa using this
theorem its_inj (k : Nat) {x : R} (h : its k x = 0) : x = 0 := by
  induction k with
  | zero => exact h
  | succ k ih => exact ih (stp_inj h)
theorem eight_inj {x : R} (h : eight x = 0) : x = 0 := its_inj 8 h

theorem fd_zero_inj {r : R} (h : fd r 0 = 0) : r = 0 := by
  unfold fd at h
  have := eight_inj h
  simpa [ex] using this
theorem reg_zeros (n : Nat) {r : R} (h : reg r (List.replicate n 0) = 0) : r = 0 := by
  induction n generalizing r with
  | zero => exact h
  | succ n ih =>
    rw [List.replicate_succ, reg_cons] at h
    exact fd_zero_inj (ih h)
theorem reg_zero_zeros (n : Nat) : reg 0 (List.replicate n 0) = 0 := by
  induction n with
  | zero => rfl
  | succ n ih =>
    rw [List.replicate_succ, reg_cons]
    have : fd 0 0 = 0 := by
      unfold fd
      rw [show (0 : R) ^^^ ex 0 = 0 from by decide, eight_zero]
    rw [this, ih]

theorem ex_lt (b : UInt8) : (ex b).toNat < 256 := by
  have := b.toNat_lt
  unfold ex
  rw [BitVec.toNat_ofNat, Nat.mod_eq_of_lt (by omega)]
  exact this
/-- Four bytes, from nothing, make nothing only of nothing. -/
theorem four (a b c d : UInt8) (h : reg 0 [a, b, c, d] = 0) : a = 0 ∧ b = 0 ∧ c = 0 ∧ d = 0 := by
  have e0 : (0 : R) ^^^ ex a = ex a := by simp
  simp only [reg_cons, reg_nil, fd] at h
  rw [e0] at h
  have h3 := eight_inj h
  obtain ⟨u, hu⟩ : ∃ u, u = eight (eight (eight (ex a) ^^^ ex b) ^^^ ex c) := ⟨_, rfl⟩
  rw [← hu] at h3
  have e3 : u = ex d := by
    have := congrArg (· ^^^ ex d) h3
    simpa [BitVec.xor_assoc] using this
  -- eight (v) = ex d, so v = ex d <<< 8
  have back : ∀ (v w : R), w.toNat * 256 < 2 ^ 32 → eight v = w → v = w <<< 8 := by
    intro v w hw e
    have hz : eight (v ^^^ (w <<< 8)) = 0 := by rw [eight_xor, eight_high w hw, e, BitVec.xor_self]; rfl
    have := eight_inj hz
    have := congrArg (· ^^^ (w <<< 8)) this
    simpa [BitVec.xor_assoc] using this
  have hd := ex_lt d
  have hc := ex_lt c
  have hb := ex_lt b
  have ha := ex_lt a
  have e2 := back _ _ (by omega) (hu.symm.trans e3)
  have sh8 : ∀ (x : R), x.toNat * 256 < 2 ^ 32 → (x <<< 8).toNat = x.toNat * 256 := by
    intro x hx
    rw [BitVec.toNat_shiftLeft, Nat.shiftLeft_eq, Nat.mod_eq_of_lt (by simpa using hx)]
  have low : ∀ (x : R) (e : UInt8), x.toNat * 256 < 2 ^ 32 → ((x <<< 8) ^^^ ex e).toNat = x.toNat * 256 + e.toNat := by
    intro x e hx
    have he := e.toNat_lt
    rw [BitVec.toNat_xor, sh8 x hx]
    have h1 : (ex e).toNat = e.toNat := by unfold ex; rw [BitVec.toNat_ofNat, Nat.mod_eq_of_lt (by omega)]
    rw [h1]
    have h := Nat.two_pow_add_eq_or_of_lt (i := 8) (b := e.toNat) (by omega) x.toNat
    have h2 : 2 ^ 8 * x.toNat ^^^ e.toNat = 2 ^ 8 * x.toNat ||| e.toNat := by
      apply Nat.eq_of_testBit_eq
      intro i
      rw [Nat.testBit_xor, Nat.testBit_or, Nat.testBit_two_pow_mul]
      by_cases hi : i < 8
      · simp [show ¬ 8 ≤ i by omega]
      · have : e.toNat.testBit i = false := Nat.testBit_lt_two_pow (Nat.lt_of_lt_of_le (show e.toNat < 2 ^ 8 by omega) (Nat.pow_le_pow_right (by omega) (by omega)))
        simp [this]
    rw [Nat.mul_comm, h2, ← h]
  have xr : ∀ (v w : R) (e : UInt8), v ^^^ ex e = w → v = w ^^^ ex e := by
    intro v w e h
    rw [← h, BitVec.xor_assoc, BitVec.xor_self, BitVec.xor_zero]
  have f2 := xr _ _ _ e2
  have b2 : ((ex d <<< 8) ^^^ ex c).toNat < 65536 := by
    have := c.toNat_lt
    rw [low _ _ (by omega)]; omega
  have e1 := back _ _ (by omega) f2
  have f1 := xr _ _ _ e1
  have b1 : ((((ex d <<< 8) ^^^ ex c) <<< 8) ^^^ ex b).toNat < 16777216 := by
    have := b.toNat_lt
    rw [low _ _ (by omega)]; omega
  have e0 := back _ _ (by omega) f1
  have n0 := congrArg BitVec.toNat e0
  rw [sh8 _ (by omega), low _ _ (by omega), low _ _ (by omega)] at n0
  have hd1 : (ex d).toNat = d.toNat := by have := d.toNat_lt; unfold ex; rw [BitVec.toNat_ofNat, Nat.mod_eq_of_lt (by omega)]
  have ha1 : (ex a).toNat = a.toNat := by have := a.toNat_lt; unfold ex; rw [BitVec.toNat_ofNat, Nat.mod_eq_of_lt (by omega)]
  rw [hd1, ha1] at n0
  have z : ∀ x : UInt8, x.toNat = 0 → x = 0 := fun x h => UInt8.toNat_inj.1 (by simpa using h)
  have := a.toNat_lt
  exact ⟨z a (by omega), z b (by omega), z c (by omega), z d (by omega)⟩

end Go.Proofs.YtnbjaijhdjneoaaGreat.CrcMath

namespace Go.Proofs.YtnbjaijhdjneoaaGreat
open Go.RowKit CrcMath

theorem crc_bit (x : R) : (bits .and .u32 (x.toNat : Int) 1 == 1) = x.getLsbD 0 := by
  have hx := x.isLt
  have e : bits .and .u32 (x.toNat : Int) 1 = ((x.toNat &&& 1 : Nat) : Int) := u32_and_nat x.toNat 1 (by omega) (by omega)
  rw [e, Nat.and_one_is_mod, BitVec.getLsbD, Nat.testBit_zero, Bool.eq_iff_iff]
  simp
  omega
theorem crc_turn (x : R) (h : x.getLsbD 0 = true) : bits .xor .u32 ((x.toNat : Int) / 2) 3988292384 = ((stp x).toNat : Int) := by
  have hx := x.isLt
  have e1 : (x.toNat : Int) / 2 = ((x.toNat / 2 : Nat) : Int) := by omega
  have e : bits .xor .u32 ((x.toNat / 2 : Nat) : Int) ((3988292384 : Nat) : Int) = ((x.toNat / 2 ^^^ 3988292384 : Nat) : Int) := u32_xor_nat _ _ (by omega) (by omega)
  rw [e1]
  refine e.trans ?_
  rw [stp, if_pos h, BitVec.toNat_xor, BitVec.toNat_ushiftRight, Nat.shiftRight_eq_div_pow]
  rfl
theorem crc_shift (x : R) (h : x.getLsbD 0 = false) : (x.toNat : Int) / 2 = ((stp x).toNat : Int) := by
  rw [stp, if_neg (by rw [h]; decide), BitVec.toNat_ushiftRight, Nat.shiftRight_eq_div_pow]
  omega

theorem eight_any (r : R) (w : World) :
    Calls Tryz.prog 68 #[.int .u32 (r.toNat : Int)] w fun e w' => e = .returned (.int .u32 ((eight r).toNat : Int)) ∧ w = w' := by
  go_enter Tryz.func68, Tryz.ntmps68
  go_wp2
  go_loop [0, 3] (fun t i => ∃ k : Nat, k ≤ 8 ∧ i = .int .i64 k ∧ t = .int .u32 ((its k r).toNat : Int)) (fun _ i => 8 - (intOf i).toNat)
  case atStart => exact ⟨0, by omega, rfl, rfl⟩
  case round =>
    obtain ⟨k, hk, rfl, rfl⟩ := hrel
    generalize hx : its k r = x
    have HX := Lib.hid hx
    clear hx
    by_cases hlt : k < 8
    · have HT : Hid (its (k + 1) r = stp x) := Lib.hid (by rw [← HX.out]; rfl)
      have HB := Lib.hid (crc_bit x)
      go_wp2
      · have h : (bits BinOp.and IntKind.u32 (x.toNat : Int) 1 == 1) = true := by assumption
        go_round
        case rel => exact ⟨k + 1, by omega, by go_num, by rw [HT.out, crc_turn x (by rw [← HB.out]; exact h)]⟩
        case measure => simp [intOf]; omega
      · have h : (bits BinOp.and IntKind.u32 (x.toNat : Int) 1 == 1) = false := by assumption
        go_round
        case rel => exact ⟨k + 1, by omega, by go_num, by rw [HT.out, crc_shift x (by rw [← HB.out]; exact h)]⟩
        case measure => simp [intOf]; omega
    · have ek : k = 8 := by omega
      subst ek
      go_wp2
      go_ret
      exact ⟨ret_int (by rw [← HX.out]; rfl), rfl⟩

/-- The table of a summer lies in block b from the cell at o on. -/
def Tab (w : World) (b o : Nat) : Prop := ∀ j : Nat, j < 256 → w.cell? ⟨b, o + j, none⟩ = some (.int .u32 ((eight (BitVec.ofNat 32 j)).toNat : Int))

theorem Tab.below {w w' : World} {B b o : Nat} (h : Tab w b o) (hb : Below B w w') (hlt : b < B) : Tab w' b o :=
  fun j hj => (hb.cell (p := ⟨b, o + j, none⟩) hlt).trans (h j hj)

theorem bare_any (b o : Nat) (w : World) (h : Tab w b o) :
    Calls Tryz.prog 92 #[.pointer (some ⟨b, o, none⟩)] w fun e w' => e = .returned (.bool false) ∧ w = w' := by
  have h1 : w.cell? ⟨b, o + 1, none⟩ = some (.int .u32 1996959894) := h 1 (by omega)
  clear h
  go_enter Tryz.func92, Tryz.ntmps92
  go_wp2
  go_ret
  exact ⟨rfl, rfl⟩

theorem feed_index (x : R) (c : UInt8) : bits .xor .u8 (IntKind.u8.wrap (x.toNat : Int)) (c.toNat : Int) = (((x.toNat % 256) ^^^ c.toNat : Nat) : Int) := by
  have hc : c.toNat < 256 := c.toNat_lt
  have e : IntKind.u8.wrap (x.toNat : Int) = ((x.toNat % 256 : Nat) : Int) := by rw [IntKind.wrap_u8']; omega
  rw [e, u8_xor_nat _ _ (by omega) (by omega)]
theorem feed_step (x : R) (c : UInt8) (j : Nat) (hj : (x.toNat % 256) ^^^ c.toNat = j) : bits .xor .u32 ((x.toNat : Int) / 256) ((eight (BitVec.ofNat 32 j)).toNat : Int) = ((fd x c).toNat : Int) := by
  have hx := x.isLt
  have e : (x.toNat : Int) / 256 = ((x.toNat / 256 : Nat) : Int) := by omega
  rw [e, u32_xor_nat _ _ (by omega) (BitVec.isLt _), fd_table, hj, BitVec.toNat_xor, BitVec.toNat_ushiftRight, Nat.shiftRight_eq_div_pow]

theorem feed_any (b o : Nat) (r : R) (s : ByteArray) (w : World) (h : Tab w b o) (hlt0 : b < w.heap.size) (hs : s.size ≤ maxLen) :
    Calls Tryz.prog 93 #[.pointer (some ⟨b, o, none⟩), .int .u32 (r.toNat : Int), .string s] w fun e w' => e = .returned (.int .u32 ((reg r s.data.toList).toNat : Int)) ∧ Below w.heap.size w w' := by
  unfold maxLen at hs
  go_enter Tryz.func93, Tryz.ntmps93
  go_wp2
  go_loopw [1, 10] (fun t i wr => ∃ k : Nat, k ≤ s.size ∧ i = .int .i64 k ∧ t = .int .u32 ((reg r (s.data.toList.take k)).toNat : Int) ∧ Below w.heap.size w wr) (fun _ i _ => s.size - (intOf i).toNat)
  case atStart => exact ⟨0, by omega, rfl, rfl, Below.refl _ _⟩
  case round =>
    obtain ⟨k, hk, rfl, rfl, hbw⟩ := hrel
    by_cases hlt : k < s.size
    · generalize hx : reg r (s.data.toList.take k) = x
      have HX := Lib.hid hx
      clear hx
      have HT : Hid (reg r (s.data.toList.take (k + 1)) = fd x s[k]) := Lib.hid (by rw [bytes_take s k hlt, reg_snoc, HX.out])
      obtain ⟨j, hj⟩ : ∃ j, (x.toNat % 256) ^^^ s[k].toNat = j := ⟨_, rfl⟩
      have hc : s[k].toNat < 256 := s[k].toNat_lt
      have hj2 : j < 256 := by rw [← hj]; exact Nat.xor_lt_two_pow (n := 8) (by omega) (by omega)
      have hcell : wr.cell? ⟨b, o + j, none⟩ = some (.int .u32 ((eight (BitVec.ofNat 32 j)).toNat : Int)) := (hbw.cell (p := ⟨b, o + j, none⟩) hlt0).trans (h j hj2)
      have hidx := feed_index x s[k]
      rw [hj] at hidx
      have HS : Hid (_ = _) := Lib.hid (feed_step x s[k] j hj)
      clear hj hc
      have hj3 : (j : Int) < 256 := by omega
      have hj4 : 0 ≤ (j : Int) := by omega
      go_wp2
      go_quiet (fail)
      have hb2 : Below w.heap.size w (wr.drewN nq) := hbw.drewN _
      go_wp2
      go_roundw
      case rel => exact ⟨k + 1, by omega, by go_num, by rw [HT.out, ← HS.out], hb2⟩
      case measure => simp [intOf]; omega
    · go_wp2
      go_ret
      exact ⟨ret_int (by rw [List.take_of_length_le (by rw [size_list]; omega)]), hbw⟩

end Go.Proofs.YtnbjaijhdjneoaaGreat

namespace Go.Proofs.YtnbjaijhdjneoaaGreat
open Go.RowKit CrcMath

theorem zero_crc (u : World) : (zeroValue 107).run Tryz.prog u = .ok (.agg (Array.replicate 256 (.int .u32 0))) u := by kernel_rfl

/-- The first k words of the table in block b are filled. -/
def Part (w : World) (b k : Nat) : Prop :=
  ∃ cs : Array Value, w.heap[b]? = some (.cells cs 107 (0, 0)) ∧ cs.size = 256 ∧ ∀ j : Nat, j < k → cs[j]? = some (.int .u32 ((eight (BitVec.ofNat 32 j)).toNat : Int))

theorem Part.cell {w : World} {b k j : Nat} (h : Part w b k) (hj : j < 256) : ∃ u, w.cell? ⟨b, j, none⟩ = some u := by
  obtain ⟨cs, hh, hs, _⟩ := h
  refine ⟨cs[j]'(by omega), ?_⟩
  simp only [World.cell?, hh]
  simp [hs, hj]
theorem Part.frozen {w : World} {b k j : Nat} (h : Part w b k) : w.frozen? ⟨b, j, none⟩ = false := by
  obtain ⟨cs, hh, hs, _⟩ := h
  simp [World.frozen?, hh]
theorem Part.next {w : World} {b k : Nat} (h : Part w b k) (hk : k < 256) : Part (w.setCell ⟨b, k, none⟩ (.int .u32 ((eight (BitVec.ofNat 32 k)).toNat : Int))) b (k + 1) := by
  obtain ⟨cs, hh, hs, hc⟩ := h
  refine ⟨cs.setIfInBounds k (.int .u32 ((eight (BitVec.ofNat 32 k)).toNat : Int)), ?_, by simpa using hs, fun j hj => ?_⟩
  · simp only [World.setCell, Array.getElem?_modify, if_true, hh, Option.map_some]
    rfl
  · rw [Array.getElem?_setIfInBounds]
    by_cases e : k = j
    · subst e; rw [if_pos rfl, if_pos (by omega)]
    · rw [if_neg e]; exact hc j (by omega)
theorem Part.tab {w : World} {b : Nat} (h : Part w b 256) : Tab w b 0 := by
  obtain ⟨cs, hh, hs, hc⟩ := h
  intro j hj
  simp only [World.cell?, hh, Nat.zero_add]
  simpa using hc j hj
theorem Part.lt {w : World} {b k : Nat} (h : Part w b k) : b < w.heap.size := by
  obtain ⟨cs, hh, hs, hc⟩ := h
  exact (Array.getElem?_eq_some_iff.1 hh).1
theorem Part.drew {w : World} {b k : Nat} (h : Part w b k) : Part w.drew b k := h

set_option maxRecDepth 100000 in
theorem crc_fill_any (b : Nat) (w : World) (hp : Part w b 0) :
    Calls Tryz.prog 43 #[.pointer (some ⟨b, 0, none⟩)] w fun e w' => e = .returned (.tuple #[]) ∧ Part w' b 256 ∧ Below b w w' := by
  go_enter Tryz.func43, Tryz.ntmps43
  go_wp2
  go_loopw [3] (fun i wr => ∃ k : Nat, k ≤ 256 ∧ i = .int .i64 k ∧ Part wr b k ∧ Below b w wr) (fun i _ => 256 - (intOf i).toNat)
  case atStart => exact ⟨0, by omega, rfl, hp, Below.refl _ _⟩
  case round =>
    obtain ⟨k, hk, rfl, hpart, hbw⟩ := hrel
    by_cases hlt : k < 256
    · obtain ⟨u, hu⟩ := hpart.cell hlt
      have hf := hpart.frozen (j := k)
      have hpart2 := hpart.next hlt
      have hb2 : Below b w (wr.setCell ⟨b, k, none⟩ (.int .u32 ((eight (BitVec.ofNat 32 k)).toNat : Int))) := hbw.setCell (p := ⟨b, k, none⟩) (Nat.le_refl _) _
      obtain ⟨x, hx⟩ : ∃ x, x = BitVec.ofNat 32 k := ⟨_, rfl⟩
      rw [← hx] at hpart2 hb2
      have hw : IntKind.u32.wrap (k : Int) = (x.toNat : Int) := by
        rw [IntKind.wrap_u32', hx, BitVec.toNat_ofNat]
        omega
      have HX := Lib.hid hx
      clear hx
      have hk1 : (k : Int) < 256 := by omega
      have hk2 : 0 ≤ (k : Int) := by omega
      have HP := Lib.hid hpart2
      have HB := Lib.hid hb2
      clear hpart hbw hpart2 hb2
      go_wp2
      go_still_tail 7, (by kernel_rfl)
      still_call ((eight_any x _).mono fun e w' h => ⟨h.1, h.2.symm⟩)
      repeat still_step
      refine wpStill_nil ?_
      change wpList _ _ _ _ _ wr.drew
      go_wp2
      go_roundw
      case rel => exact ⟨k + 1, by omega, by go_num, HP.out.drew, HB.out.drew⟩
      case measure => simp [intOf]; omega
    · have ek : k = 256 := by omega
      subst ek
      go_wp2
      go_end0
      exact ⟨rfl, hpart, hbw⟩

/-- What New answers: a summer whose table is filled. -/
def crc_Made (w : World) (e : Ending) (w' : World) : Prop :=
  ∃ b, e = .returned (.pointer (some ⟨b, 0, none⟩)) ∧ b < w'.heap.size ∧ Tab w' b 0 ∧ Below w.heap.size w w'

theorem crc_new_any (w : World) : Calls Tryz.prog 19 #[] w (crc_Made w) := by
  obtain ⟨zs, hzs⟩ : ∃ zs, zs = Array.replicate 256 (Value.int .u32 0) := ⟨_, rfl⟩
  have hz := zero_crc
  rw [← hzs] at hz
  have hne : ¬ zs = #[] := by rw [hzs]; decide
  have HP : Hid (Part (w.alloc (.cells zs 107)) w.heap.size 0) := Lib.hid ⟨zs, by show (w.heap.push _)[w.heap.size]? = _; simp, by rw [hzs]; simp, fun j hj => by omega⟩
  have HZ := Lib.hid hzs
  clear hzs
  go_enter Tryz.func19, Tryz.ntmps19
  go_wp2_with (go_at_call 43; refine (crc_fill_any _ _ HP.out).mono ?_; rintro e w1 ⟨rfl, hp1, hb1⟩)
  go_ret
  exact ⟨_, rfl, hp1.lt, hp1.tab, ((Below.refl _ _).alloc (Nat.le_refl _) _).trans hb1⟩

end Go.Proofs.YtnbjaijhdjneoaaGreat

namespace Go.Proofs.YtnbjaijhdjneoaaGreat.NumMath

/-- The bytes of n, the highest first, in s bytes. -/
def be : Nat → Nat → List UInt8
  | 0, _ => []
  | s + 1, n => be s (n / 256) ++ [UInt8.ofNat (n % 256)]

/-- The number whose bytes these are. -/
def val (l : List UInt8) : Nat := l.foldl (fun a b => 256 * a + b.toNat) 0

theorem be_length (s n : Nat) : (be s n).length = s := by
  induction s generalizing n with
  | zero => rfl
  | succ s ih => simp [be, ih]

theorem val_snoc (l : List UInt8) (b : UInt8) : val (l ++ [b]) = 256 * val l + b.toNat := by simp [val]

theorem toNat_mod (n : Nat) : (UInt8.ofNat (n % 256)).toNat = n % 256 := by
  rw [UInt8.toNat_ofNat']; omega

theorem val_be (s n : Nat) (h : n < 256 ^ s) : val (be s n) = n := by
  induction s generalizing n with
  | zero => have : n = 0 := by simpa using h
            subst this; rfl
  | succ s ih =>
    rw [be, val_snoc, ih (n / 256) (by rw [Nat.pow_succ] at h; omega), toNat_mod]
    omega

theorem be_inj (s n m : Nat) (hn : n < 256 ^ s) (hm : m < 256 ^ s) (h : be s n = be s m) : n = m := by
  rw [← val_be s n hn, ← val_be s m hm, h]

/-- The lowest byte first: what is laid ahead of it has the higher ones. -/
theorem be_cons (s n : Nat) : be (s + 1) n = UInt8.ofNat (n / 256 ^ s % 256) :: be s n := by
  induction s generalizing n with
  | zero => simp [be]
  | succ s ih =>
    rw [be, ih (n / 256), be, List.cons_append]
    congr 2
    rw [Nat.div_div_eq_div_mul, Nat.pow_succ, Nat.mul_comm]

end Go.Proofs.YtnbjaijhdjneoaaGreat.NumMath
