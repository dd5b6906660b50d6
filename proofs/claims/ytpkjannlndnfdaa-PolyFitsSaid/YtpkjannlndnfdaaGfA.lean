/- Contracts of gf's next, fill, New. -/
import Derived.Test.YtpkjannlndnfdaaRow
import Derived.Test.YtpkjannlndnfdaaGfMath
import Derived.StillTailTactics
import Derived.BigRegion
import Derived.RegionTactic
import Derived.Laws.BitsAllLaws
namespace Go.Proofs.Ytpkjannlndnfdaa
open Go.RowKit GfMath

/-- Bytes, as numbers, in cells. -/
def u8s (l : List Nat) : List Value := l.map fun x : Nat => .int .u8 (x : Int)
theorem u8s_length (l : List Nat) : (u8s l).length = l.length := by simp [u8s]
theorem u8s_get (l : List Nat) (j : Nat) (h : j < l.length) : (u8s l)[j]? = some (.int .u8 (l[j] : Int)) := by simp [u8s, h]
theorem u8s_set (l : List Nat) (j : Nat) (x : Nat) : (u8s l).set j (.int .u8 (x : Int)) = u8s (l.set j x) := by simp [u8s, List.map_set]
theorem u8s_append (l m : List Nat) : u8s (l ++ m) = u8s l ++ u8s m := by simp [u8s]
theorem u8s_one (l : List Nat) : (u8s l).all (·.oneCell') = true := by simp [u8s, Value.oneCell']

theorem next_any (p : Nat) (w : World) (hp : p < 256) :
    Calls Try.prog 26 #[.int .u8 (p : Int)] w fun e w' => e = .returned (.int .u8 (xt p : Int)) ∧ w = w' := by
  have ha : bits .and .u8 (p : Int) 128 = ((p &&& 128 : Nat) : Int) := u8_and_nat p 128 hp (by omega)
  have hx : xt p = if p &&& 128 = 0 then p * 2 % 256 else (p * 2 % 256) ^^^ 29 := rfl
  by_cases h0 : p &&& 128 = 0
  · rw [if_pos h0] at hx
    have hb : ((p &&& 128 : Nat) : Int) = 0 := by omega
    rw [hb] at ha
    have HX := Lib.hid hx
    clear hx hb
    go_enter Try.func26, Try.ntmps26
    go_wp2
    go_ret
    exact ⟨by rw [HX.out]; simp, rfl⟩
  · rw [if_neg h0] at hx
    obtain ⟨y, hy⟩ : ∃ y : Nat, (p &&& 128) = y := ⟨_, rfl⟩
    rw [hy] at ha h0
    have hb : ¬ (y : Int) = 0 := by omega
    have hz : bits .xor .u8 ((p : Int) * 2 % 256) 29 = (((p * 2 % 256) ^^^ 29 : Nat) : Int) := by
      have := u8_xor_nat (p * 2 % 256) 29 (Nat.mod_lt _ (by omega)) (by omega)
      simpa using this
    have HX := Lib.hid hx
    have HZ := Lib.hid hz
    clear hx hz
    go_enter Try.func26, Try.ntmps26
    go_wp2
    go_ret
    exact ⟨by rw [HX.out]; exact ret_int HZ.out, rfl⟩

/-- The tables, n powers of which are written. -/
def Pws (P : List Nat) (n : Nat) : Prop := P.length = 510 ∧ ∀ i, i < n → P[i]? = some (ex i) ∧ P[i + 255]? = some (ex i)
theorem Pws.next {P : List Nat} {n : Nat} (h : Pws P n) (hn : n < 255) : Pws ((P.set n (ex n)).set (n + 255) (ex n)) (n + 1) := by
  obtain ⟨hl, hp⟩ := h
  refine ⟨by simp [hl], fun i hi => ?_⟩
  rw [List.getElem?_set, List.getElem?_set, List.getElem?_set, List.getElem?_set]
  by_cases e : i = n
  · subst e
    simp [hl]
    omega
  · have h1 := hp i (by omega)
    rw [if_neg (by omega), if_neg (by omega), if_neg (by omega), if_neg (by omega)]
    exact h1

theorem set_comm_of {α : Type} (l : List α) (i j : Nat) (a b : α) (h : i ≠ j) : (l.set i a).set j b = (l.set j b).set i a := List.set_comm _ _ h

set_option maxHeartbeats 1000000 in
theorem fill_any (b : Nat) (P0 : List Nat) (w : World) (hP : P0.length = 510) (hr : Row w b 42 (u8s P0 ++ u8s (lgs 0))) :
    Calls Try.prog 14 #[.pointer (some ⟨b, 0, none⟩)] w fun e w' => e = .returned (.tuple #[]) ∧ (∃ P, Pws P 255 ∧ Row w' b 42 (u8s P ++ u8s (lgs 255))) ∧ Only b w w' := by
  have HR := Lib.hid hr
  clear hr
  go_enter Try.func14, Try.ntmps14
  go_wp2
  go_loopw [2, 4] (fun p i wr => ∃ n : Nat, n ≤ 255 ∧ i = .int .i64 n ∧ p = .int .u8 (ex n : Int) ∧ (∃ P, Pws P n ∧ Row wr b 42 (u8s P ++ u8s (lgs n))) ∧ Only b w wr) (fun _ i _ => 255 - (intOf i).toNat)
  case atStart => exact ⟨0, by omega, rfl, rfl, ⟨P0, ⟨hP, fun i hi => absurd hi (by omega)⟩, HR.out⟩, Only.refl _ _⟩
  case round =>
    clear HR hP
    obtain ⟨n, hn, rfl, rfl, ⟨P, hPn, hrow⟩, ho⟩ := hrel
    by_cases hlt : n < 255
    · have hPl := hPn.1
      have hp := ex_lt n
      have hst : ex (n + 1) = xt (ex n) := rfl
      have hls : lgs (n + 1) = (lgs n).set (ex n) n := rfl
      have hln := lgs_length n
      obtain ⟨x, hx⟩ : ∃ x, ex n = x := ⟨_, rfl⟩
      have hPx := hPn.next hlt
      rw [hx] at hPx hp hst hls
      obtain ⟨L, hL⟩ : ∃ L, lgs n = L := ⟨_, rfl⟩
      rw [hL] at hln hls hrow
      obtain ⟨u1, hu1⟩ : ∃ u, wr.cell? ⟨b, n, none⟩ = some u := ⟨_, by rw [hrow.cell, List.getElem?_append_left (by rw [u8s_length]; omega), u8s_get _ _ (by omega)]⟩
      obtain ⟨u2, hu2⟩ : ∃ u, wr.cell? ⟨b, n + 255, none⟩ = some u := ⟨_, by rw [hrow.cell, List.getElem?_append_left (by rw [u8s_length]; omega), u8s_get _ _ (by omega)]⟩
      have hf1 := hrow.frozen n
      have hf2 := hrow.frozen (n + 255)
      rw [hx]
      have H1 := Lib.hid hPx
      have H2 := Lib.hid hst
      have H3 := Lib.hid hls
      have H4 := Lib.hid hln
      have HR := Lib.hid hrow
      have HO := Lib.hid ho
      have HPL := Lib.hid hPl
      have hn1 : (n : Int) < 255 := by omega
      have hn0 : 0 ≤ (n : Int) := by omega
      have hn5 : (n : Int) < 510 := by omega
      have hn6 : (n : Int) + 255 < 510 := by omega
      clear hPx hst hls hln hrow ho hPn hL hx hPl
      go_wp2
      go_region
      have R2 : Hid (Row (((wr.setCell ⟨b, n, none⟩ (.int .u8 (x : Int))).setCell ⟨b, n + 255, none⟩ (.int .u8 (x : Int))).drew) b 42 (u8s ((P.set n x).set (n + 255) x) ++ u8s L)) := Lib.hid (by
        have h := (HR.out.set n (.int .u8 (x : Int))).set (n + 255) (.int .u8 (x : Int))
        rw [List.set_append_left _ _ (by rw [u8s_length, HPL.out]; omega), u8s_set, List.set_append_left _ _ (by rw [u8s_length, List.length_set, HPL.out]; omega), u8s_set] at h
        exact h.drew)
      have O2 : Hid (Only b w (((wr.setCell ⟨b, n, none⟩ (.int .u8 (x : Int))).setCell ⟨b, n + 255, none⟩ (.int .u8 (x : Int))).drew)) := Lib.hid ((HO.out.setCell ⟨b, n, none⟩ _ (Or.inl rfl)).setCell ⟨b, n + 255, none⟩ _ (Or.inl rfl)).drew
      generalize ((wr.setCell ⟨b, n, none⟩ (.int .u8 (x : Int))).setCell ⟨b, n + 255, none⟩ (.int .u8 (x : Int))).drew = W2 at *
      clear hu1 hu2 hf1 hf2 HR HO
      have hl2 : ((P.set n x).set (n + 255) x).length = 510 := by rw [List.length_set, List.length_set, HPL.out]
      have e5 : (Int.toNat (x : Int)) = x := rfl
      obtain ⟨u3, hu3⟩ : ∃ u, W2.cell? ⟨b, 510 + x, none⟩ = some u := ⟨_, by rw [R2.out.cell, List.getElem?_append_right (by rw [u8s_length, hl2]; omega), u8s_length, hl2, u8s_get _ _ (by rw [H4.out]; omega)]⟩
      have hf3 := R2.out.frozen (510 + x)
      have hx8 : (x : Int) < 256 := by omega
      have hx0 : 0 ≤ (x : Int) := by omega
      have HL2 := Lib.hid hl2
      clear hl2 e5
      go_wp2_with (go_at_call 26; refine (next_any x _ hp).mono ?_; rintro e w1 ⟨rfl, rfl⟩)
      case roundEnd =>
        have R3 := R2.out.set (510 + x) (.int .u8 (n : Int))
        have hl2 := HL2.out
        rw [List.set_append_right _ _ (by rw [u8s_length, hl2]; omega), u8s_length, hl2, show 510 + x - 510 = x by omega, u8s_set] at R3
        exact ⟨⟨n + 1, by omega, by go_num, by rw [H2.out], ⟨_, H1.out, by rw [H3.out]; exact R3⟩, O2.out.setCell ⟨b, 510 + x, none⟩ _ (Or.inl rfl)⟩, by simp [intOf]; omega⟩
    · have ek : n = 255 := by omega
      subst ek
      have HR := Lib.hid hrow
      have HO := Lib.hid ho
      have HP := Lib.hid hPn
      clear hrow ho hPn
      go_wp2
      go_end0
      exact ⟨rfl, ⟨P, HP.out, HR.out⟩, HO.out⟩

/-- A field that New made. -/
def Fld (w : World) (b : Nat) : Prop := ∃ P, Pws P 255 ∧ Row w b 42 (u8s P ++ u8s (lgs 255))
theorem Fld.lt {w : World} {b : Nat} (h : Fld w b) : b < w.heap.size := by
  obtain ⟨P, _, hr⟩ := h
  exact hr.lt
theorem Fld.pw {w : World} {b i : Nat} (h : Fld w b) (hi : i < 510) : w.cell? ⟨b, i, none⟩ = some (.int .u8 (ex i : Int)) := by
  obtain ⟨P, ⟨hl, hp⟩, hr⟩ := h
  have hg : P[i]? = some (ex i) := by
    by_cases h5 : i < 255
    · exact (hp i h5).1
    · have h2 := (hp (i - 255) (by omega)).2
      rw [show i - 255 + 255 = i by omega] at h2
      rw [h2, ex_eq (m := i - 255) (n := i) (by omega)]
  rw [hr.cell, List.getElem?_append_left (by rw [u8s_length]; omega), u8s, List.getElem?_map, hg]
  rfl
theorem Fld.lg {w : World} {b a : Nat} (h : Fld w b) (ha : a < 256) : w.cell? ⟨b, 510 + a, none⟩ = some (.int .u8 (lg a : Int)) := by
  obtain ⟨P, ⟨hl, hp⟩, hr⟩ := h
  rw [hr.cell, List.getElem?_append_right (by rw [u8s_length]; omega), u8s_length, hl, show 510 + a - 510 = a by omega, u8s, List.getElem?_map, lgs_get a ha]
  rfl
theorem Fld.below {w w' : World} {B b : Nat} (h : Fld w b) (hb : Below B w w') (hB : b < B) : Fld w' b := by
  obtain ⟨P, hp, hr⟩ := h
  exact ⟨P, hp, hr.below hb hB⟩
theorem Fld.step {w w' : World} {b : Nat} (h : Fld w b) (hb : Below w.heap.size w w') : Fld w' b := h.below hb h.lt
theorem Fld.only {w w' : World} {b g : Nat} (h : Fld w b) (ho : Only g w w') (hne : b ≠ g) : Fld w' b := by
  obtain ⟨P, hp, hr⟩ := h
  exact ⟨P, hp, hr.only ho hne⟩

def fld0 : List Value := u8s (List.replicate 510 0) ++ u8s (lgs 0)
theorem built_fld : Try.prog.built 42 [] = some fld0.toArray := by kernel_rfl

theorem gfNew_any (w : World) :
    Calls Try.prog 6 #[] w fun e w' => e = .returned (.pointer (some ⟨w.heap.size, 0, none⟩)) ∧ Fld w' w.heap.size ∧ Below w.heap.size w w' := by
  obtain ⟨D, hD⟩ : ∃ D, D = fld0 := ⟨_, rfl⟩
  have HB : Hid (Try.prog.built 42 [] = some D.toArray) := Lib.hid (by rw [hD]; exact built_fld)
  have HD := Lib.hid hD
  clear hD
  go_enter Try.func6, Try.ntmps6
  go_wp2_with (first
    | ((with_reducible refine wpBuildZeroK D 42 HB.out ?_ ?_); rfl)
    | ((with_reducible refine wpBoxK D 42 ?_ ?_); rfl; intro u0 r0 b0 s0; have R0 := Lib.hid r0; have B0 := Lib.hid b0; have S0 := Lib.hid s0; clear r0 b0 s0)
    | (go_at_call 14; refine (fill_any _ (List.replicate 510 0) _ List.length_replicate (by have := R0.out; rw [HD.out] at this; exact this)).mono ?_; rintro e u1 ⟨rfl, f1, o1⟩; have F1 := Lib.hid f1; have O1 := Lib.hid o1; clear f1 o1))
  go_ret
  exact ⟨rfl, F1.out, B0.out.trans (O1.out.below (Nat.le_refl _) B0.out.size)⟩

theorem filled_any (b : Nat) (w : World) (hf : Fld w b) :
    Calls Try.prog 30 #[.pointer (some ⟨b, 0, none⟩)] w fun e w' => e = .returned (.pointer (some ⟨b, 0, none⟩)) ∧ w = w' := by
  have hc := hf.pw (i := 0) (by omega)
  have h1 : ex 0 = 1 := rfl
  rw [h1] at hc
  clear hf h1
  go_enter Try.func30, Try.ntmps30
  go_wp2
  go_ret
  exact ⟨rfl, rfl⟩

set_option maxRecDepth 100000 in
theorem times_any (b x y : Nat) (w : World) (hf : Fld w b) (hx : x < 256) (hy : y < 256) :
    Calls Try.prog 31 #[.pointer (some ⟨b, 0, none⟩), .int .u8 (x : Int), .int .u8 (y : Int)] w fun e w' => e = .returned (.int .u8 (gm x y : Int)) ∧ Below w.heap.size w w' := by
  by_cases hx0 : x = 0
  · have hi : (x : Int) = 0 := by omega
    have hg : gm x y = 0 := by rw [hx0, gm_zero_left]
    have HG := Lib.hid hg
    clear hg hx0
    go_enter Try.func31, Try.ntmps31
    go_wp2
    go_ret
    exact ⟨by rw [HG.out]; rfl, Below.refl _ _⟩
  · by_cases hy0 : y = 0
    · have hi : (y : Int) = 0 := by omega
      have hi2 : ¬ (x : Int) = 0 := by omega
      have hg : gm x y = 0 := by rw [hy0, gm_zero_right]
      have HG := Lib.hid hg
      clear hg hx0 hy0
      go_enter Try.func31, Try.ntmps31
      go_wp2
      go_ret
      exact ⟨by rw [HG.out]; rfl, Below.refl _ _⟩
    · have hi : ¬ (y : Int) = 0 := by omega
      have hi2 : ¬ (x : Int) = 0 := by omega
      have hg := gm_logs hx hy hx0 hy0
      have hlx := lg_lt x
      have hly := lg_lt y
      have c1 := hf.lg hx
      have c2 := hf.lg hy
      obtain ⟨p, hp⟩ : ∃ p, lg x = p := ⟨_, rfl⟩
      obtain ⟨q, hq⟩ : ∃ q, lg y = q := ⟨_, rfl⟩
      rw [hp] at hlx c1 hg
      rw [hq] at hly c2 hg
      have c3 := hf.pw (i := p + q) (by omega)
      have HG := Lib.hid hg
      have hxb : (x : Int) < 256 := by omega
      have hyb : (y : Int) < 256 := by omega
      have hxn : 0 ≤ (x : Int) := by omega
      have hyn : 0 ≤ (y : Int) := by omega
      have hb1 : (p : Int) + q < 510 := by omega
      have hb2 : 0 ≤ (p : Int) + q := by omega
      have hb3 : (p : Int) < 255 := by omega
      have hb4 : (q : Int) < 255 := by omega
      clear hg hf hp hq hx0 hy0
      go_enter Try.func31, Try.ntmps31
      go_wp2
      · exfalso
        rename_i h
        rcases h with h | h <;> (simp at h; omega)
      · go_quiet (fail)
        go_wp2
        go_ret
        exact ⟨by rw [HG.out]; rfl, (Below.refl _ _).drewN _⟩

end Go.Proofs.Ytpkjannlndnfdaa
