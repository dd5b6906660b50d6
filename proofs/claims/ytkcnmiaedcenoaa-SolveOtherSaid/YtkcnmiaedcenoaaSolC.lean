/- The contract of solve's erase. -/
import Derived.Test.YtkcnmiaedcenoaaSolB
namespace Go.Proofs.Ytkcnmiaedcenoaa
open Go.RowKit GfMath PolyMath RsMath SolMath
set_option linter.unusedVariables false
set_option maxRecDepth 100000

theorem setG_snoc (G : List Bool) (l : List Int) (k : Nat) (h : k < l.length) : setG G (l.take (k + 1)) = (setG G (l.take k)).set l[k].toNat true := by
  rw [take_snoc l k h, setG, List.foldl_append]; rfl
theorem inB_false {n : Nat} {l : List Int} (k : Nat) (h : k < l.length) (hb : l[k] < 0 ∨ (n : Int) ≤ l[k]) : inB n l = false := by
  unfold inB
  rw [List.all_eq_false]
  refine ⟨l[k], List.getElem_mem h, ?_⟩
  simp
  omega
theorem inB_true {n : Nat} {l : List Int} (h : ∀ k (hk : k < l.length), 0 ≤ l[k] ∧ l[k] < (n : Int)) : inB n l = true := by
  unfold inB
  rw [List.all_eq_true]
  intro x hx
  obtain ⟨k, hk, rfl⟩ := List.mem_iff_getElem.1 hx
  simp [h k hk]

theorem Sol.putG {w : World} {s b n p g : Nat} {G : List Bool} {lost : Nat} {V E T : Value} (h : Sol w s b n p g G lost V E T) (hb : b ≠ g) (i : Nat) : Sol (w.setCell ⟨g, i, none⟩ (.bool true)) s b n p g (G.set i true) lost V E T :=
  ⟨h.row.far _ _ (fun e => h.ne e.symm), by have := h.gone.set i (.bool true); rwa [bools_set] at this, h.fld.far _ _ hb, h.ne, by rw [List.length_set]; exact h.len, h.slV, h.slE, h.slT⟩
theorem Sol.putLost {w : World} {s b n p g : Nat} {G : List Bool} {lost : Nat} {V E T : Value} (h : Sol w s b n p g G lost V E T) (hb : b ≠ s) (m : Nat) : Sol (w.setCell ⟨s, 4, none⟩ (.int .i64 (m : Int))) s b n p g G m V E T :=
  ⟨h.row.set 4 _, h.gone.far _ _ h.ne, h.fld.far _ _ hb, h.ne, h.len, h.slV, h.slE, h.slT⟩

set_option maxHeartbeats 1000000 in
theorem erase_any (B s b n p g : Nat) (G : List Bool) (V E T : Value) (a : Option Addr) (cap : Nat) (l : List Int) (w : World) (h : Sol w s b n p g G (cnt G) V E T) (hn : n ≤ 255) (hl : l.length ≤ 1000) (hr : Lies w B a (ints l))
    (hB : b < B) (hBs : B ≤ s) (hBg : B ≤ g) :
    Calls Try.prog 28 #[.pointer (some ⟨s, 0, none⟩), .slice a l.length cap] w fun e w' => e = .returned (.bool (inB n l)) ∧ (inB n l = true → Sol w' s b n p g (setG G l) (cnt (setG G l)) V E T) ∧ Below B w w' := by
  have H0 := Lib.hid h
  have HR := Lib.hid hr
  have hli : (l.length : Int) ≤ 1000 := by omega
  have hnb : (n : Int) ≤ 255 := by omega
  have HBB : Hid (b ≠ g ∧ b ≠ s) := Lib.hid ⟨by omega, by omega⟩
  have HBS : Hid (B ≤ s) := Lib.hid hBs
  have HBG : Hid (B ≤ g) := Lib.hid hBg
  clear h hr hB hBs hBg
  go_enter Try.func28, Try.ntmps28
  go_wp2
  go_loopw [9] (fun i wr => ∃ k : Nat, k ≤ l.length ∧ i = .int .i64 k ∧ (∀ j (hj : j < k) (hj2 : j < l.length), 0 ≤ l[j] ∧ l[j] < (n : Int)) ∧ Sol wr s b n p g (setG G (l.take k)) (cnt (setG G (l.take k))) V E T ∧ Below B w wr) (fun i _ => l.length - (intOf i).toNat)
  case atStart => exact ⟨0, Nat.zero_le _, rfl, fun j hj => absurd hj (by omega), H0.out, Below.refl _ _⟩
  case round =>
    clear H0
    obtain ⟨k, hk, rfl, hin, hsol, hbw⟩ := hrel
    have HSOL := Lib.hid hsol
    have HBW := Lib.hid hbw
    by_cases hlt : k < l.length
    · obtain ⟨bb, off, rfl, hbb, hcl⟩ := HR.out (by rw [ints_length]; omega)
      have hc : wr.cell? ⟨bb, off + k, none⟩ = some (.int .i64 l[k]) := by
        rw [hbw.cell (p := ⟨bb, off + k, none⟩) hbb]
        exact hcl k _ (ints_get l k hlt)
      have hki : (k : Int) < (l.length : Int) := by omega
      have c1 := hsol.c1
      have c3 := hsol.c3
      have c4 := hsol.c4
      have HIN := Lib.hid hin
      have HX : Hid (∀ x, x = l[k] → x < 0 ∨ (n : Int) ≤ x → inB n l = false) := Lib.hid fun x e hx => inB_false k hlt (e ▸ hx)
      have HS : Hid (setG G (l.take (k + 1)) = (setG G (l.take k)).set l[k].toNat true) := Lib.hid (setG_snoc G l k hlt)
      have HIN2 : Hid (∀ x, x = l[k] → 0 ≤ x → x < (n : Int) → ∀ j (hj : j < k + 1) (hj2 : j < l.length), 0 ≤ l[j] ∧ l[j] < (n : Int)) := Lib.hid fun x e h0 h1 j hj hj2 => by
        by_cases ej : j = k
        · subst ej; exact ⟨e ▸ h0, e ▸ h1⟩
        · exact hin j (by omega) hj2
      have hle := cnt_le (setG G (l.take k))
      rw [hsol.len] at hle
      obtain ⟨x, hx⟩ : ∃ x, x = l[k] := ⟨_, rfl⟩
      rw [← hx] at hc HS
      have HXX := HX.out x hx
      have HIN3 := HIN2.out x hx
      have HX2 := Lib.hid HXX
      have HIN4 := Lib.hid HIN3
      clear hcl hin hsol hbw HIN HX HIN2 HXX HIN3 hx
      by_cases hx0 : x < 0
      · have HF : Hid (inB n l = false) := Lib.hid (HX2.out (Or.inl hx0))
        clear hle
        go_wp2
        go_ret
        exact ⟨ret_bool HF.out.symm, (fun e => by rw [HF.out] at e; cases e), HBW.out⟩
      · by_cases hxn : (n : Int) ≤ x
        · have HF : Hid (inB n l = false) := Lib.hid (HX2.out (Or.inr hxn))
          have hx0' : 0 ≤ x := by omega
          clear hle
          go_wp2
          go_ret
          exact ⟨ret_bool HF.out.symm, (fun e => by rw [HF.out] at e; cases e), HBW.out⟩
        · obtain ⟨y, rfl⟩ : ∃ y : Nat, x = y := ⟨x.toNat, by omega⟩
          have hyn : y < n := by omega
          have hgl : Hid ((setG G (l.take k)).length = n) := Lib.hid HSOL.out.len
          have hgc := HSOL.out.gc y hyn
          have hfg := HSOL.out.gone.frozen y
          have hfs := HSOL.out.row.frozen 4
          have HIN5 : Hid (∀ j (hj : j < k + 1) (hj2 : j < l.length), 0 ≤ l[j] ∧ l[j] < (n : Int)) := Lib.hid (HIN4.out (by omega) (by omega))
          obtain ⟨Gk, hGk⟩ : ∃ Gk, setG G (l.take k) = Gk := ⟨_, rfl⟩
          rw [hGk] at hle hgc HSOL c4 HS hgl
          have hyt : ((y : Int)).toNat = y := Int.toNat_natCast y
          rw [hyt] at HS
          have hy0 : 0 ≤ (y : Int) := by omega
          have hyi : (y : Int) < (n : Int) := by omega
          clear hGk HIN4 HX2 hx0 hxn hyt
          cases hg : gAt Gk y with
          | true =>
            have HSE : Hid (Gk.set y true = Gk) := Lib.hid (set_self hg)
            rw [hg] at hgc
            clear hg hfg hfs hle
            go_wp2
            go_roundw
            case rel => exact ⟨k + 1, by omega, by go_num, HIN5.out, by rw [HS.out, HSE.out]; exact HSOL.out, HBW.out⟩
            case measure => simp [intOf]; omega
          | false =>
            have HCN : Hid (cnt (Gk.set y true) = cnt Gk + 1) := Lib.hid (cnt_set (by rw [hgl.out]; exact hyn) hg)
            rw [hg] at hgc
            obtain ⟨c, hc0⟩ : ∃ c, cnt Gk = c := ⟨_, rfl⟩
            rw [hc0] at HCN HSOL hle c4
            have hcb : (c : Int) ≤ 255 := by omega
            have hc00 : 0 ≤ (c : Int) := by omega
            have HNE : Hid (g ≠ s) := Lib.hid HSOL.out.ne
            have hne : ¬ g = s := HNE.out
            have hne2 : ¬ s = g := fun e => HNE.out e.symm
            clear hg hc0 hle
            go_wp2
            go_roundw
            case rel =>
              refine ⟨k + 1, by omega, by go_num, HIN5.out, ?_, ?_⟩
              · rw [HS.out, HCN.out]
                exact (HSOL.out.putG HBB.out.1 y).putLost HBB.out.2 (c + 1)
              · exact (HBW.out.setCell (p := ⟨g, y, none⟩) HBG.out _).setCell (p := ⟨s, 4, none⟩) HBS.out _
            case measure => simp [intOf]; omega
    · have ek : k = l.length := by omega
      subst ek
      have HT : Hid (inB n l = true) := Lib.hid (inB_true fun j hj => hin j hj hj)
      have e1 : l.take l.length = l := List.take_length
      rw [e1] at HSOL
      clear hin hsol hbw e1
      go_wp2
      go_ret
      exact ⟨ret_bool HT.out.symm, fun _ => HSOL.out, HBW.out⟩

end Go.Proofs.Ytkcnmiaedcenoaa
