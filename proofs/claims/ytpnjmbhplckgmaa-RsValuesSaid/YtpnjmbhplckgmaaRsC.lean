/- The contract of rs's New. -/
import Derived.Test.YtpnjmbhplckgmaaRsB
namespace Go.Proofs.Ytpnjmbhplckgmaa
open Go.RowKit GfMath PolyMath RsMath
set_option linter.unusedVariables false

theorem size_bytes1 : (Try.prog.info? 22).map (·.size) = some 1 := by kernel_rfl

theorem Lies.onlyNe {w w' : World} {g : Nat} {a : Option Addr} {xs : List Value} (h : Lies w w.heap.size a xs) (ho : Only g w w') (hne : ∀ x, a = some x → 0 < xs.length → x.block ≠ g) : Lies w' w'.heap.size a xs := by
  intro hx
  obtain ⟨b, off, e, hlt, hc⟩ := h hx
  have hb : b ≠ g := hne _ e hx
  refine ⟨b, off, e, Nat.lt_of_lt_of_le hlt ho.size, fun j u hu => ?_⟩
  have := hc j u hu
  simp only [World.cell?] at this ⊢
  rw [ho.2.2.2.2 b hlt hb]
  exact this
/-- Bytes don't lie in a code. -/
theorem Lies.noCode {w : World} {c b n k : Nat} {v : Value} {a : Option Addr} {l : List Nat} (h : Lies w w.heap.size a (u8s l)) (hr : Row w c 44 (codeL b n k v)) (hv : ∀ x : Nat, v ≠ .int .u8 (x : Int)) : ∀ x, a = some x → 0 < (u8s l).length → x.block ≠ c := by
  intro x hx h0 he
  obtain ⟨b2, off, e, hlt, hc⟩ := h h0
  rw [hx] at e
  cases e
  have h1 := hc 0 _ (u8s_get l 0 (by rw [u8s_length] at h0; exact h0))
  rw [show b2 = c from he, hr.cell] at h1
  simp only [Nat.add_zero, codeL] at h1
  match off, h1 with
  | 0, h1 => simp at h1
  | 1, h1 => simp at h1
  | 2, h1 => simp at h1
  | 3, h1 => simp at h1; exact hv _ h1
  | _ + 4, h1 => simp at h1

set_option maxRecDepth 100000 in
set_option maxHeartbeats 1000000 in
theorem rsNew_any (b k p : Nat) (w : World) (hf : Fld w b) (hk : 1 ≤ k) (hp : 1 ≤ p) (hn : k + p ≤ 255) (hp64 : p ≤ 64) :
    Calls Try.prog 9 #[.pointer (some ⟨b, 0, none⟩), .int .i64 ((k + p : Nat) : Int), .int .i64 (k : Int)] w fun e w' =>
      (∃ c, e = .returned (.tuple #[.pointer (some ⟨c, 0, none⟩), .int .i64 0]) ∧ Cod w' c b k p) ∧ Below w.heap.size w w' := by
  have HF := Lib.hid hf
  have HK : Hid (1 ≤ k) := Lib.hid hk
  have HP : Hid (1 ≤ p) := Lib.hid hp
  have HN : Hid (k + p ≤ 255) := Lib.hid hn
  obtain ⟨n, hnn⟩ : ∃ n, k + p = n := ⟨_, rfl⟩
  have HNN : Hid (k + p = n) := Lib.hid hnn
  have h1 : ¬ (k : Int) < 1 := by omega
  have h2 : ¬ (n : Int) ≤ (k : Int) := by omega
  have h2b : (k : Int) < (n : Int) := by omega
  have h3 : ¬ (n : Int) > 255 := by omega
  have h4 : (n : Int) - (k : Int) = (p : Int) := by omega
  have h5 : ¬ (p : Int) > 64 := by omega
  have hkb : (k : Int) ≤ 255 := by omega
  rw [hnn] at hn ⊢
  have HEA : Hid (∀ (u : World) (c : Nat), Row u c 44 (codeL b n k (.slice none 0 0)) → Fld u b → Calls Try.prog 22 #[.pointer (some ⟨c, 0, none⟩), .func (.func 23) #[] #[]] u fun e w' => (∃ g, e = .returned (.slice (some ⟨g, 0, none⟩) p p) ∧ u.heap.size ≤ g ∧ Row w' g 5 (u8s (exs p))) ∧ Below u.heap.size u w') := Lib.hid fun u c h1 h2 => each_id c b k p _ u (by rw [← HNN.out] at h1; exact ⟨h1, h2⟩) HN.out
  have HRO : Hid (∀ (u : World) (g : Nat), Row u g 5 (u8s (exs p)) → Fld u b → Calls Try.prog 21 #[.pointer (some ⟨b, 0, none⟩), .slice (some ⟨g, 0, none⟩) p p] u fun e w' => (∃ a cap, e = .returned (.slice a (p + 1) cap) ∧ p + 1 ≤ cap ∧ Lies w' w'.heap.size a (u8s (rt (exs p)))) ∧ Below u.heap.size u w') := Lib.hid fun u g h1 h2 => by
    have h := roots_any b (some ⟨g, 0, none⟩) p (exs p) u h2 (exs_by p) (by rw [exs_length]; omega) (row_lies h1)
    rw [exs_length] at h
    refine h.mono fun e w' ⟨⟨v, h3, a, cap, h4, h5, h6⟩, h7⟩ => ?_
    have hl := (rt_all (exs p) (exs_by p)).2.1
    rw [exs_length] at hl
    rw [hl] at h4 h5
    exact ⟨⟨a, cap, by rw [h3, h4], h5, h6⟩, h7⟩
  have HB1 := Lib.hid size_bytes1
  obtain ⟨w1, hw1⟩ : ∃ w1, w1 = w.alloc (.cells #[.pointer (some ⟨b, 0, none⟩), .int .i64 (n : Int), .int .i64 (k : Int), .slice none 0 0] 44) := ⟨_, rfl⟩
  have R0 : Hid (Row w1 w.heap.size 44 (codeL b n k (.slice none 0 0))) := Lib.hid (by rw [hw1]; exact Row.new w _ _)
  have B0 : Hid (Below w.heap.size w w1) := Lib.hid (by rw [hw1]; exact alloc_below _ _)
  have HEW : Hid (Calls Try.prog 22 #[.pointer (some ⟨w.heap.size, 0, none⟩), .func (.func 23) #[] #[]] (w.alloc (.cells #[.pointer (some ⟨b, 0, none⟩), .int .i64 (n : Int), .int .i64 (k : Int), .slice none 0 0] 44)) fun e w' => (∃ g, e = .returned (.slice (some ⟨g, 0, none⟩) p p) ∧ w.heap.size < g ∧ Row w' g 5 (u8s (exs p)) ∧ Row w' w.heap.size 44 (codeL b n k (.slice none 0 0)) ∧ Fld w' b) ∧ Below w.heap.size w w') := Lib.hid (by
    rw [← hw1]
    refine (HEA.out w1 w.heap.size R0.out (HF.out.step B0.out)).mono fun e w' ⟨⟨g, h1, h2, h3⟩, h4⟩ => ⟨⟨g, h1, ?_, h3, R0.out.step h4, (HF.out.step B0.out).step h4⟩, B0.out.next h4⟩
    have := R0.out.lt
    omega)
  have HLC : Hid (3 < (codeL b n k (.slice none 0 0)).length) := Lib.hid (by show 3 < 4; omega)
  clear hf hk hp hnn hw1 R0 B0 HEA
  go_enter Try.func9, Try.ntmps9
  go_wp2_with (first
    | (go_at_call 22; (with_reducible refine HEW.out.mono ?_); rintro e u1 ⟨⟨g, rfl, g0, r1, rc1, f1⟩, b1⟩; have G0 := Lib.hid g0; have R1 := Lib.hid r1; have RC1 := Lib.hid rc1; have F1 := Lib.hid f1; have B1 := Lib.hid b1; clear g0 r1 rc1 f1 b1)
    | (go_at_call 21; (with_reducible refine (HRO.out u1 g R1.out F1.out).mono ?_); rintro e u2 ⟨⟨a, cap, rfl, hcap, hl⟩, b2⟩; have HCA := Lib.hid hcap; have HL := Lib.hid hl; have RC2 := Lib.hid (RC1.out.step b2); have F2 := Lib.hid (F1.out.step b2); have B2 := Lib.hid (B1.out.next b2); clear hcap hl b2)
    | ((with_reducible refine RC2.out.wpStore1K 3 22 (.slice a (p + 1) cap) HB1.out HLC.out rfl rfl ?_ ?_); rfl; intro u3 r3 o3 s3; have R3 := Lib.hid r3; have O3 := Lib.hid o3; clear r3 o3 s3))
  go_ret2
  refine ⟨⟨_, rfl, HK.out, HP.out, HN.out, hp64, a, cap, ⟨by have := R3.out; rw [HNN.out]; exact this, F2.out.only O3.out (fun h => ?_)⟩, HCA.out, HL.out.onlyNe O3.out (HL.out.noCode RC2.out (fun x h => by cases h))⟩, B2.out.trans (O3.out.below (Nat.le_refl _) B2.out.size)⟩
  have := HF.out.lt
  omega

/-- There is no such code. -/
theorem rsNew_bad (b : Nat) (n k : Int) (w : World) (h : ¬ (1 ≤ k ∧ k < n ∧ n ≤ 255 ∧ n - k ≤ 64)) :
    Calls Try.prog 9 #[.pointer (some ⟨b, 0, none⟩), .int .i64 n, .int .i64 k] w fun e w' => e = .returned (.tuple #[.pointer none, .int .i64 1]) ∧ w = w' := by
  by_cases h1 : k < 1
  · clear h
    go_enter Try.func9, Try.ntmps9
    go_wp2
    go_ret2
    exact ⟨rfl, rfl⟩
  · by_cases h2 : n ≤ k
    · clear h
      go_enter Try.func9, Try.ntmps9
      go_wp2
      go_ret2
      exact ⟨rfl, rfl⟩
    · by_cases h3 : n > 255
      · clear h
        go_enter Try.func9, Try.ntmps9
        go_wp2
        go_ret2
        exact ⟨rfl, rfl⟩
      · have h4 : n - k > 64 := by omega
        have hw : IntKind.i64.wrap (n - k) = n - k := by rw [IntKind.wrap_i64]; omega
        have hk2 : 1 ≤ k := by omega
        have hn2 : n ≤ 255 := by omega
        have h2b : k < n := by omega
        clear h
        go_enter Try.func9, Try.ntmps9
        go_wp2
        go_ret2
        exact ⟨rfl, rfl⟩

end Go.Proofs.Ytpnjmbhplckgmaa
