/- The walk of PolyTimes. -/
import Derived.Test.YtpkjannlndnfdaaPolyF
import Derived.Test.YtpkjannlndnfdaaPolyMath2
namespace Go.Proofs.Ytpkjannlndnfdaa
open Go.RowKit GfMath PolyMath
set_option linter.unusedVariables false

theorem two_polys {u : World} {a c : Option Addr} {ca cc : Nat} {A C : List Nat} (hA : By A) (hC : By C) (h1 : A.length ≤ ca) (h2 : C.length ≤ cc) (h3 : ca ≤ 140737488351232) (h4 : cc ≤ 140737488351232)
    (hr : Lies u u.heap.size a (u8s A)) (hs : Lies u u.heap.size c (u8s C)) : Polys u [(a, A.length, ca), (c, C.length, cc)] [A, C] := by
  refine ⟨rfl, fun i hi hi2 => ?_⟩
  match i, hi with
  | 0, _ => exact ⟨rfl, h1, h3, hA, hr⟩
  | 1, _ => exact ⟨rfl, h2, h4, hC, hs⟩
theorem pmul_two (b : Nat) {a c : Option Addr} {ca cc : Nat} {A C : List Nat} (hA : By A) (hC : By C) (h1 : A.length ≤ ca) (h2 : C.length ≤ cc) (h3 : ca ≤ 140737488351232) (h4 : cc ≤ 140737488351232) (h5 : A.length ≤ 5000) (h6 : C.length ≤ 5000)
    (u : World) (hf : Fld u b) (hr : Lies u u.heap.size a (u8s A)) (hs : Lies u u.heap.size c (u8s C)) :
    Calls Try.prog 20 #[.pointer (some ⟨b, 0, none⟩), .slice (some ⟨u.heap.size, 0, none⟩) 2 2] (u.alloc (.cells #[.slice a A.length ca, .slice c C.length cc] 22)) fun e w' => (∃ v, e = .returned v ∧ Reads w' v (pms [A, C])) ∧ Below u.heap.size u w' :=
  (pmul_any b (some ⟨u.heap.size, 0, none⟩) 2 [(a, A.length, ca), (c, C.length, cc)] [A, C] _ (hf.step (alloc_below _ _)) ((two_polys hA hC h1 h2 h3 h4 hr hs).step (alloc_below _ _)) (by simp) (by intro l hl; simp at hl; rcases hl with rfl | rfl <;> assumption)
    (Lies.new [.slice a A.length ca, .slice c C.length cc] u _)).mono fun e w' ⟨h1, h2⟩ => ⟨h1, (alloc_below _ _).next h2⟩
theorem padd_two (b : Nat) {a c : Option Addr} {ca cc : Nat} {A C : List Nat} (hA : By A) (hC : By C) (h1 : A.length ≤ ca) (h2 : C.length ≤ cc) (h3 : ca ≤ 140737488351232) (h4 : cc ≤ 140737488351232) (h5 : A.length ≤ 5000) (h6 : C.length ≤ 5000)
    (u : World) (hr : Lies u u.heap.size a (u8s A)) (hs : Lies u u.heap.size c (u8s C)) :
    Calls Try.prog 19 #[.pointer (some ⟨b, 0, none⟩), .slice (some ⟨u.heap.size, 0, none⟩) 2 2] (u.alloc (.cells #[.slice a A.length ca, .slice c C.length cc] 22)) fun e w' => (∃ v, e = .returned v ∧ Reads w' v (addl [A, C])) ∧ Below u.heap.size u w' :=
  (padd_any b (some ⟨u.heap.size, 0, none⟩) 2 [(a, A.length, ca), (c, C.length, cc)] [A, C] _ ((two_polys hA hC h1 h2 h3 h4 hr hs).step (alloc_below _ _)) (by simp) (by intro l hl; simp at hl; rcases hl with rfl | rfl <;> assumption)
    (Lies.new [.slice a A.length ca, .slice c C.length cc] u _)).mono fun e w' ⟨h1, h2⟩ => ⟨h1, (alloc_below _ _).next h2⟩
theorem powI_3 {x : Nat} (hx : x < 256) : powI x 3 = pw x 3 := by
  by_cases h : x = 0
  · subst h; rw [powI, if_neg (by omega), if_pos rfl, pw, gm_zero_right]
  · exact powI_pw hx h 3 3 (by decide)

end Go.Proofs.Ytpkjannlndnfdaa
