/- Contracts of solve.Mend; the document's example (awake); SolveNone's walk. -/
import Derived.Test.YtkcnmiaedcenoaaSolG
import Derived.Test.YtkcnmiaedcenoaaB3
namespace Go.Proofs.Ytkcnmiaedcenoaa
open Go.RowKit GfMath PolyMath RsMath SolMath
set_option linter.unusedVariables false
set_option maxRecDepth 100000

theorem nats_ints (l : List Nat) : nats l = ints (l.map fun n : Nat => (n : Int)) := by simp [nats, ints]
theorem map_cast_inj {l m : List Nat} (h : l.map (fun n : Nat => (n : Int)) = m.map fun n : Nat => (n : Int)) : l = m := by
  induction l generalizing m with
  | nil => cases m with
    | nil => rfl
    | cons b m => simp at h
  | cons a l ih => cases m with
    | nil => simp at h
    | cons b m =>
      simp only [List.map_cons, List.cons.injEq] at h
      obtain ⟨h1, h2⟩ := h
      rw [ih h2, Int.ofNat.inj h1]
theorem same_nats (v u : Value) (l m : List Nat) (w : World) (hl : l.length ≤ 100000) (hm : m.length ≤ 100000) (h1 : IReads w v l) (h2 : IReads w u m) :
    Calls Try.prog 10 #[v, u] w fun e w' => e = .returned (.bool (decide (l = m))) ∧ Below w.heap.size w w' := by
  obtain ⟨a, ca, rfl, _, h1⟩ := h1
  obtain ⟨c, cc, rfl, _, h2⟩ := h2
  rw [nats_ints] at h1 h2
  have := same_ints a c ca cc (l.map fun n : Nat => (n : Int)) (m.map fun n : Nat => (n : Int)) w (by rw [List.length_map]; omega) (by rw [List.length_map]; omega) h1 h2
  rw [List.length_map, List.length_map] at this
  have e : decide (l.map (fun n : Nat => (n : Int)) = m.map fun n : Nat => (n : Int)) = decide (l = m) := by
    rw [Bool.eq_iff_iff, decide_eq_true_iff, decide_eq_true_iff]
    exact ⟨map_cast_inj, fun h => by rw [h]⟩
  rwa [e] at this

theorem mended_nil (a : Option Addr) (n cap : Nat) (v f : Value) (w : World) : Calls Try.prog 16 #[.pointer none, .slice a n cap, v, f] w fun e w' => e = .returned (.tuple #[.slice none 0 0, .slice none 0 0, .int .i64 1]) ∧ Below w.heap.size w w' := by
  have HS := Lib.hid (syn_nil a n cap w)
  go_enter Try.func16, Try.ntmps16
  go_wp2_with (go_at_call 25; (with_reducible refine HS.out.mono ?_); rintro e w1 ⟨rfl, b1⟩; have B1 := Lib.hid b1; clear b1)
  go_ret3
  exact ⟨rfl, B1.out⟩
theorem mended_bad (c b k p : Nat) (x : Value) (a : Option Addr) (n cap : Nat) (v f : Value) (w : World) (h : Cor w c b k p x) (hn : n ≠ k + p) (hl : n ≤ 140737488355328) : Calls Try.prog 16 #[.pointer (some ⟨c, 0, none⟩), .slice a n cap, v, f] w fun e w' => e = .returned (.tuple #[.slice none 0 0, .slice none 0 0, .int .i64 1]) ∧ Below w.heap.size w w' := by
  have HS := Lib.hid (syn_bad c b k p x a n cap w h hn hl)
  clear h hn
  go_enter Try.func16, Try.ntmps16
  go_wp2_with (go_at_call 25; (with_reducible refine HS.out.mono ?_); rintro e w1 ⟨rfl, b1⟩; have B1 := Lib.hid b1; clear b1)
  go_ret3
  exact ⟨rfl, B1.out⟩

/-- Three answers, whatever they are. -/
theorem mend_of (x y z : Value) (w : World) (Q : Value → Value → Value → World → Prop)
    (h : Calls Try.prog 16 #[x, y, z, .func (.func 17) #[] #[]] w fun e w' => ∃ p q r, e = .returned (.tuple #[p, q, r]) ∧ Q p q r w') :
    Calls Try.prog 8 #[x, y, z] w fun e w' => ∃ p q r, e = .returned (.tuple #[p, q, r]) ∧ Q p q r w' := by
  have HM := Lib.hid h
  clear h
  go_enter Try.func8, Try.ntmps8
  go_wp2_with (go_at_call 16; (with_reducible refine HM.out.mono ?_); rintro e w1 ⟨p, q, r, rfl, hq⟩; have HQ := Lib.hid hq; clear hq)
  go_ret3
  exact ⟨_, _, _, rfl, HQ.out⟩
theorem mend_nil (a : Option Addr) (n cap : Nat) (v : Value) (w : World) : Calls Try.prog 8 #[.pointer none, .slice a n cap, v] w fun e w' => e = .returned (.tuple #[.slice none 0 0, .slice none 0 0, .int .i64 1]) ∧ Below w.heap.size w w' :=
  (mend_of _ _ _ w (fun p q r w' => p = .slice none 0 0 ∧ q = .slice none 0 0 ∧ r = .int .i64 1 ∧ Below w.heap.size w w') ((mended_nil a n cap v _ w).mono fun e w' ⟨h1, h2⟩ => ⟨_, _, _, h1, rfl, rfl, rfl, h2⟩)).mono fun e w' ⟨p, q, r, h1, h2, h3, h4, h5⟩ => ⟨by rw [h1, h2, h3, h4], h5⟩
theorem mend_bad (c b k p : Nat) (x : Value) (a : Option Addr) (n cap : Nat) (v : Value) (w : World) (h : Cor w c b k p x) (hn : n ≠ k + p) (hl : n ≤ 140737488355328) : Calls Try.prog 8 #[.pointer (some ⟨c, 0, none⟩), .slice a n cap, v] w fun e w' => e = .returned (.tuple #[.slice none 0 0, .slice none 0 0, .int .i64 1]) ∧ Below w.heap.size w w' :=
  (mend_of _ _ _ w (fun p q r w' => p = .slice none 0 0 ∧ q = .slice none 0 0 ∧ r = .int .i64 1 ∧ Below w.heap.size w w') ((mended_bad c b k p x a n cap v _ w h hn hl).mono fun e w' ⟨h1, h2⟩ => ⟨_, _, _, h1, rfl, rfl, rfl, h2⟩)).mono fun e w' ⟨p, q, r, h1, h2, h3, h4, h5⟩ => ⟨by rw [h1, h2, h3, h4], h5⟩
theorem mdd_three {B : Nat} {d : Md} {n : Nat} {e : Ending} {w : World} (h : Mdd B d n e w) : ∃ p q r, e = .returned (.tuple #[p, q, r]) := by
  cases d with
  | arg => exact ⟨_, _, _, h⟩
  | bad => exact ⟨_, _, _, h⟩
  | ok m l => obtain ⟨_, _, _, h, _⟩ := h; exact ⟨_, _, _, h⟩
theorem mend_any (c b k p : Nat) (wb wo cw : Nat) (W : List Nat) (ea : Option Addr) (ecap : Nat) (er : List Int) (w : World) (h : Cod w c b k p) (hWl : W.length = k + p) (hWc : W.length ≤ cw) (hW8 : By W) (hW : Lies w w.heap.size (some ⟨wb, wo, none⟩) (u8s W)) (hel : er.length ≤ 1000) (her : Lies w w.heap.size ea (ints er)) :
    Calls Try.prog 8 #[.pointer (some ⟨c, 0, none⟩), .slice (some ⟨wb, wo, none⟩) (k + p) cw, .slice ea er.length ecap] w fun e w' =>
      Mdd w.heap.size (mendF masseyF (k + p) p W er) (k + p) e w' ∧ Below w.heap.size w w' :=
  (mend_of _ _ _ w (fun x y z w' => Mdd w.heap.size (mendF masseyF (k + p) p W er) (k + p) (.returned (.tuple #[x, y, z])) w' ∧ Below w.heap.size w w') ((mended_massey c b k p wb wo cw W ea ecap er w h hWl hWc hW8 hW hel her).mono fun e w' ⟨h1, h2⟩ => by
    obtain ⟨x, y, z, rfl⟩ := mdd_three h1
    exact ⟨x, y, z, rfl, h1, h2⟩)).mono fun e w' ⟨x, y, z, h1, h2, h3⟩ => ⟨by rw [h1]; exact h2, h3⟩

theorem code_79 : code [7, 9] 4 = [7, 9, 67, 35, 155, 245] := by decide +kernel
theorem mend_79 : (match mendF masseyF 6 4 [6, 9, 67, 35, 214, 245] [] with | .ok m l => (m, l) | .arg => ([], [99]) | .bad => ([98], [98])) = ([7, 9, 67, 35, 155, 245], [0, 4]) := by decide +kernel
theorem mend_79' : mendF masseyF 6 4 [6, 9, 67, 35, 214, 245] [] = .ok [7, 9, 67, 35, 155, 245] [0, 4] := by
  have h := mend_79
  cases hm : mendF masseyF 6 4 [6, 9, 67, 35, 214, 245] [] with
  | arg => rw [hm] at h; simp at h
  | bad => rw [hm] at h; simp at h
  | ok m l =>
    rw [hm] at h
    simp only [Prod.mk.injEq] at h
    rw [h.1, h.2]

theorem own_someS {w : World} {base : Nat} {e : TypeId} {v : Value} {n : Nat} {xs : List Value} (h : w.ownsRow base e 1 v n xs) (hn : 0 < n) : ∃ g cap ys, v = .slice (some ⟨g, 0, none⟩) n cap ∧ n ≤ cap ∧ base ≤ g ∧ Row w g e (xs ++ ys) := by
  rcases h.2 with ⟨_, h0⟩ | ⟨g, cap, cur, rfl, _, _, h3, _⟩
  · omega
  · obtain ⟨h1, ys, h2⟩ := own_row h
    exact ⟨g, cap, ys, rfl, h3, h1, h2⟩
set_option maxHeartbeats 2000000 in
theorem solAwake_any (w : World) : Calls Try.prog 4 #[] w fun e w' => e = .returned (.bool true) ∧ Below w.heap.size w w' := by
  obtain ⟨b, hb⟩ : ∃ b, b = w.heap.size := ⟨_, rfl⟩
  have HN : Hid (Calls Try.prog 7 #[] w fun e w' => e = .returned (.pointer (some ⟨b, 0, none⟩)) ∧ Fld w' b ∧ Below w.heap.size w w') := Lib.hid (by rw [hb]; exact gfNew_any w)
  have HC : Hid (∀ u, Fld u b → Calls Try.prog 6 #[.pointer (some ⟨b, 0, none⟩), .int .i64 6, .int .i64 2] u fun e w' => (∃ c, e = .returned (.tuple #[.pointer (some ⟨c, 0, none⟩), .int .i64 0]) ∧ Cod w' c b 2 4) ∧ Below u.heap.size u w') := Lib.hid fun u h => rsNew_any b 2 4 u h (by omega) (by omega) (by omega) (by omega)
  have HE : Hid (∀ (u : World) (c : Nat), Cod u c b 2 4 → Calls Try.prog 11 #[.pointer (some ⟨c, 0, none⟩), .slice (some ⟨u.heap.size, 0, none⟩) 2 2] (u.alloc (.cells #[.int .u8 7, .int .u8 9] 5)) fun e w' =>
      (∃ g c2, e = .returned (.tuple #[.slice (some ⟨g, 0, none⟩) 6 c2, .int .i64 0]) ∧ 6 ≤ c2 ∧ Lies w' w'.heap.size (some ⟨g, 0, none⟩) (u8s [7, 9, 67, 35, 155, 245]) ∧ Cod w' c b 2 4) ∧ Below u.heap.size u w') := Lib.hid fun u c h => by
    have hb1 := alloc_below u (.cells #[.int .u8 7, .int .u8 9] 5)
    refine (enc_any c b 2 4 (some ⟨u.heap.size, 0, none⟩) 2 [7, 9] _ (h.step hb1) rfl (by_two (by omega) (by omega)) (by decide) (by omega) (laid_two 7 9 u _)).mono fun e w' ⟨⟨g, c2, h1, h2, h3⟩, h4⟩ => ?_
    have h5 := own_lies h3
    rw [code_79] at h5
    exact ⟨⟨g, c2, h1, h5.2, h5.1, (h.step hb1).step h4⟩, hb1.next h4⟩
  have HM : Hid (∀ (u : World) (c g cap : Nat) (ys : List Value), Cod u c b 2 4 → 6 ≤ cap → Row u g 5 (u8s [6, 9, 67, 35, 214, 245] ++ ys) → Calls Try.prog 8 #[.pointer (some ⟨c, 0, none⟩), .slice (some ⟨g, 0, none⟩) 6 cap, .slice none 0 0] u fun e w' =>
      (∃ gm cm y, e = .returned (.tuple #[.slice (some ⟨gm, 0, none⟩) 6 cm, y, .int .i64 0]) ∧ Lies w' w'.heap.size (some ⟨gm, 0, none⟩) (u8s [7, 9, 67, 35, 155, 245]) ∧ IReads w' y [0, 4]) ∧ Below u.heap.size u w') := Lib.hid fun u c g cap ys h hc hr => by
    refine (mend_any c b 2 4 g 0 cap [6, 9, 67, 35, 214, 245] none 0 [] u h rfl hc (by intro x hx; simp at hx; omega) (fun _ => ⟨g, 0, rfl, hr.lt, fun j v hv => by
      rw [Nat.zero_add, hr.cell, List.getElem?_append_left (List.getElem?_eq_some_iff.1 hv).1]; exact hv⟩) (by simp) (Lies.nil _ _ _)).mono fun e w' ⟨h1, h2⟩ => ?_
    rw [mend_79'] at h1
    obtain ⟨gm, cm, y, e1, _, _, e3, e4⟩ := h1
    exact ⟨⟨gm, cm, y, e1, e3, e4⟩, h2⟩
  have HCV : Hid (∀ (u : World) (g cap : Nat), Lies u u.heap.size (some ⟨g, 0, none⟩) (u8s [7, 9, 67, 35, 155, 245]) → (convert 22 9 (.slice (some ⟨g, 0, none⟩) 6 cap)).run Try.prog u = .ok (.string (str ([7, 9, 67, 35, 155, 245].map UInt8.ofNat))) u) := Lib.hid fun u g cap h =>
    rs_conv_u8s (some ⟨g, 0, none⟩) cap [7, 9, 67, 35, 155, 245] u.heap.size u (by intro x hx; simp at hx; omega) (by decide) h
  obtain ⟨S, hS⟩ : ∃ S, str ([7, 9, 67, 35, 155, 245].map UInt8.ofNat) = S := ⟨_, rfl⟩
  rw [hS] at HCV
  have HSM : Hid (∀ (u : World) (y : Value), IReads u y [0, 4] → Calls Try.prog 10 #[y, .slice (some ⟨u.heap.size, 0, none⟩) 2 2] (u.alloc (.cells #[.int .i64 0, .int .i64 4] 3)) fun e w' => e = .returned (.bool true) ∧ Below u.heap.size u w') := Lib.hid fun u y h =>
    (same_nats y (.slice (some ⟨u.heap.size, 0, none⟩) 2 2) [0, 4] [0, 4] _ (by decide) (by decide) (h.step (alloc_below _ _)) ⟨_, 2, rfl, Nat.le_refl _, Lies.new [.int .i64 0, .int .i64 4] u _⟩).mono fun e w' ⟨h1, h2⟩ => ⟨by rw [h1]; rfl, (alloc_below _ _).next h2⟩
  have HEM : Hid (∀ u : World, (u.alloc (.cells #[] 5)).ownsRow u.heap.size 5 1 (.slice (some ⟨u.heap.size, 0, none⟩) 0 0) 0 []) := Lib.hid fun u => ⟨rfl, .inr ⟨u.heap.size, 0, #[], rfl, Nat.le_refl _, heap_alloc_new u _, Nat.le_refl _, by decide, rfl, rfl⟩⟩
  have H6 : Hid ((u8s [7, 9, 67, 35, 155, 245]).length = 6) := Lib.hid rfl
  have H60 : Hid (0 < 6) := Lib.hid (by omega)
  have HONE : Hid ((u8s [7, 9, 67, 35, 155, 245]).all (·.oneCell') = true) := Lib.hid (u8s_one _)
  have HPK : Big (0 + 6 ≤ 1099511627776) := ⟨by omega⟩
  have HSB : Hid (∀ u : World, u.heap.size ≤ (u.alloc (.cells #[] 5)).heap.size) := Lib.hid fun u => (alloc_below u _).size
  have HV6 : Hid ((Value.int .u8 6).cells = #[.int .u8 6]) := Lib.hid rfl
  have HO6 : Hid ((Value.int .u8 6).oneCell' = true) := Lib.hid rfl
  have HV214 : Hid ((Value.int .u8 214).cells = #[.int .u8 214]) := Lib.hid rfl
  have HO214 : Hid ((Value.int .u8 214).oneCell' = true) := Lib.hid rfl
  have hx1 : bits .xor .u8 7 1 = 6 := by decide
  have hx2 : bits .xor .u8 155 77 = 214 := by decide
  clear hb hS
  go_enter Try.func4, Try.ntmps4
  go_wp2_with (first
    | (go_at_call 7; (with_reducible refine HN.out.mono ?_); rintro e u1 ⟨rfl, f1, b1⟩; have F1 := Lib.hid f1; have B1 := Lib.hid b1; clear f1 b1)
    | (go_at_call 6; (with_reducible refine (HC.out u1 F1.out).mono ?_); rintro e u2 ⟨⟨c, rfl, h2⟩, b2⟩; have C2 := Lib.hid h2; have B2 := Lib.hid (B1.out.next b2); clear h2 b2)
    | (go_at_call 11; (with_reducible refine (HE.out u2 c C2.out).mono ?_); rintro e u3 ⟨⟨g, c2, rfl, h4, l3, d3⟩, b3⟩; have C3 := Lib.hid d3; have L3 := Lib.hid l3; have B3 := Lib.hid (B2.out.next b3); have L3A := Lib.hid (l3.step (alloc_below u3 (.cells #[] 5))); have B3A := Lib.hid (B3.out.alloc B3.out.size (.cells #[] 5)); clear d3 l3 b3 h4)
    | ((with_reducible refine wpAppendK c2 (HEM.out u3) Try.underlying22 one_byte L3A.out H6.out H60.out HONE.out HPK (HSB.out u3) ?_ ?_); rfl; intro v4 u4 g1 g2 g3; obtain ⟨g', cap', ys, rfl, q1, q2, r4⟩ := own_someS g1 (by omega); have Q1 : Hid (6 ≤ cap') := Lib.hid q1; have Q2 : Hid (u3.heap.size ≤ g') := Lib.hid q2; have R4 : Hid (Row u4 g' 5 (u8s [7, 9, 67, 35, 155, 245] ++ ys)) := Lib.hid r4; have B4 : Hid (Below u3.heap.size u3 u4) := Lib.hid ((alloc_below u3 _).grown g2 (alloc_below u3 _).size (fun j hj => by cases hj; exact Nat.le_refl _)); have ca : u4.cell? ⟨g', 0, none⟩ = some (.int .u8 7) := (by rw [r4.cell]; rfl); have HL4 : Hid (0 < (u8s [7, 9, 67, 35, 155, 245] ++ ys).length) := Lib.hid (by rw [List.length_append, H6.out]; omega); clear q1 q2 r4 g1 g2 g3)
    | ((with_reducible refine R4.out.wpStore1K 0 5 (.int .u8 6) info_byte1 HL4.out HV6.out HO6.out ?_ ?_); rfl; intro u5 r5 o5 s5; have R5 : Hid (Row u5 g' 5 (u8s [6, 9, 67, 35, 155, 245] ++ ys)) := Lib.hid r5; have B5 : Hid (Below u3.heap.size u3 u5) := Lib.hid (B4.out.trans (o5.below Q2.out B4.out.size)); have cb : u5.cell? ⟨g', 4, none⟩ = some (.int .u8 155) := (by rw [R5.out.cell]; rfl); have HL5 : Hid (4 < (u8s [6, 9, 67, 35, 155, 245] ++ ys).length) := Lib.hid (by rw [List.length_append]; show 4 < 6 + _; omega); clear r5 o5 s5 ca)
    | ((with_reducible refine R5.out.wpStore1K 4 5 (.int .u8 214) info_byte1 HL5.out HV214.out HO214.out ?_ ?_); rfl; intro u6 r6 o6 s6; have R6 : Hid (Row u6 g' 5 (u8s [6, 9, 67, 35, 214, 245] ++ ys)) := Lib.hid r6; have B6 : Hid (Below u3.heap.size u3 u6) := Lib.hid (B5.out.trans (o6.below Q2.out B5.out.size)); have C6 := Lib.hid (C3.out.step B6.out); have L6 := Lib.hid (L3.out.step B6.out); clear r6 o6 s6 cb)
    | (go_at_call 8; (with_reducible refine (HM.out u6 c g' cap' ys C6.out Q1.out R6.out).mono ?_); rintro e u7 ⟨⟨gm, cm, y, rfl, lm, iy⟩, b7⟩; have hcx := HCV.out u7 gm cm lm; have hcw := HCV.out u7 g c2 (L6.out.step b7); have IY := Lib.hid iy; have B7 : Hid (Below w.heap.size w u7) := Lib.hid ((B3.out.next B6.out).next b7); clear lm iy b7)
    | (go_at_call 10; (with_reducible refine (HSM.out u7 y IY.out).mono ?_); rintro e u8 ⟨rfl, b8⟩; have B8 := Lib.hid (B7.out.next b8); clear b8))
  go_ret
  exact ⟨rfl, B8.out⟩

end Go.Proofs.Ytkcnmiaedcenoaa
