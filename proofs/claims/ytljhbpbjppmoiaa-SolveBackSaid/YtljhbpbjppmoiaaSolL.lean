/- SolveBack: the walk (gen_sol_back.py). -/
import Derived.Test.YtljhbpbjppmoiaaSolK
namespace Go.Proofs.Ytljhbpbjppmoiaa
open Go.RowKit GfMath PolyMath RsMath SolMath Go.Maps
set_option linter.unusedVariables false
set_option maxRecDepth 100000

section
variable {P : Program}
theorem wpLoadAtS {ops : Array Oper} {rest : List Oper} {o : Oper} {a : Act} {w : World} {Q : Exit → Act → World → Prop} {g i : Nat} {y : List Value} (hy : w.rangeAt g i y) (ty : TypeId) {n : Nat} (hf : Fits P ty n) (hl : y.length = n)
    (ho : loadOf o a = some (ty, .pointer (some ⟨g, i, none⟩))) (k : wpList P ops Q rest (a.put o.dst (.agg y.toArray)) w) : wpList P ops Q (o :: rest) a w := by
  obtain ⟨hg, x, ho, hx⟩ := loadOf_spec ho
  obtain ⟨d, hu, hd⟩ := hf.row
  exact wpList_load_mid hg ty x ho g i hx y d hy hu hd (by rw [hl]; exact hf.size) k
end
theorem fits_turn : Fits Try.prog 41 2 := ⟨⟨_, Try.underlying41, rfl⟩, by kernel_rfl⟩
theorem zero_turn : ∀ u, (zeroValue 41).run Try.prog u = .ok (.agg [Value.int .i64 0, .int .u8 0].toArray) u := fun u => by kernel_rfl
theorem size_u8 : (Try.prog.info? 5).map (·.size) = some 1 := by kernel_rfl
theorem own_all {w : World} {base : Nat} {v : Value} {n : Nat} {xs : List Value} {e : TypeId} (h : w.ownsRow base e 1 v n xs) (h0 : 0 < n) : ∃ g cap ys, v = .slice (some ⟨g, 0, none⟩) n cap ∧ base ≤ g ∧ n ≤ cap ∧ Row w g e (xs ++ ys) := by
  rcases h.2 with ⟨h1, h2⟩ | ⟨g, cap, cur, h1, h2, h3, h4, h5, h6, h7⟩
  · omega
  · refine ⟨g, cap, cur.toList.drop n, h1, h2, h4, ?_⟩
    rw [Nat.mul_one] at h7
    rw [← h7, List.take_append_drop]
    exact h3
theorem cnt_noneG (n : Nat) : cnt (noneG n) = 0 := by simp [cnt, noneG, List.count_replicate]
theorem lies_row {w : World} {g : Nat} {t : TypeId} {l ys : List Value} (h : Row w g t (l ++ ys)) : Lies w w.heap.size (some ⟨g, 0, none⟩) l := fun _ => ⟨g, 0, rfl, h.lt, fun j u hu => by
  rw [Nat.zero_add, h.cell, List.getElem?_append_left (List.getElem?_eq_some_iff.1 hu).1]
  exact hu⟩
set_option maxHeartbeats 16000000 in
theorem solveBack_good (k p : Nat) (a : Option Addr) (ca : Nat) (X : List Nat) (c' : Option Addr) (ce : Nat) (er : List Int) (t' : Option Addr) (ct : Nat) (T : List Tv) (w : World)
    (hk : 1 ≤ k) (hp : 1 ≤ p) (hn : k + p ≤ 255) (hp64 : p ≤ 64) (hX : X.length = k) (hX8 : By X) (hca : X.length ≤ ca) (hca2 : ca ≤ 140737488351232) (hxr : Lies w w.heap.size a (u8s X)) (hel : er.length ≤ 60) (her : Lies w w.heap.size c' (ints er))
    (htl : T.length ≤ 60) (htr : TvAt w t' T) (hT : ∀ t ∈ T, t.by_ < 256) :
    Calls Try.prog 3 #[.int .i64 ((k + p : Nat) : Int), .int .i64 (k : Int), .agg #[.slice a k ca, .slice c' er.length ce, .slice t' T.length ct]] w fun e w' => e = .returned (.bool true) ∧ Below w.heap.size w w' := by
  have HA := Lib.hid solAwake_any
  have HTH : Hid (∀ u, Calls Try.prog 5 #[.int .i64 ((k + p : Nat) : Int), .int .i64 (k : Int)] u fun e w' => e = .returned (.bool true) ∧ u = w') := Lib.hid fun u => there_yes _ _ u (by omega)
  have HN : Hid (∀ u : World, Calls Try.prog 7 #[] u fun e w' => (∃ b, e = .returned (.pointer (some ⟨b, 0, none⟩)) ∧ Fld w' b) ∧ Below u.heap.size u w') := Lib.hid fun u => (gfNew_any u).mono fun e w' ⟨h1, h2, h3⟩ => ⟨⟨_, h1, h2⟩, h3⟩
  have HC : Hid (∀ (u : World) (b : Nat), Fld u b → Calls Try.prog 6 #[.pointer (some ⟨b, 0, none⟩), .int .i64 ((k + p : Nat) : Int), .int .i64 (k : Int)] u fun e w' => (∃ c, e = .returned (.tuple #[.pointer (some ⟨c, 0, none⟩), .int .i64 0]) ∧ Cod w' c b k p) ∧ Below u.heap.size u w') := Lib.hid fun u b h => rsNew_any b k p u h hk hp hn hp64
  obtain ⟨D, hD⟩ : ∃ D, code X p = D := ⟨_, rfl⟩
  have hDl : D.length = k + p := by rw [← hD, code_length X hX8, hX]
  have hD8 : By D := by rw [← hD]; exact code_by X hX8 p
  have hD0 : ∀ i, i < p → ev D (ex i) = 0 := fun i hi => by rw [← hD]; exact code_zero hX8 hi
  have HENC : Hid (∀ (u : World) (b c : Nat), Below w.heap.size w u → Cod u c b k p → Calls Try.prog 8 #[.pointer (some ⟨c, 0, none⟩), .slice a k ca] u fun e w' => (∃ g c2, e = .returned (.tuple #[.slice (some ⟨g, 0, none⟩) (k + p) c2, .int .i64 0]) ∧ k + p ≤ c2 ∧ Lies w' w'.heap.size (some ⟨g, 0, none⟩) (u8s D)) ∧ Below u.heap.size u w') := Lib.hid fun u b c hb hc => (enc_any c b k p a ca X u hc hX hX8 hca hca2 (hxr.step hb)).mono fun e w' ⟨⟨g, c2, h1, h2, h3⟩, h4⟩ => by
    rw [hD] at h3
    obtain ⟨ad, c3, e2, h5, h6⟩ := own_form2 h3
    cases e2
    exact ⟨⟨g, c2, h1, h5, h6⟩, h4⟩
  obtain ⟨n, hnn⟩ : ∃ n, k + p = n := ⟨_, rfl⟩
  have HMEN : Hid (∀ (u : World) (b c wb cw ec : Nat) (W : List Nat) (ea : Option Addr), Cod u c b k p → W.length = n → n ≤ cw → By W → Lies u u.heap.size (some ⟨wb, 0, none⟩) (u8s W) → Lies u u.heap.size ea (ints er) →
      Calls Try.prog 9 #[.pointer (some ⟨c, 0, none⟩), .slice (some ⟨wb, 0, none⟩) n cw, .slice ea er.length ec] u fun e w' => Mdd (mendF masseyF n p W er) n e w' ∧ Below u.heap.size u w') := Lib.hid fun u b c wb cw ec W ea h1 h2 h3 h4 h5 h6 => by
    rw [← hnn] at h2 h3 ⊢
    exact mend_any c b k p wb 0 cw W ea ec er u h1 h2 (by omega) h4 h5 (by omega) h6
  have HWIT : Hid (∀ (u : World) (b c x y : Nat), Cod u c b k p → x ≤ 100000 → y ≤ 100000 → Calls Try.prog 10 #[.pointer (some ⟨c, 0, none⟩), .int .i64 (x : Int), .int .i64 (y : Int)] u fun e w' => e = .returned (.bool (decide (x ≤ p ∧ y ≤ (p - x) / 2))) ∧ Below u.heap.size u w') := Lib.hid fun u b c x y h1 h2 h3 => by
    obtain ⟨a', cap', hcor, _⟩ := h1.cor
    exact within_any c b k p _ x y u hcor hn h2 h3
  have HDEC : Hid (∀ W : List Nat, By W → W.length = n → Dec n p W D) := Lib.hid fun W h1 h2 => ⟨by omega, h1, h2, hD8, by omega, hD0⟩
  rw [hnn] at HTH HC HENC hDl hn ⊢
  have HDL := Lib.hid hDl
  have HD8 := Lib.hid hD8
  have HP1 := Lib.hid hp
  have HTB := Lib.hid hT
  have HXR := Lib.hid hxr
  have HER := Lib.hid her
  have HTR := Lib.hid htr
  have hn0 : 0 < n := by omega
  have HNK : Hid ((n : Int) - (k : Int) = (p : Int)) := Lib.hid (by omega)
  have hkn : (k : Int) ≤ 255 := by omega
  have hnI : (n : Int) ≤ 255 := by omega
  obtain ⟨ne, hne⟩ : ∃ m, er.length = m := ⟨_, rfl⟩
  obtain ⟨nt, hnt⟩ : ∃ m, T.length = m := ⟨_, rfl⟩
  have HNE := Lib.hid hne
  have HNT := Lib.hid hnt
  rw [hne] at HMEN hel ⊢
  rw [hnt] at htl ⊢
  have hne6 : (ne : Int) ≤ 60 := by omega
  have hnt6 : (nt : Int) ≤ 60 := by omega
  clear hD hD0 hxr her htr hne hnt hnn hca hca2 hX hX8 hDl hD8 hp hT hp64
  have hmm := @run_makeMap Try.prog
  go_enter Try.func3, Try.ntmps3
  go_wp2_with (first
    | ((with_reducible refine wpBoxK [Value.slice a k ca, .slice c' ne ce, .slice t' nt ct] 26 ?_ ?_); rfl; intro w1 r1 b1 s1; have R1 := Lib.hid r1; have B1 := Lib.hid b1; clear r1 b1 s1)
    | (go_at_call 4; (with_reducible refine (HA.out w1).mono ?_); rintro e w2 ⟨rfl, b2⟩; have R2 := Lib.hid (R1.out.step b2); have B2 := Lib.hid (B1.out.next b2); have q0 := R2.out.cell 0; have q1 := R2.out.cell 1; have q2 := R2.out.cell 2; clear b2)
    | (go_at_call 5; (with_reducible refine (HTH.out w2).mono ?_); rintro e u_ ⟨rfl, rfl⟩)
    | (go_at_call 7; (with_reducible refine (HN.out w2).mono ?_); rintro e w3 ⟨⟨b, rfl, f3⟩, b3⟩; have F3 := Lib.hid f3; have R3 := Lib.hid (R2.out.step b3); have B3 := Lib.hid (B2.out.next b3); clear f3 b3 q0 q1 q2)
    | (go_at_call 6; (with_reducible refine (HC.out w3 b F3.out).mono ?_); rintro e w4 ⟨⟨c, rfl, d4⟩, b4⟩; have C4 := Lib.hid d4; have R4 := Lib.hid (R3.out.step b4); have B4 := Lib.hid (B3.out.next b4); have q0 := R4.out.cell 0; clear d4 b4)
    | (go_at_call 8; (with_reducible refine (HENC.out w4 b c B4.out C4.out).mono ?_); rintro e w5 ⟨⟨g, c2, rfl, hc2, hl5⟩, b5⟩; have C5 := Lib.hid (C4.out.step b5); have R5 := Lib.hid (R4.out.step b5); have B5 := Lib.hid (B4.out.next b5); have L5 := Lib.hid hl5; have HC2 := Lib.hid hc2; have q1 : (w5.alloc (.map #[] 0)).cell? ⟨w.heap.size, 1, none⟩ = some (.slice c' ne ce) := (R5.out.step (alloc_below w5 (.map #[] 0))).cell 1; clear b5 hl5 hc2 q0))
  have HSE0 : Hid (SeenG KS (w5.alloc (.map #[] 0)) w5.heap.size (cnt (setG (noneG n) (er.take 0))) (gS n (setG (noneG n) (er.take 0)))) := Lib.hid ((SeenG.made w5).congr (cnt_noneG n).symm fun i _ => (gS_none n i).symm)
  have HB0 := Lib.hid (alloc_below w5 (.map #[] 0))
  clear hmm q1
  go_loopw [73] (fun x wr => ∃ i : Nat, i ≤ ne ∧ x = .int .i64 i ∧ inB n (er.take i) = true ∧ SeenG KS wr w5.heap.size (cnt (setG (noneG n) (er.take i))) (gS n (setG (noneG n) (er.take i))) ∧ Below w5.heap.size w5 wr) (fun x _ => ne - (intOf x).toNat)
  case atStart => exact ⟨0, Nat.zero_le _, rfl, rfl, HSE0.out, HB0.out⟩
  case round =>
    clear HSE0 HB0
    obtain ⟨i, hi, rfl, hin, hse, hbw⟩ := hrel
    have HIN := Lib.hid hin
    have HSE := Lib.hid hse
    have HW := Lib.hid hbw
    clear hin hse hbw
    by_cases hlt : i < ne
    · have e1 : (i : Int) < (ne : Int) := by omega
      have hil : i < er.length := by rw [HNE.out]; exact hlt
      obtain ⟨el, eo, rfl, heb, hec⟩ := HER.out (by rw [ints_length]; omega)
      obtain ⟨x, hx⟩ : ∃ x, er[i] = x := ⟨_, rfl⟩
      have hcx : wr.cell? ⟨el, eo + i, none⟩ = some (.int .i64 x) := ((B5.out.next HW.out).cell (p := ⟨el, eo + i, none⟩) heb).trans (by rw [hec i _ (ints_get er i hil), hx])
      have htk : er.take (i + 1) = er.take i ++ [x] := by rw [take_snoc er i hil, hx]
      have hmem : x ∈ er := by rw [← hx]; exact List.getElem_mem hil
      clear hx hec heb hil
      have HM0 : Hid (inB n er = false → Calls Try.prog 9 #[.pointer (some ⟨c, 0, none⟩), .slice (some ⟨g, 0, none⟩) n c2, .slice (some ⟨el, eo, none⟩) ne ce] wr fun e w' => e = .returned (.tuple #[.slice none 0 0, .slice none 0 0, .int .i64 1]) ∧ Below wr.heap.size wr w') := Lib.hid fun h => (HMEN.out wr b c g c2 ce D (some ⟨el, eo, none⟩) (C5.out.step HW.out) HDL.out HC2.out HD8.out (L5.out.step HW.out) (HER.out.step (B5.out.next HW.out))).mono fun e w' ⟨h1, h2⟩ => by
        rw [mendF_eq, if_pos h] at h1
        exact ⟨h1, h2⟩
      have q1 := (R5.out.step HW.out).cell 1
      by_cases hx0 : x < 0
      · have HM1 := Lib.hid (HM0.out (List.all_eq_false.2 ⟨x, hmem, by simp; omega⟩))
        clear hmem htk
        go_wp2_with (go_at_call 9; (with_reducible refine HM1.out.mono ?_); rintro e w6 ⟨rfl, b6⟩; have B6 := Lib.hid b6; clear b6)
        go_ret
        exact ⟨rfl, (B5.out.next HW.out).next B6.out⟩
      · by_cases hxn : (n : Int) ≤ x
        · have HM1 := Lib.hid (HM0.out (List.all_eq_false.2 ⟨x, hmem, by simp; omega⟩))
          clear hmem htk
          go_wp2_with (go_at_call 9; (with_reducible refine HM1.out.mono ?_); rintro e w6 ⟨rfl, b6⟩; have B6 := Lib.hid b6; clear b6)
          go_ret
          exact ⟨rfl, (B5.out.next HW.out).next B6.out⟩
        · have HOK : Hid (KS.ok x) := Lib.hid ⟨by omega, by omega⟩
          have HC1 : Hid (cnt (setG (noneG n) (er.take i)) < 100000) := Lib.hid (by have := cnt_le (setG (noneG n) (er.take i)); have h2 : (noneG n).length = n := List.length_replicate; rw [setG_length, h2] at this; omega)
          have HST : Hid (cnt (setG (noneG n) (er.take (i + 1))) = (if gS n (setG (noneG n) (er.take i)) x = true then cnt (setG (noneG n) (er.take i)) else cnt (setG (noneG n) (er.take i)) + 1) ∧ (∀ z, gS n (setG (noneG n) (er.take (i + 1))) z = (gS n (setG (noneG n) (er.take i)) z || decide (z = x))) ∧ inB n (er.take (i + 1)) = true) := Lib.hid (by
            have hG : (setG (noneG n) (er.take i)).length = n := by rw [setG_length]; exact List.length_replicate
            rw [htk, SolMath.setG_snoc]
            refine ⟨?_, fun z => gS_set hG (by omega) (by omega) z, ?_⟩
            · rw [cnt_put (by rw [hG]; omega), gS_at (by omega) (by omega)]
            · have h1 := HIN.out
              unfold inB at h1 ⊢
              rw [List.all_append, h1]
              simp; omega)
          clear hmem htk HM0
          go_wp2_with (at_mapUpdate; refine HSE.out.wpPutAny HOK.out HC1.out rfl _ _ _ rfl rfl rfl rfl ?_; intro w6 s6 g6; have S6 := Lib.hid s6; have B6 := Lib.hid (HW.out.grown g6 HW.out.size (fun j hj => by cases hj; exact Nat.le_refl _)); clear s6 g6)
          go_roundw
          case rel => exact ⟨i + 1, by omega, by go_num, HST.out.2.2, S6.out.congr HST.out.1.symm fun z _ => (HST.out.2.1 z).symm, B6.out⟩
          case measure => simp [intOf]; omega
    · have e1 : ¬ (i : Int) < (ne : Int) := by omega
      have hii : i = er.length := by rw [HNE.out]; omega
      rw [hii, List.take_of_length_le (Nat.le_refl _)] at HIN HSE
      clear hii
      obtain ⟨G, hG⟩ : ∃ G, markE n er = G := ⟨_, rfl⟩
      have hGs : setG (noneG n) er = G := hG
      rw [hGs] at HSE
      have HG := Lib.hid hG
      have HGL : Hid (G.length = n) := Lib.hid (by rw [← hGs, setG_length]; exact List.length_replicate)
      obtain ⟨X1, hX1⟩ : ∃ m, cnt G = m := ⟨_, rfl⟩
      rw [hX1] at HSE
      have HX1 := Lib.hid hX1
      have HX1b : Hid (X1 ≤ 255) := Lib.hid (by have := cnt_le G; have := HGL.out; omega)
      clear hG hGs hX1
      obtain ⟨w6, rfl⟩ : ∃ w6, w6 = wr := ⟨_, rfl⟩
      have HOZ := Lib.hid (own_zero w6 5)
      have HLD : Hid (Lies (w6.alloc (.cells #[] 5)) (w6.alloc (.cells #[] 5)).heap.size (some ⟨g, 0, none⟩) (u8s D)) := Lib.hid ((L5.out.step HW.out).step (alloc_below _ _))
      have HU1 : Hid ((u8s D).length = n) := Lib.hid (by rw [u8s_length, HDL.out])
      have HU2 : Hid ((u8s D).all (·.oneCell') = true) := Lib.hid (by simp [u8s, Value.oneCell'])
      have HPK : Big (0 + n ≤ 1099511627776) := ⟨by omega⟩
      have HZ6 := Lib.hid (alloc_below w6 (.cells #[] 5)).size
      have HB6 := Lib.hid (alloc_below w6 (.cells #[] 5))
      have hmm := @run_makeMap Try.prog
      go_wp2_with (first
        | ((with_reducible refine wpAppendK c2 HOZ.out Try.underlying22 one_byte HLD.out HU1.out hn0 HU2.out HPK HZ6.out ?_ ?_); rfl; intro v7 w7 g1 g2 g3; obtain ⟨gb, cb, ys, rfl, hgb, hcb, hrow⟩ := own_all g1 (by omega); have HROW7 := Lib.hid hrow; have HGB := Lib.hid hgb; have HCB := Lib.hid hcb; have B67 := Lib.hid (HB6.out.grown g2 HB6.out.size (fun j hj => by cases hj; exact Nat.le_refl _)); have q2 : (w7.alloc (.map #[] 0)).cell? ⟨w.heap.size, 2, none⟩ = some (.slice t' nt ct) := ((R5.out.step (HW.out.next B67.out)).step (alloc_below w7 (.map #[] 0))).cell 2; clear g1 g2 g3 hrow hgb hcb))
      rw [Nat.zero_add] at *
      clear hmm q2
      have HGB7 : Hid (gb < w7.heap.size) := Lib.hid HROW7.out.lt
      have HSE0 : Hid (SeenG KS (w7.alloc (.map #[] 0)) w7.heap.size (cnt (othT n G (T.take 0))) (gS n (othT n G (T.take 0)))) := Lib.hid ((SeenG.made w7).congr (cnt_noneG n).symm fun i _ => (gS_none n i).symm)
      have HRW0 : Hid (Row (w7.alloc (.map #[] 0)) gb 5 (u8s (badT D (T.take 0)) ++ ys)) := Lib.hid (HROW7.out.alloc _)
      have HB0 : Hid (Below w6.heap.size w6 (w7.alloc (.map #[] 0))) := Lib.hid (B67.out.next (alloc_below w7 _))
      go_loopw [105] (fun x wr => ∃ j : Nat, j ≤ nt ∧ x = .int .i64 j ∧ (∀ t ∈ T.take j, 0 ≤ t.at_ ∧ t.at_ < (n : Int)) ∧ Row wr gb 5 (u8s (badT D (T.take j)) ++ ys) ∧ SeenG KS wr w7.heap.size (cnt (othT n G (T.take j))) (gS n (othT n G (T.take j))) ∧ Below w6.heap.size w6 wr) (fun x _ => nt - (intOf x).toNat)
      case atStart => exact ⟨0, Nat.zero_le _, rfl, (fun t ht => by simp at ht), HRW0.out, HSE0.out, HB0.out⟩
      case round =>
        clear HSE0 HRW0 HB0
        obtain ⟨j, hj, rfl, hall, hrow, hso, hbw⟩ := hrel
        have HALL := Lib.hid hall
        have HROW := Lib.hid hrow
        have HSO := Lib.hid hso
        have HV := Lib.hid hbw
        clear hall hrow hso hbw
        by_cases hlt2 : j < nt
        · have e2 : (j : Int) < (nt : Int) := by omega
          have hjl : j < T.length := by rw [HNT.out]; exact hlt2
          obtain ⟨tl, to_, rfl, htb, htc⟩ := HTR.out (by omega)
          obtain ⟨x, y, hxy⟩ : ∃ x y, T[j] = ⟨x, y⟩ := ⟨_, _, rfl⟩
          have hy8 : y < 256 := by
            have := HTB.out _ (List.getElem_mem hjl)
            rw [hxy] at this
            exact this
          have HRY : Hid (wr.rangeAt tl (to_ + j * 2) [Value.int .i64 x, .int .u8 (y : Int)]) := Lib.hid (fun q v hq => by
            have h := htc j hjl
            rw [hxy] at h
            exact (((B5.out.next HW.out).next HV.out).cell (p := ⟨tl, to_ + j * 2 + q, none⟩) htb).trans (h q v hq))
          have htk : T.take (j + 1) = T.take j ++ [⟨x, y⟩] := by rw [take_snoc T j hjl, hxy]
          have HTK := Lib.hid htk
          clear htc htb hxy hjl htk
          have hyb : (y : Int) < 256 := by omega
          have q2 := (R5.out.step (HW.out.next HV.out)).cell 2
          by_cases hx0 : x < 0
          · go_wp2_with (first
              | ((with_reducible refine wpLoadAtS HRY.out 41 fits_turn rfl ?_ ?_); rfl)
              | ((with_reducible refine wpAllocK [Value.int .i64 0, .int .u8 0] 41 zero_turn ?_ ?_); rfl; intro w8 r8 b8 s8; have R8 := Lib.hid r8; have B8 := Lib.hid (HV.out.next b8); clear r8 b8 s8)
              | ((with_reducible refine R8.out.wpStoreK 41 [Value.int .i64 x, .int .u8 (y : Int)] fits_turn rfl rfl rfl ?_ ?_); rfl; intro w9 r9 o9 s9; have c0 := r9.cell 0; have B9 := Lib.hid (B8.out.trans (o9.below HV.out.size B8.out.size)); clear r9 o9 s9))
            go_ret
            exact ⟨rfl, (B5.out.next HW.out).next B9.out⟩
          · by_cases hxn : (n : Int) ≤ x
            · go_wp2_with (first
                | ((with_reducible refine wpLoadAtS HRY.out 41 fits_turn rfl ?_ ?_); rfl)
                | ((with_reducible refine wpAllocK [Value.int .i64 0, .int .u8 0] 41 zero_turn ?_ ?_); rfl; intro w8 r8 b8 s8; have R8 := Lib.hid r8; have B8 := Lib.hid (HV.out.next b8); clear r8 b8 s8)
                | ((with_reducible refine R8.out.wpStoreK 41 [Value.int .i64 x, .int .u8 (y : Int)] fits_turn rfl rfl rfl ?_ ?_); rfl; intro w9 r9 o9 s9; have c0 := r9.cell 0; have B9 := Lib.hid (B8.out.trans (o9.below HV.out.size B8.out.size)); clear r9 o9 s9))
              go_ret
              exact ⟨rfl, (B5.out.next HW.out).next B9.out⟩
            · obtain ⟨xn, rfl⟩ : ∃ xn : Nat, x = (xn : Int) := ⟨x.toNat, by omega⟩
              have hxb : xn < n := by omega
              have HXB := Lib.hid hxb
              have hxi : (xn : Int) < (n : Int) := by omega
              obtain ⟨Wj, hWj⟩ : ∃ W, badT D (T.take j) = W := ⟨_, rfl⟩
              have hWl : Wj.length = n := by rw [← hWj, badT_length, HDL.out]
              have hW8 : By Wj := by rw [← hWj]; exact badT_by HD8.out _ fun t ht => HTB.out t (List.mem_of_mem_take ht)
              have HWN : Hid (u8s (badT D (T.take (j + 1))) ++ ys = (u8s Wj ++ ys).set xn (.int .u8 ((sq Wj xn ^^^ y : Nat) : Int))) := Lib.hid (by
                rw [HTK.out, badT_snoc, hWj, List.set_append_left _ _ (by rw [u8s_length, hWl]; exact hxb), u8s_set]
                rfl)
              have HALL2 : Hid (∀ t ∈ T.take (j + 1), 0 ≤ t.at_ ∧ t.at_ < (n : Int)) := Lib.hid (by
                rw [HTK.out]
                intro t ht
                rcases List.mem_append.1 ht with h | h
                · exact HALL.out t h
                · simp at h; subst h; exact ⟨by show (0 : Int) ≤ xn; omega, hxi⟩)
              obtain ⟨z, hz⟩ : ∃ z, sq Wj xn = z := ⟨_, rfl⟩
              have hz8 : z < 256 := by rw [← hz]; exact hW8.sq _
              have hcz : (u8s Wj ++ ys)[xn]? = some (.int .u8 (z : Int)) := by
                rw [List.getElem?_append_left (by rw [u8s_length, hWl]; exact hxb), ← hz]
                simp only [u8s, List.getElem?_map]
                rw [sq_some _ _ (by rw [hWl]; exact hxb)]
                rfl
              rw [hz] at HWN
              have hxor := u8_xor_nat z y hz8 hy8
              obtain ⟨v, hv⟩ : ∃ v, z ^^^ y = v := ⟨_, rfl⟩
              rw [hv] at HWN hxor
              rw [hWj] at HROW
              have HCZ := Lib.hid hcz
              have HXL : Hid (xn < (u8s Wj ++ ys).length) := Lib.hid (by rw [List.length_append, u8s_length, hWl]; omega)
              have HOK : Hid (KS.ok (xn : Int)) := Lib.hid ⟨by omega, by omega⟩
              have HOL : Hid ((othT n G (T.take j)).length = n) := Lib.hid (othT_length _ _ _)
              have HCO : Hid (cnt (othT n G (T.take j)) < 100000) := Lib.hid (by have := cnt_le (othT n G (T.take j)); rw [othT_length] at this; omega)
              have HNEB : Hid (gb ≠ w7.heap.size) := Lib.hid (Nat.ne_of_lt HGB7.out)
              have hz0 : (z : Int) < 256 := by omega
              have hv1 : IntKind.u8.wrap (v : Int) = (v : Int) := by
                have : v < 256 := by rw [← hv]; exact Nat.xor_lt_two_pow (n := 8) hz8 hy8
                rw [IntKind.wrap_u8]; omega
              cases hga : gAt G xn with
              | true =>
                have HOT : Hid (othT n G (T.take (j + 1)) = othT n G (T.take j)) := Lib.hid (by rw [HTK.out, othT_snoc, if_pos (by exact hga)])
                have HLK : Hid (gS n G (xn : Int) = true) := Lib.hid (by rw [gS_at (by omega) hxi]; exact hga)
                clear hga hWj hWl hW8 hz hcz hv hz8 hy8
                go_wp2_with (first
                  | ((with_reducible refine wpLoadAtS HRY.out 41 fits_turn rfl ?_ ?_); rfl)
                  | ((with_reducible refine wpAllocK [Value.int .i64 0, .int .u8 0] 41 zero_turn ?_ ?_); rfl; intro w8 r8 b8 s8; have R8 := Lib.hid r8; have B8 := Lib.hid (HV.out.next b8); have RW8 := Lib.hid (HROW.out.step b8); have SO8 := Lib.hid (HSO.out.below b8); have HGW := Lib.hid HROW.out.lt; have HMW := Lib.hid HSO.out.lt; clear r8 b8 s8)
                  | ((with_reducible refine R8.out.wpStoreK 41 [Value.int .i64 (xn : Int), .int .u8 (y : Int)] fits_turn rfl rfl rfl ?_ ?_); rfl; intro w9 r9 o9 s9; have R9 := Lib.hid r9; have c0 := r9.cell 0; have B9 := Lib.hid (B8.out.trans (o9.below HV.out.size B8.out.size)); have RW9 := Lib.hid (RW8.out.only o9 (Nat.ne_of_lt HGW.out)); have SO9 := Lib.hid (SO8.out.same (o9.2.2.2.2 _ SO8.out.lt (Nat.ne_of_lt HMW.out))); clear r9 o9 s9))
                have c1 := R9.out.cell 1
                have cz : w9.cell? ⟨gb, xn, none⟩ = some (.int .u8 (z : Int)) := (RW9.out.cell xn).trans HCZ.out
                go_still_tail 9, (by kernel_rfl)
                change wpList _ _ _ _ _ w9.drew
                have R9' := Lib.hid R9.out.drew
                have B9' := Lib.hid B9.out.drew
                have RW9' := Lib.hid RW9.out.drew
                have SO9' := Lib.hid (SO9.out.same (w' := w9.drew) rfl)
                have HRG : Hid (wr.heap.size < w9.drew.heap.size) := Lib.hid R9.out.lt
                clear c0 c1 cz R9 B9 RW9 SO9 R8 RW8 SO8 B8
                generalize w9.drew = wd at *
                go_wp2_with (first
                  | ((with_reducible refine RW9'.out.wpStore1K xn 5 (.int .u8 (v : Int)) size_u8 HXL.out rfl rfl ?_ ?_); rfl; intro w11 r11 o11 s11; have ROW11 := Lib.hid r11; have R11 := Lib.hid (R9'.out.only o11 (Nat.ne_of_gt HGW.out)); have c0 := R11.out.cell 0; have B11 := Lib.hid (B9'.out.trans (o11.below HGB.out B9'.out.size)); have SO11 := Lib.hid (SO9'.out.same (o11.2.2.2.2 _ SO9'.out.lt (fun e => HNEB.out e.symm))); have SG11 := Lib.hid (HSE.out.below B11.out); have hlook : (Instr.lookup 37 (.map (some w5.heap.size)) (.int .i64 (xn : Int)) false).run Try.prog w11 = .ok (.bool true) w11 := (by have h := SG11.out.look HOK.out; rw [HLK.out] at h; exact h); clear r11 o11 s11))
                go_roundw
                case rel => exact ⟨j + 1, by omega, by go_num, HALL2.out, by rw [HWN.out]; exact ROW11.out, by rw [HOT.out]; exact SO11.out, B11.out⟩
                case measure => simp [intOf]; omega
              | false =>
                have HOT : Hid (cnt (othT n G (T.take (j + 1))) = (if gS n (othT n G (T.take j)) (xn : Int) = true then cnt (othT n G (T.take j)) else cnt (othT n G (T.take j)) + 1) ∧ (∀ z, gS n (othT n G (T.take (j + 1))) z = (gS n (othT n G (T.take j)) z || decide (z = (xn : Int))))) := Lib.hid (by
                  rw [HTK.out, othT_snoc, if_neg (by show ¬ gAt G xn = true; rw [hga]; decide)]
                  refine ⟨?_, fun z => gS_set HOL.out (by show (0 : Int) ≤ xn; omega) hxi z⟩
                  rw [cnt_put (by rw [HOL.out]; exact hxb), gS_at (by omega) hxi])
                have HLK : Hid (gS n G (xn : Int) = false) := Lib.hid (by rw [gS_at (by omega) hxi]; exact hga)
                clear hga hWj hWl hW8 hz hcz hv hz8 hy8
                go_wp2_with (first
                  | ((with_reducible refine wpLoadAtS HRY.out 41 fits_turn rfl ?_ ?_); rfl)
                  | ((with_reducible refine wpAllocK [Value.int .i64 0, .int .u8 0] 41 zero_turn ?_ ?_); rfl; intro w8 r8 b8 s8; have R8 := Lib.hid r8; have B8 := Lib.hid (HV.out.next b8); have RW8 := Lib.hid (HROW.out.step b8); have SO8 := Lib.hid (HSO.out.below b8); have HGW := Lib.hid HROW.out.lt; have HMW := Lib.hid HSO.out.lt; clear r8 b8 s8)
                  | ((with_reducible refine R8.out.wpStoreK 41 [Value.int .i64 (xn : Int), .int .u8 (y : Int)] fits_turn rfl rfl rfl ?_ ?_); rfl; intro w9 r9 o9 s9; have R9 := Lib.hid r9; have c0 := r9.cell 0; have B9 := Lib.hid (B8.out.trans (o9.below HV.out.size B8.out.size)); have RW9 := Lib.hid (RW8.out.only o9 (Nat.ne_of_lt HGW.out)); have SO9 := Lib.hid (SO8.out.same (o9.2.2.2.2 _ SO8.out.lt (Nat.ne_of_lt HMW.out))); clear r9 o9 s9))
                have c1 := R9.out.cell 1
                have cz : w9.cell? ⟨gb, xn, none⟩ = some (.int .u8 (z : Int)) := (RW9.out.cell xn).trans HCZ.out
                go_still_tail 9, (by kernel_rfl)
                change wpList _ _ _ _ _ w9.drew
                have R9' := Lib.hid R9.out.drew
                have B9' := Lib.hid B9.out.drew
                have RW9' := Lib.hid RW9.out.drew
                have SO9' := Lib.hid (SO9.out.same (w' := w9.drew) rfl)
                have HRG : Hid (wr.heap.size < w9.drew.heap.size) := Lib.hid R9.out.lt
                clear c0 c1 cz R9 B9 RW9 SO9 R8 RW8 SO8 B8
                generalize w9.drew = wd at *
                go_wp2_with (first
                  | ((with_reducible refine RW9'.out.wpStore1K xn 5 (.int .u8 (v : Int)) size_u8 HXL.out rfl rfl ?_ ?_); rfl; intro w11 r11 o11 s11; have ROW11 := Lib.hid r11; have R11 := Lib.hid (R9'.out.only o11 (Nat.ne_of_gt HGW.out)); have c0 := R11.out.cell 0; have B11 := Lib.hid (B9'.out.trans (o11.below HGB.out B9'.out.size)); have SO11 := Lib.hid (SO9'.out.same (o11.2.2.2.2 _ SO9'.out.lt (fun e => HNEB.out e.symm))); have SG11 := Lib.hid (HSE.out.below B11.out); have hlook : (Instr.lookup 37 (.map (some w5.heap.size)) (.int .i64 (xn : Int)) false).run Try.prog w11 = .ok (.bool false) w11 := (by have h := SG11.out.look HOK.out; rw [HLK.out] at h; exact h); clear r11 o11 s11)
                  | (at_mapUpdate; refine SO11.out.wpPutAny HOK.out HCO.out rfl _ _ _ rfl rfl rfl rfl ?_; intro w12 s12 g12; have S12 := Lib.hid s12; have ROW12 := Lib.hid ((grown_heap g12 HNEB.out ROW11.out.lt).trans ROW11.out); have B12 := Lib.hid (B11.out.grown g12 B11.out.size (fun j hj => by cases hj; exact B67.out.size)); clear s12 g12))
                go_roundw
                case rel => exact ⟨j + 1, by omega, by go_num, HALL2.out, by rw [HWN.out]; exact ROW12.out, S12.out.congr HOT.out.1.symm fun z _ => (HOT.out.2 z).symm, B12.out⟩
                case measure => simp [intOf]; omega
        · have e2 : ¬ (j : Int) < (nt : Int) := by omega
          have hjj : j = T.length := by rw [HNT.out]; omega
          rw [hjj, List.take_of_length_le (Nat.le_refl _)] at HALL HROW HSO
          clear hjj
          obtain ⟨w12, rfl⟩ : ∃ w12, w12 = wr := ⟨_, rfl⟩
          obtain ⟨Wn, hWn⟩ : ∃ W, badT D T = W := ⟨_, rfl⟩
          have hWl : Wn.length = n := by rw [← hWn, badT_length, HDL.out]
          have hW8 : By Wn := by rw [← hWn]; exact badT_by HD8.out _ HTB.out
          obtain ⟨O, hO⟩ : ∃ O, othT n G T = O := ⟨_, rfl⟩
          have hOl : O.length = n := by rw [← hO, othT_length]
          have hoc : ocnt (oth Wn D G) n ≤ cnt O := ocnt_back hOl fun j h1 h2 => by
            rw [← hWn] at h1
            rw [← hO]
            exact badT_oth HDL.out G T HALL.out h1 h2
          rw [hWn] at HROW
          rw [hO] at HSO
          obtain ⟨Y1, hY1⟩ : ∃ m, cnt O = m := ⟨_, rfl⟩
          rw [hY1] at HSO hoc
          have hY255 : Y1 ≤ 255 := by have := cnt_le O; omega
          have HWL := Lib.hid hWl
          have HW8 := Lib.hid hW8
          have HOC := Lib.hid hoc
          have HWI := Lib.hid (HWIT.out w12 b c X1 Y1 (C5.out.step (HW.out.next HV.out)) (by have := HX1b.out; omega) (by omega))
          have hX255 := HX1b.out
          have hl1 : ∀ ty, (Builtin.len_ #[37] ty #[.map (some w5.heap.size)]).run Try.prog w12 = .ok (.int .i64 (X1 : Int)) w12 := fun ty => (HSE.out.below HV.out).len ty
          have hl2 : ∀ ty, (Builtin.len_ #[37] ty #[.map (some w7.heap.size)]).run Try.prog w12 = .ok (.int .i64 (Y1 : Int)) w12 := fun ty => HSO.out.len ty
          clear hWn hO hoc hWl hW8 hOl hY1
          by_cases hin : X1 ≤ p ∧ Y1 ≤ (p - X1) / 2
          · rw [decide_eq_true hin] at HWI
            have HMD : Hid (mendF masseyF n p Wn er = .ok D (atF (SolMath.er Wn D) n)) := Lib.hid (SolMath.decode (HDEC.out Wn HW8.out HWL.out) HP1.out HIN.out (by rw [HG.out, HX1.out]; have := HOC.out; omega))
            obtain ⟨l, hl⟩ : ∃ l, atF (SolMath.er Wn D) n = l := ⟨_, rfl⟩
            have HLE := Lib.hid hl
            rw [hl] at HMD
            have HM13 : Hid (∀ u, Below w12.heap.size w12 u → Calls Try.prog 9 #[.pointer (some ⟨c, 0, none⟩), .slice (some ⟨gb, 0, none⟩) n cb, .slice c' ne ce] u fun e w' => (∃ gm cm ya yc, e = .returned (.tuple #[.slice (some ⟨gm, 0, none⟩) n cm, .slice ya l.length yc, .int .i64 0]) ∧ Lies w' w'.heap.size (some ⟨gm, 0, none⟩) (u8s D) ∧ Lies w' w'.heap.size ya (nats l)) ∧ Below u.heap.size u w') := Lib.hid fun u hu => (HMEN.out u b c gb cb ce Wn c' (C5.out.step ((HW.out.next HV.out).next hu)) HWL.out HCB.out HW8.out (lies_row (HROW.out.step hu)) (HER.out.step (B5.out.next ((HW.out.next HV.out).next hu)))).mono fun e w' ⟨h1, h2⟩ => by
              rw [HMD.out] at h1
              obtain ⟨gm, cm, y, e1, e2, e3, ya, yc, e4, e5, e6⟩ := h1
              subst e4
              exact ⟨⟨gm, cm, ya, yc, e1, e3, e6⟩, h2⟩
            have hl4 : (l.length : Int) ≤ 255 := by
              have : l.length ≤ n := by rw [← hl]; exact atF_le _ n
              omega
            clear hl hin
            obtain ⟨S0, hS0⟩ : ∃ S, str (D.map UInt8.ofNat) = S := ⟨_, rfl⟩
            have HS0 := Lib.hid hS0
            have hbt : (S0.toList == S0.toList) = true := beq_self_eq_true _
            clear hS0
            go_wp2_with (first
              | (go_at_call 10; (with_reducible refine HWI.out.mono ?_); rintro e w13 ⟨rfl, b13⟩; have B13 := Lib.hid b13; have q1 := (R5.out.step ((HW.out.next HV.out).next b13)).cell 1; clear b13)
              | (go_at_call 9; (with_reducible refine (HM13.out w13 B13.out).mono ?_); rintro e w14 ⟨⟨gm, cm, ya, yc, rfl, h1, h2⟩, b14⟩; have LM := Lib.hid h1; have LY := Lib.hid h2; have B14 := Lib.hid (B13.out.next b14); have LD := Lib.hid (L5.out.step ((HW.out.next HV.out).next (B13.out.next b14))); have hc1 : (convert 22 9 (.slice (some ⟨gm, 0, none⟩) n cm)).run Try.prog w14 = .ok (.string S0) w14 := (by have h := rs_conv_u8s (some ⟨gm, 0, none⟩) cm D _ w14 HD8.out (by rw [HDL.out]; exact hn0) LM.out; rw [HDL.out, HS0.out] at h; exact h); have hc2 : (convert 22 9 (.slice (some ⟨g, 0, none⟩) n c2)).run Try.prog w14 = .ok (.string S0) w14 := (by have h := rs_conv_u8s (some ⟨g, 0, none⟩) c2 D _ w14 HD8.out (by rw [HDL.out]; exact hn0) LD.out; rw [HDL.out, HS0.out] at h; exact h); clear h1 h2 b14))
            have RB14 := Lib.hid (HROW.out.step B14.out)
            go_loopw [24, 181] (fun x y wr => ∃ i : Nat, i ≤ n ∧ y = .int .i64 i ∧ x = .int .i64 ((atF (SolMath.er Wn D) i).length : Int) ∧ ∃ nq, wr = w14.drewN nq) (fun _ y _ => n - (intOf y).toNat)
            case atStart => exact ⟨0, Nat.zero_le _, rfl, rfl, 0, rfl⟩
            case round =>
              obtain ⟨i, hi, rfl, rfl, nq, rfl⟩ := hrel
              by_cases hlt3 : i < n
              · have e3 : (i : Int) < (n : Int) := by omega
                obtain ⟨gl, go_, eg, hgl, hgc⟩ := LD.out (by rw [u8s_length, HDL.out]; exact hn0)
                have hcd : w14.cell? ⟨g, i, none⟩ = some (.int .u8 (sq D i : Int)) := by
                  cases eg
                  have h := u8s_sq hgc i (by rw [HDL.out]; exact hlt3)
                  rwa [Nat.zero_add] at h
                have hcw : w14.cell? ⟨gb, i, none⟩ = some (.int .u8 (sq Wn i : Int)) := by
                  rw [RB14.out.cell, List.getElem?_append_left (by rw [u8s_length, HWL.out]; exact hlt3)]
                  simp only [u8s, List.getElem?_map]
                  rw [sq_some _ _ (by rw [HWL.out]; exact hlt3)]
                  rfl
                have hsucc := atF_succ (SolMath.er Wn D) i
                have hatx := atF_at (SolMath.er Wn D) hlt3
                have h8a := HW8.out.sq i
                have h8b := HD8.out.sq i
                have hex : SolMath.er Wn D i = sq Wn i ^^^ sq D i := rfl
                obtain ⟨m, hm⟩ : ∃ m, (atF (SolMath.er Wn D) i).length = m := ⟨_, rfl⟩
                have hmle : m ≤ 255 := by have := atF_le (SolMath.er Wn D) i; omega
                rw [hm] at hatx ⊢
                rw [HLE.out] at hatx
                generalize hea : SolMath.er Wn D i = ea at hsucc hatx hex
                obtain ⟨x, hx⟩ : ∃ x, sq D i = x := ⟨_, rfl⟩
                obtain ⟨y, hy⟩ : ∃ y, sq Wn i = y := ⟨_, rfl⟩
                rw [hx] at hcd hex h8b
                rw [hy] at hcw hex h8a
                have hmI : (m : Int) ≤ 255 := by omega
                have HSU := Lib.hid hsucc
                have HMM := Lib.hid hm
                clear hx hy hea hgc hgl hsucc hm eg
                by_cases hxy : x = y
                · have HEA : Hid (ea = 0) := Lib.hid (by rw [hex, hxy, Nat.xor_self])
                  have hb1 : ((x : Int) == (y : Int)) = true := by rw [hxy]; exact beq_self_eq_true _
                  have hb2 : ((x : Int) != (y : Int)) = false := by rw [bne, hb1]; rfl
                  subst hxy
                  clear hatx hex hb1 hb2
                  go_wp2
                  go_quiet (fail)
                  go_wp2
                  go_roundw
                  case rel => exact ⟨i + 1, by omega, by go_num, by rw [HSU.out, if_pos HEA.out, List.append_nil, HMM.out], _, rfl⟩
                  case measure => simp [intOf]; omega
                · have hea : ea ≠ 0 := by
                    rw [hex]
                    intro h
                    exact hxy (by have := congrArg (fun q => y ^^^ q) h; simp only [← Nat.xor_assoc, Nat.xor_self, Nat.zero_xor, Nat.xor_zero] at this; exact this)
                  have HEA := Lib.hid hea
                  have hb1 : ((x : Int) == (y : Int)) = false := beq_false_of_ne (by omega)
                  have hb2 : ((x : Int) != (y : Int)) = true := by rw [bne, hb1]; rfl
                  have hlm := hatx hea
                  have hml := (List.getElem?_eq_some_iff.1 hlm).1
                  obtain ⟨yb, yo, rfl, hyb, hyc⟩ := LY.out (by rw [nats_length]; omega)
                  have hcy : w14.cell? ⟨yb, yo + m, none⟩ = some (.int .i64 (i : Int)) := hyc m _ (by simp only [nats, List.getElem?_map, hlm]; rfl)
                  have hml2 : (m : Int) < (l.length : Int) := by omega
                  clear hatx hex hea hlm hyc hyb
                  go_wp2
                  go_quiet (fail)
                  go_wp2
                  go_roundw
                  case rel => exact ⟨i + 1, by omega, by go_num, by rw [HSU.out, if_neg HEA.out, List.length_append, HMM.out]; rfl, _, rfl⟩
                  case measure => simp [intOf]; omega
              · have e3 : ¬ (i : Int) < (n : Int) := by omega
                have hii : i = n := by omega
                have hfin : (atF (SolMath.er Wn D) i).length = l.length := by rw [hii, HLE.out]
                rw [hfin]
                clear hii hfin
                go_wp2
                go_ret
                exact ⟨rfl, ((B5.out.next HW.out).trans ((HV.out.next B14.out).mono (B5.out.next HW.out).size)).drewN _⟩
          · rw [decide_eq_false hin] at HWI
            by_cases hx : p < X1
            · have hx1 : (p : Int) < (X1 : Int) := by omega
              have hnk := HNK.out
              go_wp2_with (go_at_call 10; (with_reducible refine HWI.out.mono ?_); rintro e w13 ⟨rfl, b13⟩; have B13 := Lib.hid b13; have hl1 : ∀ ty, (Builtin.len_ #[37] ty #[.map (some w5.heap.size)]).run Try.prog w13 = .ok (.int .i64 (X1 : Int)) w13 := fun ty => (HSE.out.below (HV.out.next b13)).len ty; clear b13)
              go_ret
              exact ⟨rfl, (B5.out.next HW.out).trans ((HV.out.next B13.out).mono (B5.out.next HW.out).size)⟩
            · have hx1 : ¬ (p : Int) < (X1 : Int) := by omega
              have hx2 : (p : Int) < (X1 : Int) + 2 * (Y1 : Int) := by omega
              have hx3 : (Y1 : Int) ≤ 255 := by omega
              have hx4 : (X1 : Int) ≤ 255 := by omega
              have hnk := HNK.out
              go_wp2_with (go_at_call 10; (with_reducible refine HWI.out.mono ?_); rintro e w13 ⟨rfl, b13⟩; have B13 := Lib.hid b13; have hl1 : ∀ ty, (Builtin.len_ #[37] ty #[.map (some w5.heap.size)]).run Try.prog w13 = .ok (.int .i64 (X1 : Int)) w13 := (fun ty => (HSE.out.below (HV.out.next b13)).len ty); have hl2 : ∀ ty, (Builtin.len_ #[37] ty #[.map (some w7.heap.size)]).run Try.prog w13 = .ok (.int .i64 (Y1 : Int)) w13 := (fun ty => (HSO.out.below b13).len ty); clear b13)
              go_ret
              exact ⟨rfl, (B5.out.next HW.out).trans ((HV.out.next B13.out).mono (B5.out.next HW.out).size)⟩
end Go.Proofs.Ytljhbpbjppmoiaa
