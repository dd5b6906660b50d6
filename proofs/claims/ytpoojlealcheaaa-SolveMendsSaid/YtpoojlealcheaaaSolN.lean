/- The document's Mend: has, try. -/
import Derived.Test.YtpoojlealcheaaaSolMath8
import Derived.Test.YtpoojlealcheaaaSolI
import Derived.Test.YtpoojlealcheaaaRsQ
namespace Go.Proofs.Ytpoojlealcheaaa
open Go.RowKit GfMath PolyMath RsMath SolMath
set_option linter.unusedVariables false
set_option linter.unusedSimpArgs false
set_option maxRecDepth 100000

set_option maxHeartbeats 1000000 in
theorem rhas_any (a : Option Addr) (cap : Nat) (l : List Nat) (q : Nat) (w : World) (hl : l.length ≤ 1000) (hr : Lies w w.heap.size a (nats l)) :
    Calls Try.prog 19 #[.slice a l.length cap, .int .i64 (q : Int)] w fun e w' => e = .returned (.bool (decide (q ∈ l))) ∧ w = w' := by
  obtain ⟨n, hn⟩ : ∃ n, l.length = n := ⟨_, rfl⟩
  rw [hn] at hl ⊢
  have HN := Lib.hid hn
  have HR := Lib.hid hr
  have hni : (n : Int) ≤ 1000 := by omega
  obtain ⟨b, hb⟩ : ∃ b, decide (q ∈ l) = b := ⟨_, rfl⟩
  have HB := Lib.hid hb
  rw [hb]
  clear hn hr hl hb
  go_enter Try.func19, Try.ntmps19
  go_wp2
  go_loopw [5] (fun i wr => ∃ j : Nat, j ≤ n ∧ i = .int .i64 j ∧ (∀ c, c < j → sq l c ≠ q) ∧ wr = w) (fun i _ => n - (intOf i).toNat)
  case atStart => exact ⟨0, Nat.zero_le _, rfl, fun c hc => absurd hc (Nat.not_lt_zero _), rfl⟩
  case round =>
    obtain ⟨j, hj, rfl, hno, rfl⟩ := hrel
    have HNO := Lib.hid hno
    clear hno
    by_cases hlt : j < n
    · have hji : (j : Int) < (n : Int) := by omega
      obtain ⟨bp, off, rfl, hbb, hc⟩ := HR.out (by rw [nats_length, HN.out]; omega)
      have hcell : wr.cell? ⟨bp, off + j, none⟩ = some (.int .i64 (sq l j : Int)) := nats_sq (B := 0) hc j (by rw [HN.out]; exact hlt)
      clear hc
      by_cases e : sq l j = q
      · have e1 : ((sq l j : Int) == (q : Int)) = true := by simp [e]
        have ht : b = true := by rw [← HB.out, decide_eq_true_eq, ← e, sq_get _ _ (by rw [HN.out]; exact hlt)]; exact List.getElem_mem _
        subst ht
        generalize sq l j = y at *
        clear e
        go_wp2
        go_ret
        exact ⟨rfl, rfl⟩
      · have e1 : ((sq l j : Int) == (q : Int)) = false := by
          cases h : ((sq l j : Int) == (q : Int)) with
          | false => rfl
          | true => exact absurd (by have := eq_of_beq h; omega) e
        have HE := Lib.hid e
        clear e
        have HNO2 : Hid (∀ c, c < j + 1 → sq l c ≠ q) := Lib.hid fun c hc => by
          by_cases h : c = j
          · rw [h]; exact HE.out
          · exact HNO.out c (by omega)
        clear HE HNO
        generalize sq l j = y at *
        go_wp2
        go_roundw
        case rel => exact ⟨j + 1, by omega, by go_num, HNO2.out, by first | rfl | trivial⟩
        case measure => simp [intOf]; omega
    · have hji : ¬ (j : Int) < (n : Int) := by omega
      have hf : b = false := by rw [← HB.out, decide_eq_false_iff_not]; exact not_mem_sq.1 fun c hc => HNO.out c (by rw [HN.out] at hc; omega)
      subst hf
      go_wp2
      go_ret
      exact ⟨rfl, rfl⟩

/-- append(v, l...): l a row of memory, empty or not. -/
theorem wpAppendR {P : Program} {ops : Array Oper} {rest : List Oper} {o : Oper} {a : Act} {w : World} {Q : Exit → Act → World → Prop} {base n m b : Nat} {T e t : TypeId} {v : Value} {xs news zs : List Value} (c : Nat)
    (hown : w.ownsRow base e 1 v n xs) (hT : P.underlying T = some (.slice e)) (he : One P e) (hs : Row w b t (news ++ zs)) (hl : news.length = m) (h1 : news.all (·.oneCell') = true) (hn : Big (n + m ≤ 1099511627776)) (hbase : base ≤ w.heap.size)
    (ho : appendOf o a = some (T, T, v, .slice (some ⟨b, 0, none⟩) m c))
    (k : ∀ v' w', w'.ownsRow base e 1 v' (n + m) (xs ++ news) → w.grownBy w' v.ownBlock → wpList P ops Q rest (a.put o.dst v') w') : wpList P ops Q (o :: rest) a w := by
  obtain ⟨hg, x, y, hop, hx, hy⟩ := appendOf_spec ho
  obtain ⟨i, z, hi, hz, h2, h3, h4⟩ := he.row
  refine wpList_append_own_at w hg x y T hop base e i z 1 i.bytes hT hi hz h2 rfl h3 (by omega) v n xs hx hown ⟨b, 0, none⟩ m c news hy (by omega) ?_ (fun u hu => (List.all_eq_true.1 h1) u hu) ?_ ?_ hbase fun v' w' g1 g2 _ g4 => k v' w' g1 g2
  · intro j u hj
    rw [Addr.add_mid, Nat.zero_add, hs.cell, List.getElem?_append_left (List.getElem?_eq_some_iff.1 hj).1]
    exact hj
  · have := hn.out; unfold maxLen; omega
  · exact Nat.le_trans (Nat.mul_le_mul hn.out h4) (by omega)
theorem FrB.mono {B B' : Nat} {v : Value} (h : FrB B' v) (hb : B ≤ B') : FrB B v := fun g o n c e => Nat.le_trans hb (h g o n c e)
theorem SolP.mono {B B' : Nat} {r : Option (List Nat)} {e : Ending} {w : World} (h : SolP B' r e w) (hb : B ≤ B') : SolP B r e w := by
  unfold SolP at h ⊢
  cases r with
  | none => exact h
  | some D => obtain ⟨v, h1, h2, h3⟩ := h; exact ⟨v, h1, h2, h3.mono hb⟩

set_option maxHeartbeats 4000000 in
theorem try_any (a : Option Addr) (cap : Nat) (W : List Nat) (n k p : Nat) (hW : By W) (hn : W.length = n) (h255 : n ≤ 255) (hp0 : 0 < p) (hkp : k + p = n) : ∀ (m : Nat) (Pl : List Nat) (f pb capP : Nat) (zs : List Value) (w : World), Plc Pl n → Pl.length + m ≤ p → f ≤ n → Lies w w.heap.size a (u8s W) → Row w pb 3 (nats Pl ++ zs) →
    Calls Try.prog 20 #[.slice a n cap, .int .i64 (n : Int), .int .i64 (k : Int), .slice (some ⟨pb, 0, none⟩) Pl.length capP, .int .i64 (f : Int), .int .i64 (m : Int)] w fun e w' => SolP w.heap.size (tryF W p n m Pl f) e w' ∧ Below w.heap.size w w' := by
  intro m
  induction m with
  | zero =>
    intro Pl f pb capP zs w hP hm hf hr hq
    have HS : Calls Try.prog 41 #[.slice a n cap, .int .i64 (n : Int), .int .i64 (k : Int), .slice (some ⟨pb, 0, none⟩) Pl.length capP] w fun e w' => SolP w.heap.size (solveF W Pl p) e w' ∧ Below w.heap.size w w' := rsolve_any a cap W (some ⟨pb, 0, none⟩) capP Pl n k p w hW hn h255 hp0 hkp hP (by omega) hr (rs_lies hq)
    show Calls _ _ _ w fun e w' => SolP w.heap.size (solveF W Pl p) e w' ∧ Below w.heap.size w w'
    cases hs : solveF W Pl p with
    | some D =>
      rw [hs] at HS
      have HS := Lib.hid HS
      clear hP hm hf hr hq hs hW hn h255 hp0 hkp
      go_enter Try.func20, Try.ntmps20
      go_wp2_with (go_at_call 41; (with_reducible refine HS.out.mono ?_); rintro e u1 ⟨⟨v, rfl, h1, h2⟩, b1⟩; have H1 := Lib.hid h1; have H2 := Lib.hid h2; have B1 := Lib.hid b1; clear h1 h2 b1)
      go_ret2
      exact ⟨⟨v, rfl, H1.out, H2.out⟩, B1.out⟩
    | none =>
      rw [hs] at HS
      have HS := Lib.hid HS
      clear hP hm hf hr hq hs hW hn h255 hp0 hkp
      go_enter Try.func20, Try.ntmps20
      go_wp2_with (go_at_call 41; (with_reducible refine HS.out.mono ?_); rintro e u1 ⟨h1, b1⟩; obtain rfl : e = _ := h1; have B1 := Lib.hid b1; clear b1)
      go_ret2
      exact ⟨rfl, B1.out⟩
  | succ m ih =>
    intro Pl f pb capP zs w hP hm hf hr hq
    have HS : Calls Try.prog 41 #[.slice a n cap, .int .i64 (n : Int), .int .i64 (k : Int), .slice (some ⟨pb, 0, none⟩) Pl.length capP] w fun e w' => SolP w.heap.size (solveF W Pl p) e w' ∧ Below w.heap.size w w' := rsolve_any a cap W (some ⟨pb, 0, none⟩) capP Pl n k p w hW hn h255 hp0 hkp hP (by omega) hr (rs_lies hq)
    have hz : ((m + 1 : Nat) : Int) = (m : Int) + 1 := by omega
    have hz1 : (((m : Int) + 1) == 0) = false := by
      cases h : (((m : Int) + 1) == 0) with
      | false => rfl
      | true => have := eq_of_beq h; omega
    have hmi : (m : Int) ≤ 255 := by omega
    have hni : (n : Int) ≤ 255 := by omega
    cases hs : solveF W Pl p with
    | some D =>
      have ht : tryF W p n (m + 1) Pl f = some D := by rw [tryF, hs]
      rw [ht, hz]
      rw [hs] at HS
      have HS := Lib.hid HS
      clear hP hm hf hr hq hs hW hn h255 hp0 hkp ih ht hz
      go_enter Try.func20, Try.ntmps20
      go_wp2_with (go_at_call 41; (with_reducible refine HS.out.mono ?_); rintro e u1 ⟨⟨v, rfl, h1, h2⟩, b1⟩; have H1 := Lib.hid h1; have H2 := Lib.hid h2; have B1 := Lib.hid b1; clear h1 h2 b1)
      go_ret2
      exact ⟨⟨v, rfl, H1.out, H2.out⟩, B1.out⟩
    | none =>
      obtain ⟨r, ht⟩ : ∃ r, tryL (fun i => tryF W p n m (Pl ++ [i]) (i + 1)) Pl (n - f) f = r := ⟨_, rfl⟩
      have ht2 : tryF W p n (m + 1) Pl f = r := by rw [tryF, hs]; exact ht
      rw [ht2, hz]
      rw [hs] at HS
      have HS := Lib.hid HS
      have HT := Lib.hid ht
      have HR := Lib.hid hr
      have HQ := Lib.hid hq
      have HPC := Lib.hid hP
      have HIH : Hid (∀ (i pb2 cap2 : Nat) (ys : List Value) (u : World), i < n → i ∉ Pl → Lies u u.heap.size a (u8s W) → Row u pb2 3 (nats (Pl ++ [i]) ++ ys) →
          Calls Try.prog 20 #[.slice a n cap, .int .i64 (n : Int), .int .i64 (k : Int), .slice (some ⟨pb2, 0, none⟩) (Pl.length + 1) cap2, .int .i64 ((i : Int) + 1), .int .i64 (m : Int)] u fun e w' => SolP u.heap.size (tryF W p n m (Pl ++ [i]) (i + 1)) e w' ∧ Below u.heap.size u w') := Lib.hid fun i pb2 cap2 ys u h1 h2 h3 h4 => by
        have := ih (Pl ++ [i]) (i + 1) pb2 cap2 ys u (plc_snoc hP h1 h2) (by simp; omega) (by omega) h3 h4
        rwa [List.length_append, List.length_singleton, show ((i + 1 : Nat) : Int) = (i : Int) + 1 by omega] at this
      have HHA : Hid (∀ (u : World) (i : Nat), Row u pb 3 (nats Pl ++ zs) → Calls Try.prog 19 #[.slice (some ⟨pb, 0, none⟩) Pl.length capP, .int .i64 (i : Int)] u fun e w' => e = .returned (.bool (decide (i ∈ Pl))) ∧ u = w') := Lib.hid fun u i h => rhas_any _ _ _ _ u (by omega) (rs_lies h)
      have HNL : Hid ((nats Pl).length = Pl.length) := Lib.hid (nats_length Pl)
      have HN1 : Hid ((nats Pl).all (·.oneCell') = true) := Lib.hid (by unfold nats; rw [List.all_map]; exact List.all_eq_true.2 fun _ _ => rfl)
      have HBG : Big (0 + Pl.length ≤ 1099511627776) := ⟨by omega⟩
      have HBG1 : Big (0 + Pl.length + 1 ≤ 1099511627776) := ⟨by omega⟩
      have HF := Lib.hid hf
      have hfi : (f : Int) ≤ 255 := by omega
      have hPl : (Pl.length : Int) ≤ 255 := by omega
      obtain ⟨q, hq2⟩ : ∃ q, Pl.length = q := ⟨_, rfl⟩
      rw [hq2] at HS HIH HHA HNL HBG HBG1 hPl ⊢
      clear hP hm hf hr hq hs hW hn h255 hp0 hkp ih ht ht2 hz hq2
      go_enter Try.func20, Try.ntmps20
      go_wp2_with (go_at_call 41; (with_reducible refine HS.out.mono ?_); rintro e u1 ⟨h1, b1⟩; obtain rfl : e = _ := h1; have B1 := Lib.hid b1; clear b1)
      go_loopw [16] (fun x wr => ∃ i : Nat, i ≤ n ∧ x = .int .i64 i ∧ tryL (fun i => tryF W p n m (Pl ++ [i]) (i + 1)) Pl (n - i) i = r ∧ Below w.heap.size w wr) (fun x _ => n - (intOf x).toNat)
      case atStart => exact ⟨f, HF.out, rfl, HT.out, B1.out⟩
      case round =>
        clear B1 HT
        obtain ⟨i, hi, rfl, htr, hbw⟩ := hrel
        have HTR := Lib.hid htr
        have HBW := Lib.hid hbw
        clear htr hbw
        by_cases hlt : i < n
        · have hii : (i : Int) < (n : Int) := by omega
          have HRW := Lib.hid (HQ.out.step HBW.out)
          by_cases hmem : i ∈ Pl
          · have HTR2 : Hid (tryL (fun i => tryF W p n m (Pl ++ [i]) (i + 1)) Pl (n - (i + 1)) (i + 1) = r) := Lib.hid (by
              have h := HTR.out
              rw [show n - i = (n - (i + 1)) + 1 by omega, tryL, if_pos hmem] at h
              exact h)
            have HHI := Lib.hid (HHA.out wr i HRW.out)
            rw [decide_eq_true hmem] at HHI
            clear hmem HTR
            go_wp2_with (go_at_call 19; (with_reducible refine HHI.out.mono ?_); rintro e w2 ⟨rfl, rfl⟩)
            go_roundw
            case rel => exact ⟨i + 1, by omega, by go_num, HTR2.out, HBW.out⟩
            case measure => simp [intOf]; omega
          · have HHI := Lib.hid (HHA.out wr i HRW.out)
            rw [decide_eq_false hmem] at HHI
            have HZA := Lib.hid (alloc_below wr (.cells #[] 3)).size
            have HO1 : Hid ((Value.int .i64 (i : Int)).oneCell' = true) := Lib.hid rfl
            have HOWZ := Lib.hid (own_zero wr 3)
            have HRW2 := Lib.hid (HRW.out.step (alloc_below wr (.cells #[] 3)))
            have HIHI := Lib.hid fun pb2 cap2 ys u h3 h4 => HIH.out i pb2 cap2 ys u hlt hmem h3 h4
            have HNN : Hid (nats Pl ++ [.int .i64 (i : Int)] = nats (Pl ++ [i])) := Lib.hid (nats_snoc Pl i).symm
            cases hg : tryF W p n m (Pl ++ [i]) (i + 1) with
            | some D =>
              have hr2 : some D = r := by
                have h := HTR.out
                rw [show n - i = (n - (i + 1)) + 1 by omega, tryL, if_neg hmem] at h
                simp only [hg] at h
                exact h
              subst hr2
              rw [hg] at HIHI
              clear hmem HTR hg HIH HHA
              go_wp2_with (first
                | (go_at_call 19; (with_reducible refine HHI.out.mono ?_); rintro e w2 ⟨rfl, rfl⟩)
                | ((with_reducible refine wpAppendR capP HOWZ.out Try.underlying23 one_int HRW2.out HNL.out HN1.out HBG HZA.out ?_ ?_); rfl; intro v1 w2 g1 g2; have BW2 : Hid (Below wr.heap.size wr w2) := Lib.hid ((alloc_below wr _).grown g2 HZA.out (fun j hj => (HOWZ.out.lt j hj).1)); have HL2 := Lib.hid (Lies.new [Value.int .i64 (i : Int)] w2 3); have HOW2 := Lib.hid (own_below g1 (alloc_below w2 (.cells [Value.int .i64 (i : Int)].toArray 3))); have BW3 : Hid (Below wr.heap.size wr (w2.alloc (.cells [Value.int .i64 (i : Int)].toArray 3))) := Lib.hid (BW2.out.next (alloc_below w2 _)); have HZ2 := Lib.hid BW3.out.size; clear g1 g2)
                | ((with_reducible refine wpAppend1K HOW2.out Try.underlying23 one_int HL2.out HO1.out HBG1 HZ2.out ?_ ?_); rfl; intro v3 w3 g1 g2 g3; rw [List.nil_append, HNN.out, Nat.zero_add] at g1; obtain ⟨pb2, cap2, ys, rfl, _, _, row⟩ := own_some g1 (Nat.succ_pos _); have R3 := Lib.hid row; have BW4 : Hid (Below wr.heap.size wr w3) := Lib.hid (BW3.out.grown g2 HZ2.out (fun j hj => (HOW2.out.lt j hj).1)); have B4 := Lib.hid (HBW.out.next BW4.out); have L4 := Lib.hid (HR.out.step B4.out); clear g1 g2 g3 row)
                | (go_at_call 20; (with_reducible refine (HIHI.out pb2 cap2 ys w3 L4.out R3.out).mono ?_); rintro e w5 ⟨⟨v, rfl, h1, h2⟩, b5⟩; have H1 := Lib.hid h1; have H2 := Lib.hid (h2.mono B4.out.size); have B5 := Lib.hid (B4.out.next b5); clear h1 h2 b5))
              go_ret2
              exact ⟨⟨v, rfl, H1.out, H2.out⟩, B5.out⟩
            | none =>
              have HTR2 : Hid (tryL (fun i => tryF W p n m (Pl ++ [i]) (i + 1)) Pl (n - (i + 1)) (i + 1) = r) := Lib.hid (by
                have h := HTR.out
                rw [show n - i = (n - (i + 1)) + 1 by omega, tryL, if_neg hmem] at h
                simp only [hg] at h
                exact h)
              rw [hg] at HIHI
              clear hmem HTR hg HIH HHA
              go_wp2_with (first
                | (go_at_call 19; (with_reducible refine HHI.out.mono ?_); rintro e w2 ⟨rfl, rfl⟩)
                | ((with_reducible refine wpAppendR capP HOWZ.out Try.underlying23 one_int HRW2.out HNL.out HN1.out HBG HZA.out ?_ ?_); rfl; intro v1 w2 g1 g2; have BW2 : Hid (Below wr.heap.size wr w2) := Lib.hid ((alloc_below wr _).grown g2 HZA.out (fun j hj => (HOWZ.out.lt j hj).1)); have HL2 := Lib.hid (Lies.new [Value.int .i64 (i : Int)] w2 3); have HOW2 := Lib.hid (own_below g1 (alloc_below w2 (.cells [Value.int .i64 (i : Int)].toArray 3))); have BW3 : Hid (Below wr.heap.size wr (w2.alloc (.cells [Value.int .i64 (i : Int)].toArray 3))) := Lib.hid (BW2.out.next (alloc_below w2 _)); have HZ2 := Lib.hid BW3.out.size; clear g1 g2)
                | ((with_reducible refine wpAppend1K HOW2.out Try.underlying23 one_int HL2.out HO1.out HBG1 HZ2.out ?_ ?_); rfl; intro v3 w3 g1 g2 g3; rw [List.nil_append, HNN.out, Nat.zero_add] at g1; obtain ⟨pb2, cap2, ys, rfl, _, _, row⟩ := own_some g1 (Nat.succ_pos _); have R3 := Lib.hid row; have BW4 : Hid (Below wr.heap.size wr w3) := Lib.hid (BW3.out.grown g2 HZ2.out (fun j hj => (HOW2.out.lt j hj).1)); have B4 := Lib.hid (HBW.out.next BW4.out); have L4 := Lib.hid (HR.out.step B4.out); clear g1 g2 g3 row)
                | (go_at_call 20; (with_reducible refine (HIHI.out pb2 cap2 ys w3 L4.out R3.out).mono ?_); rintro e w5 ⟨h1, b5⟩; obtain rfl : e = _ := h1; have B5 := Lib.hid (B4.out.next b5); clear b5))
              go_roundw
              case rel => exact ⟨i + 1, by omega, by go_num, HTR2.out, B5.out⟩
              case measure => simp [intOf]; omega
        · have hie : i = n := by omega
          have hii : ¬ (i : Int) < (n : Int) := by omega
          have hr2 : none = r := by
            have h := HTR.out
            rw [hie, Nat.sub_self, tryL] at h
            exact h
          subst hr2
          go_wp2
          go_ret2
          exact ⟨rfl, HBW.out⟩
end Go.Proofs.Ytpoojlealcheaaa
