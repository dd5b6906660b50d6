/- The texts GeoE, LogC, LogD, BuildB, LogE, LogF, InvW, LogG, LogH, LogI, LogJ, LogQ, one behind the other. -/
import Derived.Great.BuildSlice
import Derived.Test.YtbnjenbhpaknbaaGreatB3
/- Contracts of geo's Half, Tally (gen_geo_e.py). -/
namespace Go.Proofs.YtbnjenbhpaknbaaGreat
open Go.RowKit GeoMath
set_option linter.unusedVariables false
set_option maxRecDepth 100000

set_option maxHeartbeats 2000000 in
theorem half_any (g : Gm) (a b : Int) (w : World) :
    Calls Tryz.prog 10 #[geoV g, .int .i64 a, .int .i64 b] w fun e w' => e = .returned (.tuple #[.int .i64 (half g a b), .int .i64 (halfQ g a b)]) ∧ Below w.heap.size w w' := by
  have HSL := Lib.hid fun w1 => geo_log_any g w1
  have H1 : Hid (∀ w1, Calls Tryz.prog 35 #[.int .i64 a, .int .i64 2] w1 fun e w' => e = .returned (.agg #[.int .i64 a, .int .i64 0, .int .i64 1]) ∧ Below w1.heap.size w1 w') := Lib.hid fun w1 => below_any a 2 1 w1 (by unfold wrap64; omega)
  have H2 : Hid (∀ w1, Calls Tryz.prog 35 #[.int .i64 b, .int .i64 2] w1 fun e w' => e = .returned (.agg #[.int .i64 b, .int .i64 0, .int .i64 1]) ∧ Below w1.heap.size w1 w') := Lib.hid fun w1 => below_any b 2 1 w1 (by unfold wrap64; omega)
  have HA := Lib.hid (ask_val g [⟨a, 0, 1⟩, ⟨b, 0, 1⟩] w (by show 2 < 1000; decide))
  rw [← halfQ] at HA
  have HNO : Hid (¬ halfQ g a b = 0 → half g a b = 0) := Lib.hid fun h => if_neg h
  have HYES : Hid (halfQ g a b = 0 → half g a b = log g + (a * 2 + b) * 4 ∧ (0 ≤ a ∧ a ≤ 1 ∧ 0 ≤ b ∧ b ≤ 1 ∧ 0 ≤ log g ∧ log g ≤ 336)) := Lib.hid fun h => by
    obtain ⟨_, h2⟩ := ask_zero h
    obtain ⟨⟨x1, x2⟩, x3, x4⟩ := (okAll2 _ _).1 h2
    exact ⟨if_pos h, x1, x2, x3, x4, log_le g⟩
  generalize half g a b = rr at HNO HYES ⊢
  generalize halfQ g a b = q at HA HNO HYES ⊢
  generalize log g = sl at HSL HYES
  obtain ⟨d, p, s⟩ := g
  dsimp only [geoV] at HSL HA ⊢
  go_enter Tryz.func10, Tryz.ntmps10
  go_wp2_with ((with_reducible refine wpBoxK [Value.int .i64 d, .int .i64 p, .int .i64 s] 33 ?_ ?_); rfl; intro w1 r1 b1 s1; have R1 := Lib.hid r1; have B1 := Lib.hid b1; clear r1 b1 s1)
  have HLT : Hid (w.heap.size < w1.heap.size) := Lib.hid R1.out.lt
  have C0 : Hid (w1.cell? ⟨w.heap.size, 0, none⟩ = some (.int .i64 d)) := Lib.hid (R1.out.cell 0)
  have C1 : Hid (w1.cell? ⟨w.heap.size, 1, none⟩ = some (.int .i64 p)) := Lib.hid (R1.out.cell 1)
  have C2 : Hid (w1.cell? ⟨w.heap.size, 2, none⟩ = some (.int .i64 s)) := Lib.hid (R1.out.cell 2)
  refine region_invX [(0, 9), (1, 10), (2, 11), (3, 12), (4, 13), (5, 14), (6, 15), (7, 8)]
    (fun ii => [Is (.agg #[(.int .i64 d), (.int .i64 p), (.int .i64 s)]), Is (.int .i64 a), Is (.agg #[.int .i64 a, .int .i64 0, .int .i64 1]), Is (.int .i64 b), Is (.agg #[.int .i64 b, .int .i64 0, .int .i64 1]), Sps [⟨a, 0, 1⟩, ⟨b, 0, 1⟩], Is (.int .i64 q), Is (.int .i64 q)].getD ii (Is undef))
    (fun w' => Below w1.heap.size w1 w') (by kernel_rfl) (by kernel_rfl) (by decide) (by decide) (by kernel_rfl) rfl ?monoq ((Below.refl _ _).drew) ?stepq ?finq
  case monoq =>
    intro i
    match i with
    | 0 | 1 | 2 | 3 | 4 | 6 | 7 => exact Is.monot _
    | 5 => exact Sps.monot _
    | _ + 8 => exact Is.monot _
  case stepq =>
    refine List.forall_mem_cons.2 ⟨?qs0, List.forall_mem_cons.2 ⟨?qs1, List.forall_mem_cons.2 ⟨?qs2, List.forall_mem_cons.2 ⟨?qs3, List.forall_mem_cons.2 ⟨?qs4, List.forall_mem_cons.2 ⟨?qs5, List.forall_mem_cons.2 ⟨?qs6, List.forall_mem_cons.2 ⟨?qs7, List.forall_mem_nil _⟩⟩⟩⟩⟩⟩⟩⟩
    case qs0 =>
      intro u wx hg hC
      clear hC
      have hcl0 : wx.cell? ⟨w.heap.size, 0, none⟩ = some (.int .i64 d) := (hg.cell (p := ⟨w.heap.size, 0, none⟩) HLT.out).trans C0.out
      have hcl1 : wx.cell? ⟨w.heap.size, 1, none⟩ = some (.int .i64 p) := (hg.cell (p := ⟨w.heap.size, 1, none⟩) HLT.out).trans C1.out
      have hcl2 : wx.cell? ⟨w.heap.size, 2, none⟩ = some (.int .i64 s) := (hg.cell (p := ⟨w.heap.size, 2, none⟩) HLT.out).trans C2.out
      refine wpOp_step rfl (fun K hK => ?_)
      simp only [puts, List.foldl]
      go_simp
      exact hK _ _ ⟨rfl, rfl, hg, Below.refl _ _⟩
    case qs1 =>
      intro u wx hg hC
      clear hC
      refine wpOp_step rfl (fun K hK => ?_)
      simp only [puts, List.foldl]
      go_simp
      exact hK _ _ ⟨rfl, rfl, hg, Below.refl _ _⟩
    case qs2 =>
      intro u wx hg hC
      have hJ1 : u 1 = (.int .i64 a) := hC.at 1 (by kernel_rfl)
      clear hC
      refine wpOp_step rfl (fun K hK => ?_)
      simp only [puts, List.foldl]
      go_simp
      refine (H1.out wx).mono ?_
      rintro e w' ⟨rfl, hb'⟩
      exact hK _ _ ⟨rfl, rfl, hg.next hb', hb'⟩
    case qs3 =>
      intro u wx hg hC
      clear hC
      refine wpOp_step rfl (fun K hK => ?_)
      simp only [puts, List.foldl]
      go_simp
      exact hK _ _ ⟨rfl, rfl, hg, Below.refl _ _⟩
    case qs4 =>
      intro u wx hg hC
      have hJ3 : u 3 = (.int .i64 b) := hC.at 3 (by kernel_rfl)
      clear hC
      refine wpOp_step rfl (fun K hK => ?_)
      simp only [puts, List.foldl]
      go_simp
      refine (H2.out wx).mono ?_
      rintro e w' ⟨rfl, hb'⟩
      exact hK _ _ ⟨rfl, rfl, hg.next hb', hb'⟩
    case qs5 =>
      intro u wx hg hC
      have hJ2 : u 2 = (.agg #[.int .i64 a, .int .i64 0, .int .i64 1]) := hC.at 2 (by kernel_rfl)
      have hJ4 : u 4 = (.agg #[.int .i64 b, .int .i64 0, .int .i64 1]) := hC.at 4 (by kernel_rfl)
      clear hC
      refine wpOp_step rfl (fun K hK => ?_)
      simp only [puts, List.foldl]
      go_simp
      exact hK _ _ ⟨rfl, sps_new [⟨a, 0, 1⟩, ⟨b, 0, 1⟩] _ 2 wx rfl rfl, hg.alloc hg.size _, alloc_below _ _⟩
    case qs6 =>
      intro u wx hg hC
      have hJ0 : u 0 = (.agg #[(.int .i64 d), (.int .i64 p), (.int .i64 s)]) := hC.at 0 (by kernel_rfl)
      have hJ5 : (Sps [⟨a, 0, 1⟩, ⟨b, 0, 1⟩]) (u 5) wx := hC.at 5 (by kernel_rfl)
      clear hC
      refine wpOp_step rfl (fun K hK => ?_)
      simp only [puts, List.foldl]
      go_simp
      refine (HA.out wx _ hJ5).mono ?_
      rintro e w' ⟨rfl, hb'⟩
      exact hK _ _ ⟨rfl, rfl, hg.next hb', hb'⟩
    case qs7 =>
      intro u wx hg hC
      have hJ6 : u 6 = (.int .i64 q) := hC.at 6 (by kernel_rfl)
      clear hC
      refine wpOp_step rfl (fun K hK => ?_)
      simp only [puts, List.foldl]
      go_simp
      exact hK _ _ ⟨rfl, rfl, hg, Below.refl _ _⟩
  case finq =>
    intro u wq hbq hφ
    have e8 : u 7 = .int .i64 q := hφ (7, 8) (by decide)
    clear hφ
    simp only [puts, List.foldl]
    go_simp
    have BQ := Lib.hid (B1.out.next hbq)
    have RQ := Lib.hid (R1.out.step hbq)
    clear hbq e8
    cases hz : decide (q = 0) with
    | false =>
      have hq0 : ¬ q = 0 := of_decide_eq_false hz
      have hq1 : (q == 0) = false := beq_false_of_ne hq0
      have hq2 : (q != 0) = true := by rw [bne, hq1]; rfl
      have HN := Lib.hid (HNO.out hq0)
      clear hz
      go_wp2
      go_ret2
      exact ⟨by rw [HN.out]; rfl, BQ.out⟩
    | true =>
      have hq0 : q = 0 := of_decide_eq_true hz
      have HIN := HYES.out hq0
      have HE := Lib.hid HIN.1
      obtain ⟨x1, x2, x3, x4, x5, x6⟩ := HIN.2
      subst hq0
      clear hz HIN
      go_wp2_with (first
        | ((with_reducible refine RQ.out.wpLoadK 33 fits_geo rfl ?_ ?_); rfl)
        | (go_at_call 36; (with_reducible refine (HSL.out wq).mono ?_); rintro e wr ⟨rfl, br⟩; have HBR := Lib.hid (BQ.out.next br); clear br))
      go_ret2
      exact ⟨by rw [HE.out]; rfl, HBR.out⟩
end Go.Proofs.YtbnjenbhpaknbaaGreat

/- A log in memory; none, at, Room, Gen, Clean, All. -/
namespace Go.Proofs.YtbnjenbhpaknbaaGreat
open Go.RowKit CrcMath NumMath FlaMath GeoMath
set_option linter.unusedVariables false
set_option maxRecDepth 100000

/-- Where a log lies. -/
structure LogD where
  l : Nat
  tb : Nat
  sh : Sh
  g : Gm
def LogD.L (A : LogD) : Nat := (GeoMath.log A.g).toNat
def halfL (V : LV) (sl : Value) : List Value := [.int .i64 (V.which : Int), .int .i64 V.gen, sl, .int .i64 (V.next : Int), .bool V.clean]
def logL (A : LogD) (V : LV) (sl : Value) : List Value := [.pointer (some ⟨A.sh.b, 0, none⟩), .int .i64 (V.which : Int), .int .i64 V.gen, sl, .int .i64 (V.next : Int), .bool V.clean, .int .i64 A.g.d, .int .i64 A.g.p, .int .i64 A.g.s, .pointer (some ⟨A.tb, 0, none⟩)]
/-- The block that a slice lies in. -/
def ob (v : Value) : List Nat := v.ownBlock.toList
theorem mem_ob {v : Value} {k : Nat} : k ∈ ob v ↔ v.ownBlock = some k := by unfold ob; cases v.ownBlock <;> simp [eq_comm]
def LogD.S (A : LogD) (sl : Value) : List Nat := A.l :: (ob sl ++ A.sh.S)
/-- A log of a device, all of whose blocks lie at B or above. -/
structure LogAt (B : Nat) (w : World) (A : LogD) (D : Dv) (V : LV) (sl : Value) : Prop where
  dev : Dvx w A.sh D
  row : Row w A.l 63 (logL A V sl)
  tab : TabAt w A.tb
  own : w.ownsRow B 36 4 sl V.recs.length (rcs V.recs)
  geo : right A.g = true
  fit : GeoMath.log A.g + 18 ≤ D.L.length
  wh : V.which < 2
  nx : V.next ≤ 16
  bs : ∀ k ∈ A.sh.S, B ≤ k
  bl : B ≤ A.l
  tl : A.tb ≠ A.l
  ts : A.tb ∉ A.sh.S
  tow : A.tb ∉ ob sl
/-- The block of what a call owns, as a row. -/
theorem owns_row {w : World} {base s n : Nat} {e : TypeId} {v : Value} {xs : List Value} (h : w.ownsRow base e s v n xs) {k : Nat} (hk : k ∈ ob v) : ∃ l, Row w k e l := by
  rw [mem_ob] at hk
  rcases h.2 with ⟨h1, _⟩ | ⟨g, cap, cur, h1, _, h3, _⟩
  · rw [h1] at hk; cases hk
  · rw [h1] at hk
    have hg : g = k := by simpa [Value.ownBlock] using hk
    subst hg
    exact ⟨cur.toList, by unfold Row; rw [h3, Array.toArray_toList]⟩
/-- What a call owns, while other blocks turn. -/
theorem owns_onl {w w' : World} {base s n : Nat} {e : TypeId} {v : Value} {xs : List Value} {S : List Nat} (h : w.ownsRow base e s v n xs) (ho : Onl S w w') (hs : ∀ k ∈ ob v, k ∉ S) : w'.ownsRow base e s v n xs := by
  refine ⟨h.1, ?_⟩
  rcases h.2 with h2 | ⟨g, cap, cur, h1, h2, h3, h4⟩
  · exact .inl h2
  · refine .inr ⟨g, cap, cur, h1, h2, ?_, h4⟩
    rw [ho.2.2.2.2 g (Array.getElem?_eq_some_iff.1 h3).1 (hs g (by rw [h1]; simp [ob, Value.ownBlock]))]
    exact h3
theorem owns_below {w w' : World} {base s n N : Nat} {e : TypeId} {v : Value} {xs : List Value} (h : w.ownsRow base e s v n xs) (hb : Below N w w') (hs : ∀ k ∈ ob v, k < N) : w'.ownsRow base e s v n xs := by
  refine ⟨h.1, ?_⟩
  rcases h.2 with h2 | ⟨g, cap, cur, h1, h2, h3, h4⟩
  · exact .inl h2
  · refine .inr ⟨g, cap, cur, h1, h2, ?_, h4⟩
    rw [hb.block g (hs g (by rw [h1]; simp [ob, Value.ownBlock]))]
    exact h3
theorem owns_only {w w' : World} {base s n g : Nat} {e : TypeId} {v : Value} {xs : List Value} (h : w.ownsRow base e s v n xs) (ho : Only g w w') (hs : ∀ k, v.ownBlock = some k → k ≠ g) : w'.ownsRow base e s v n xs := by
  refine ⟨h.1, ?_⟩
  rcases h.2 with h2 | ⟨g', cap, cur, h1, h2, h3, h4⟩
  · exact .inl h2
  · exact .inr ⟨g', cap, cur, h1, h2, (ho.2.2.2.2 g' (Array.getElem?_eq_some_iff.1 h3).1 (hs g' (by rw [h1]; rfl))).trans h3, h4⟩
section
variable {B : Nat} {w w' : World} {A : LogD} {D D' : Dv} {V : LV} {sl : Value}
theorem LogAt.l_dev (h : LogAt B w A D V sl) : A.l ∉ A.sh.S := h.row.offD h.dev (by decide) (by decide) (by decide) (by decide)
theorem LogAt.o_dev (h : LogAt B w A D V sl) : ∀ k ∈ ob sl, k ∉ A.sh.S := fun k hk => by
  obtain ⟨l, hl⟩ := owns_row h.own hk
  exact hl.offD h.dev (by decide) (by decide) (by decide) (by decide)
theorem LogAt.o_l (h : LogAt B w A D V sl) : ∀ k ∈ ob sl, k ≠ A.l := fun k hk => by
  obtain ⟨l, hl⟩ := owns_row h.own hk
  exact row_ne hl h.row (by decide)
theorem LogAt.step (h : LogAt B w A D V sl) (hb : Below w.heap.size w w') : LogAt B w' A D V sl :=
  ⟨h.dev.step hb, h.row.step hb, h.tab.step hb, owns_step h.own hb, h.geo, h.fit, h.wh, h.nx, h.bs, h.bl, h.tl, h.ts, h.tow⟩
/-- The device alone has turned. -/
theorem LogAt.go (h : LogAt B w A D V sl) (ho : Onl A.sh.S w w') (hd : Dvx w' A.sh D') (hL : D'.L.length = D.L.length) : LogAt B w' A D' V sl :=
  ⟨hd, h.row.onl ho h.l_dev, h.tab.onl ho h.ts, owns_onl h.own ho h.o_dev, h.geo, by rw [hL]; exact h.fit, h.wh, h.nx, h.bs, h.bl, h.tl, h.ts, h.tow⟩
/-- Other blocks have turned. -/
theorem LogAt.off {S : List Nat} (h : LogAt B w A D V sl) (ho : Onl S w w') (hs : ∀ k ∈ A.S sl, k ∉ S) (ht : A.tb ∉ S) : LogAt B w' A D V sl :=
  ⟨h.dev.onl ho fun k hk => hs k (by simp [LogD.S, hk]), h.row.onl ho (hs _ (by simp [LogD.S])), h.tab.onl ho ht, owns_onl h.own ho fun k hk => hs k (by simp [LogD.S, hk]), h.geo, h.fit, h.wh, h.nx, h.bs, h.bl, h.tl, h.ts, h.tow⟩
/-- All its blocks lie below the world's end. -/
theorem LogAt.low (h : LogAt B w A D V sl) : (∀ k ∈ A.S sl, k < w.heap.size) ∧ A.tb < w.heap.size := by
  refine ⟨fun k hk => ?_, h.tab.lt⟩
  simp only [LogD.S, List.mem_cons, List.mem_append] at hk
  rcases hk with rfl | hk | hk
  · exact h.row.lt
  · obtain ⟨l, hl⟩ := owns_row h.own hk
    exact hl.lt
  · exact h.dev.lt k hk
theorem LogAt.below {N : Nat} (h : LogAt B w A D V sl) (hb : Below N w w') (hs : ∀ k ∈ A.S sl, k < N) (ht : A.tb < N) : LogAt B w' A D V sl :=
  ⟨let ⟨o, hd⟩ := h.dev; ⟨o, hd.below hb fun k hk => hs k (by simp [LogD.S, hk])⟩, h.row.below hb (hs _ (by simp [LogD.S])), ⟨Nat.lt_of_lt_of_le h.tab.lt hb.size, h.tab.tab.below hb ht⟩, owns_below h.own hb fun k hk => hs k (by simp [LogD.S, hk]), h.geo, h.fit, h.wh, h.nx, h.bs, h.bl, h.tl, h.ts, h.tow⟩
/-- It was there at w0 already; nothing that was there then has turned. -/
theorem LogAt.keep {w0 : World} {D0 : Dv} {V0 : LV} (h0 : LogAt B w0 A D0 V0 sl) (h : LogAt B w A D V sl) (hb : Below w0.heap.size w w') : LogAt B w' A D V sl :=
  h.below hb h0.low.1 h0.low.2
theorem LogAt.lt (h : LogAt B w A D V sl) : A.l < w.heap.size := h.row.lt
theorem LogAt.sB (h : LogAt B w A D V sl) : ∀ k ∈ A.S sl, B ≤ k := fun k hk => by
  simp only [LogD.S, List.mem_cons, List.mem_append] at hk
  rcases hk with rfl | hk | hk
  · exact h.bl
  · exact owns_ge h.own k (mem_ob.1 hk)
  · exact h.bs k hk
theorem LogAt.c0 (h : LogAt B w A D V sl) : w.cell? ⟨A.l, 0, none⟩ = some (.pointer (some ⟨A.sh.b, 0, none⟩)) := h.row.cell 0
theorem LogAt.c1 (h : LogAt B w A D V sl) : w.cell? ⟨A.l, 1, none⟩ = some (.int .i64 (V.which : Int)) := h.row.cell 1
theorem LogAt.c2 (h : LogAt B w A D V sl) : w.cell? ⟨A.l, 2, none⟩ = some (.int .i64 V.gen) := h.row.cell 2
theorem LogAt.c3 (h : LogAt B w A D V sl) : w.cell? ⟨A.l, 3, none⟩ = some sl := h.row.cell 3
theorem LogAt.c4 (h : LogAt B w A D V sl) : w.cell? ⟨A.l, 4, none⟩ = some (.int .i64 (V.next : Int)) := h.row.cell 4
theorem LogAt.c5 (h : LogAt B w A D V sl) : w.cell? ⟨A.l, 5, none⟩ = some (.bool V.clean) := h.row.cell 5
theorem LogAt.c9 (h : LogAt B w A D V sl) : w.cell? ⟨A.l, 9, none⟩ = some (.pointer (some ⟨A.tb, 0, none⟩)) := h.row.cell 9
theorem LogAt.cg (h : LogAt B w A D V sl) : w.rangeAt A.l 6 [.int .i64 A.g.d, .int .i64 A.g.p, .int .i64 A.g.s] := by
  have e : logL A V sl = [.pointer (some ⟨A.sh.b, 0, none⟩), .int .i64 (V.which : Int), .int .i64 V.gen, sl, .int .i64 (V.next : Int), .bool V.clean] ++ [.int .i64 A.g.d, .int .i64 A.g.p, .int .i64 A.g.s] ++ [.pointer (some ⟨A.tb, 0, none⟩)] := rfl
  have := h.row
  rw [e] at this
  exact this.mid 6 rfl
theorem LogAt.isL (h : LogAt B w A D V sl) : GeoMath.log A.g = (A.L : Int) ∧ A.L ≤ 336 := by
  have := log_le A.g
  unfold LogD.L
  omega
end

theorem log_none_nil (w : World) : Calls Tryz.prog 27 #[.pointer none] w fun e w' => e = .returned (.bool true) ∧ w = w' := by
  go_enter Tryz.func27, Tryz.ntmps27
  go_wp2
  go_ret
  exact ⟨rfl, rfl⟩
theorem log_none_any {B : Nat} {w : World} {A : LogD} {D : Dv} {V : LV} {sl : Value} (h : LogAt B w A D V sl) : Calls Tryz.prog 27 #[.pointer (some ⟨A.l, 0, none⟩)] w fun e w' => e = .returned (.bool false) ∧ w = w' := by
  have c0 := h.c0
  clear h
  go_enter Tryz.func27, Tryz.ntmps27
  go_wp2
  go_ret
  exact ⟨rfl, rfl⟩
theorem log_gen_nil (w : World) : Calls Tryz.prog 18 #[.pointer none] w fun e w' => e = .returned (.int .i64 0) ∧ w = w' := by
  go_enter Tryz.func18, Tryz.ntmps18
  go_wp2_with (go_at_call 27; (with_reducible refine (log_none_nil w).mono ?_); rintro e _ ⟨rfl, rfl⟩)
  go_ret
  exact ⟨rfl, rfl⟩
theorem log_gen_any {B : Nat} {w : World} {A : LogD} {D : Dv} {V : LV} {sl : Value} (h : LogAt B w A D V sl) : Calls Tryz.prog 18 #[.pointer (some ⟨A.l, 0, none⟩)] w fun e w' => e = .returned (.int .i64 V.gen) ∧ w = w' := by
  have HN := Lib.hid (log_none_any h)
  have c2 := h.c2
  clear h
  go_enter Tryz.func18, Tryz.ntmps18
  go_wp2_with (go_at_call 27; (with_reducible refine HN.out.mono ?_); rintro e _ ⟨rfl, rfl⟩)
  go_ret
  exact ⟨rfl, rfl⟩
theorem log_room_nil (w : World) : Calls Tryz.prog 29 #[.pointer none] w fun e w' => e = .returned (.int .i64 0) ∧ w = w' := by
  go_enter Tryz.func29, Tryz.ntmps29
  go_wp2_with (go_at_call 27; (with_reducible refine (log_none_nil w).mono ?_); rintro e _ ⟨rfl, rfl⟩)
  go_ret
  exact ⟨rfl, rfl⟩
theorem log_room_any {B : Nat} {w : World} {A : LogD} {D : Dv} {V : LV} {sl : Value} (h : LogAt B w A D V sl) : Calls Tryz.prog 29 #[.pointer (some ⟨A.l, 0, none⟩)] w fun e w' => e = .returned (.int .i64 (16 - (V.next : Int))) ∧ w = w' := by
  have HN := Lib.hid (log_none_any h)
  have c4 := h.c4
  have hnx := h.nx
  clear h
  generalize V.next = n at *
  have hn : (n : Int) ≤ 16 := by omega
  clear hnx
  go_enter Tryz.func29, Tryz.ntmps29
  go_wp2_with (go_at_call 27; (with_reducible refine HN.out.mono ?_); rintro e _ ⟨rfl, rfl⟩)
  go_ret
  exact ⟨rfl, rfl⟩
theorem log_clean_nil (w : World) : Calls Tryz.prog 19 #[.pointer none] w fun e w' => e = .returned (.bool false) ∧ w = w' := by
  go_enter Tryz.func19, Tryz.ntmps19
  go_wp2_with (go_at_call 27; (with_reducible refine (log_none_nil w).mono ?_); rintro e _ ⟨rfl, rfl⟩)
  go_ret
  exact ⟨rfl, rfl⟩
theorem log_clean_any {B : Nat} {w : World} {A : LogD} {D : Dv} {V : LV} {sl : Value} (h : LogAt B w A D V sl) : Calls Tryz.prog 19 #[.pointer (some ⟨A.l, 0, none⟩)] w fun e w' => e = .returned (.bool V.clean) ∧ w = w' := by
  have HN := Lib.hid (log_none_any h)
  have c5 := h.c5
  clear h
  go_enter Tryz.func19, Tryz.ntmps19
  go_wp2_with (go_at_call 27; (with_reducible refine HN.out.mono ?_); rintro e _ ⟨rfl, rfl⟩)
  go_ret
  exact ⟨rfl, rfl⟩
theorem log_all_nil (w : World) : Calls Tryz.prog 12 #[.pointer none] w fun e w' => e = .returned (.slice none 0 0) ∧ w = w' := by
  go_enter Tryz.func12, Tryz.ntmps12
  go_wp2_with (go_at_call 27; (with_reducible refine (log_none_nil w).mono ?_); rintro e _ ⟨rfl, rfl⟩)
  go_ret
  exact ⟨rfl, rfl⟩
theorem log_all_any {B : Nat} {w : World} {A : LogD} {D : Dv} {V : LV} {sl : Value} (h : LogAt B w A D V sl) (hr : V.recs.length ≤ 1000) : Calls Tryz.prog 12 #[.pointer (some ⟨A.l, 0, none⟩)] w fun e w' => (∃ v, e = .returned v ∧ w'.ownsRow w.heap.size 36 4 v V.recs.length (rcs V.recs)) ∧ Below w.heap.size w w' := by
  have HN := Lib.hid (log_none_any h)
  have c3 := h.c3
  obtain ⟨a, cap, rfl, hl⟩ := own_formM h.own
  have HC := Lib.hid (log_clone a V.recs.length cap V.recs w rfl (by omega) hl)
  clear h hl hr
  generalize V.recs.length = n at *
  generalize rcs V.recs = X at *
  go_enter Tryz.func12, Tryz.ntmps12
  go_wp2_with (first
    | (go_at_call 27; (with_reducible refine HN.out.mono ?_); rintro e _ ⟨rfl, rfl⟩)
    | (go_at_call 39; (with_reducible refine HC.out.mono ?_); rintro e u1 ⟨⟨v, rfl, o1⟩, b1⟩; have O1 := Lib.hid o1; have B1 := Lib.hid b1; clear o1 b1))
  go_ret
  exact ⟨⟨v, rfl, O1.out⟩, B1.out⟩
/-- Where a page lies. -/
theorem log_at_any {B : Nat} {w : World} {A : LogD} {D : Dv} {V : LV} {sl : Value} (h : LogAt B w A D V sl) (a c n : Nat) (ha : a < 2) (hc : c < 2) (hn : n ≤ 16) :
    Calls Tryz.prog 57 #[.pointer (some ⟨A.l, 0, none⟩), .int .i64 (a : Int), .int .i64 (c : Int), .int .i64 (n : Int)] w fun e w' => e = .returned (.int .i64 ((atF A.L a c + 16 * n : Nat) : Int)) ∧ Below w.heap.size w w' := by
  have CG := Lib.hid h.cg
  obtain ⟨hL, hL2⟩ := h.isL
  have hq : halfQ A.g (a : Int) (c : Int) = 0 := by
    unfold halfQ askF
    rw [if_pos h.geo, if_pos ((okAll2 _ _).2 ⟨⟨by simp, by simp; omega⟩, by simp, by simp; omega⟩)]
  have hh : half A.g (a : Int) (c : Int) = ((A.L + (a * 2 + c) * 4 : Nat) : Int) := by
    unfold half
    rw [if_pos hq, hL]
    omega
  have HH := Lib.hid (half_any A.g (a : Int) (c : Int) w)
  rw [hq, hh] at HH
  obtain ⟨m, hm⟩ : ∃ m, A.L + (a * 2 + c) * 4 = m := ⟨_, rfl⟩
  have hm2 : (m : Int) ≤ 400 := by omega
  have HR : Hid (atF A.L a c + 16 * n = m * 64 + n * 16) := Lib.hid (by unfold atF; rw [hm]; omega)
  rw [hm] at HH
  rw [HR.out]
  have hnI : (n : Int) ≤ 16 := by omega
  have e1 : (m : Int) * 64 = ((m * 64 : Nat) : Int) := by omega
  have e2 : (n : Int) * 16 = ((n * 16 : Nat) : Int) := by omega
  obtain ⟨x, hx⟩ : ∃ x, m * 64 = x := ⟨_, rfl⟩
  obtain ⟨y, hy⟩ : ∃ y, n * 16 = y := ⟨_, rfl⟩
  have hxI : (x : Int) ≤ 25600 := by omega
  have hyI : (y : Int) ≤ 256 := by omega
  rw [hx] at e1 ⊢
  rw [hy] at e2 ⊢
  obtain ⟨z, hz⟩ : ∃ z, x + y = z := ⟨_, rfl⟩
  have e3 : (x : Int) + (y : Int) = (z : Int) := by omega
  have e4 : IntKind.i64.wrap (z : Int) = (z : Int) := by rw [IntKind.wrap_i64]; omega
  rw [hz]
  clear h hL hL2 hq hh hm hx hy hz HR ha hc hn
  generalize hgg : A.g = g at *
  obtain ⟨gd, gp, gs⟩ := g
  dsimp only [geoV] at HH CG
  clear hgg
  go_enter Tryz.func57, Tryz.ntmps57
  go_wp2_with (first
    | ((with_reducible refine wpLoadRK CG.out 33 fits_geo rfl ?_ ?_); rfl)
    | (go_at_call 10; (with_reducible refine HH.out.mono ?_); rintro e u1 ⟨rfl, b1⟩; have B1 := Lib.hid b1; clear b1))
  go_ret
  exact ⟨rfl, B1.out⟩
end Go.Proofs.YtbnjenbhpaknbaaGreat

/- What stands on a page, on a half's pages (gen_log_d.py). -/
namespace Go.Proofs.YtbnjenbhpaknbaaGreat
open Go.RowKit CrcMath NumMath FlaMath GeoMath
set_option linter.unusedVariables false
set_option maxRecDepth 100000

def pick0 (ok : Bool) (r : Rc) : List Value := if ok then r.cells else rcv 0 0 0 0
theorem pick0_len (ok : Bool) (r : Rc) : (pick0 ok r).length = 4 := by unfold pick0; cases ok <;> rfl
theorem pick0_one (ok : Bool) (r : Rc) : (pick0 ok r).all (·.oneCell') = true := by unfold pick0; cases ok <;> rfl
set_option maxHeartbeats 1000000 in
theorem log_get_any {B : Nat} {w : World} {A : LogD} {D : Dv} {V : LV} {sl : Value} (h : LogAt B w A D V sl) (n : Nat) (s : ByteArray) (hz : s.size ≤ 140737488355328) :
    Calls Tryz.prog 83 #[.pointer (some ⟨A.l, 0, none⟩), .int .i64 (n : Int), .string s] w fun e w' => e = .returned (.tuple #[.agg (pick0 (isN n s.data.toList) (rd s.data.toList)).toArray, .bool (isN n s.data.toList)]) ∧ Below w.heap.size w w' := by
  have HC9 : Hid (∀ u, Below w.heap.size w u → u.cell? ⟨A.l, 9, none⟩ = some (.pointer (some ⟨A.tb, 0, none⟩))) := Lib.hid fun u hb => (h.step hb).c9
  have HG : Hid (∀ u, Below w.heap.size w u → Calls Tryz.prog 100 #[.pointer (some ⟨A.tb, 0, none⟩), .string s] u fun e u' => e = .returned (.tuple #[.agg (getV s.data.toList).toArray, .bool (isP s.data.toList)]) ∧ Below u.heap.size u u') := Lib.hid fun u hb => rec_get_any A.tb s u (h.step hb).tab.tab (h.step hb).tab.lt hz
  have HLL : Hid (A.l < w.heap.size) := Lib.hid h.lt
  have HV : Hid (isP s.data.toList = true → getV s.data.toList = (rd s.data.toList).cells) := Lib.hid fun e => by unfold getV; rw [if_pos e]; rfl
  have HV0 : Hid (isP s.data.toList = false → getV s.data.toList = rcv 0 0 0 0) := Lib.hid fun e => by unfold getV; rw [if_neg (by rw [e]; decide)]
  have HIN : Hid (isN n s.data.toList = (isP s.data.toList && decide ((rd s.data.toList).n = (n : Int)))) := Lib.hid rfl
  have HB0 := Lib.hid built_rec0
  generalize A.l = l at *
  generalize A.tb = tb at *
  generalize getV s.data.toList = W at *
  generalize rd s.data.toList = r at *
  generalize isN n s.data.toList = z at *
  generalize isP s.data.toList = q at *
  clear h
  cases q with
  | false =>
    obtain rfl := HV0.out rfl
    have hz : z = false := by rw [HIN.out]; rfl
    subst hz
    clear HV HV0 HIN
    show Calls _ _ _ _ fun e w' => e = .returned (.tuple #[.agg (rcv 0 0 0 0).toArray, .bool false]) ∧ Below w.heap.size w w'
    go_enter Tryz.func83, Tryz.ntmps83
    go_wp2_with (first
      | ((with_reducible refine wpAllocK (w := w) (rcv 0 0 0 0) 36 zero_rec ?_ ?_); rfl; intro u1 r_ b_ s_; have G_x : Hid (w.heap.size ≤ w.heap.size) := Lib.hid (Nat.le_refl _); have B_1 : Hid (Below w.heap.size w u1) := Lib.hid (b_); have Tx_1 := Lib.hid r_; have c9 := HC9.out u1 B_1.out; clear r_ b_ s_)
      | (go_at_call 100; (with_reducible refine (HG.out u1 B_1.out).mono ?_); rintro e u2 ⟨rfl, b_⟩; have Tx_2 := Lib.hid (Tx_1.out.step b_); have B_2 : Hid (Below w.heap.size w u2) := Lib.hid (B_1.out.next b_); clear b_ Tx_1 B_1)
      | ((with_reducible refine wpAllocK (w := u2) (rcv 0 0 0 0) 36 zero_rec ?_ ?_); rfl; intro u3 r_ b_ s_; have N_x_y : Hid (w.heap.size ≠ u2.heap.size) := Lib.hid (by have := Tx_2.out.lt; omega); have G_y : Hid (w.heap.size ≤ u2.heap.size) := Lib.hid (B_2.out.size); have Tx_3 := Lib.hid (Tx_2.out.step b_); have B_3 : Hid (Below w.heap.size w u3) := Lib.hid (B_2.out.next b_); have Ty_3 := Lib.hid r_; clear r_ b_ s_ Tx_2 B_2)
      | ((with_reducible refine Ty_3.out.wpStoreK 36 (rcv 0 0 0 0) fits_rec (rfl) (rfl) (rfl) ?_ ?_); rfl; intro u4 r_ o_ s_; have Tx_4 := Lib.hid (Tx_3.out.only o_ N_x_y.out); have Ty_4 := Lib.hid r_; have B_4 : Hid (Below w.heap.size w u4) := Lib.hid (B_3.out.trans (o_.below G_y.out B_3.out.size)); clear r_ o_ s_ Ty_3 B_3 Tx_3)
      | ((with_reducible refine wpBuildZeroK (rcv 0 0 0 0) 36 HB0.out ?_ ?_); rfl)
      | ((with_reducible refine Tx_4.out.wpStoreK 36 (rcv 0 0 0 0) fits_rec (rfl) (rfl) (rfl) ?_ ?_); rfl; intro u5 r_ o_ s_; have Ty_5 := Lib.hid (Ty_4.out.only o_ N_x_y.out.symm); have Tx_5 := Lib.hid r_; have B_5 : Hid (Below w.heap.size w u5) := Lib.hid (B_4.out.trans (o_.below G_x.out B_4.out.size)); clear r_ o_ s_ Tx_4 B_4 Ty_4))
    exact bodyPost_ret (Tx_5.out.resultT rfl _ _ rfl Tryz.underlying36 rfl fits_rec.size) rfl ⟨rfl, B_5.out⟩
  | true =>
    obtain rfl := HV.out rfl
    have HC2 : Hid (∀ (u : World) (b : Nat), Row u b 36 r.cells → u.cell? ⟨b, 2, none⟩ = some (.int .i64 r.n)) := Lib.hid fun u b hr => hr.cell 2
    have LW : Hid (r.cells.length = 4) := Lib.hid rfl
    have W1 : Hid (r.cells.all (·.oneCell') = true) := Lib.hid rfl
    cases hq : decide (r.n = (n : Int)) with
    | true =>
      have hz : z = true := by rw [HIN.out, hq]; rfl
      subst hz
      have hne : r.n = (n : Int) := of_decide_eq_true hq
      rw [hne] at HC2
      have hnn : ((n : Int) != (n : Int)) = false := by simp
      show Calls _ _ _ _ fun e w' => e = .returned (.tuple #[.agg r.cells.toArray, .bool true]) ∧ Below w.heap.size w w'
      generalize r.cells = V1 at *
      clear HV HV0 HIN hq hne
      go_enter Tryz.func83, Tryz.ntmps83
      go_wp2_with (first
        | ((with_reducible refine wpAllocK (w := w) (rcv 0 0 0 0) 36 zero_rec ?_ ?_); rfl; intro u1 r_ b_ s_; have G_x : Hid (w.heap.size ≤ w.heap.size) := Lib.hid (Nat.le_refl _); have B_1 : Hid (Below w.heap.size w u1) := Lib.hid (b_); have Tx_1 := Lib.hid r_; have c9 := HC9.out u1 B_1.out; clear r_ b_ s_)
        | (go_at_call 100; (with_reducible refine (HG.out u1 B_1.out).mono ?_); rintro e u2 ⟨rfl, b_⟩; have Tx_2 := Lib.hid (Tx_1.out.step b_); have B_2 : Hid (Below w.heap.size w u2) := Lib.hid (B_1.out.next b_); clear b_ Tx_1 B_1)
        | ((with_reducible refine wpAllocK (w := u2) (rcv 0 0 0 0) 36 zero_rec ?_ ?_); rfl; intro u3 r_ b_ s_; have N_x_y : Hid (w.heap.size ≠ u2.heap.size) := Lib.hid (by have := Tx_2.out.lt; omega); have G_y : Hid (w.heap.size ≤ u2.heap.size) := Lib.hid (B_2.out.size); have Tx_3 := Lib.hid (Tx_2.out.step b_); have B_3 : Hid (Below w.heap.size w u3) := Lib.hid (B_2.out.next b_); have Ty_3 := Lib.hid r_; clear r_ b_ s_ Tx_2 B_2)
        | ((with_reducible refine Ty_3.out.wpStoreK 36 (V1) fits_rec (rfl) (LW.out) (W1.out) ?_ ?_); rfl; intro u4 r_ o_ s_; have Tx_4 := Lib.hid (Tx_3.out.only o_ N_x_y.out); have Ty_4 := Lib.hid r_; have B_4 : Hid (Below w.heap.size w u4) := Lib.hid (B_3.out.trans (o_.below G_y.out B_3.out.size)); have cn := HC2.out u4 _ Ty_4.out; clear r_ o_ s_ Ty_3 B_3 Tx_3)
        | ((with_reducible refine Ty_4.out.wpLoadK 36 fits_rec (LW.out) ?_ ?_); rfl)
        | ((with_reducible refine Tx_4.out.wpStoreK 36 (V1) fits_rec (rfl) (LW.out) (W1.out) ?_ ?_); rfl; intro u5 r_ o_ s_; have Ty_5 := Lib.hid (Ty_4.out.only o_ N_x_y.out.symm); have Tx_5 := Lib.hid r_; have B_5 : Hid (Below w.heap.size w u5) := Lib.hid (B_4.out.trans (o_.below G_x.out B_4.out.size)); clear r_ o_ s_ Tx_4 B_4 Ty_4))
      exact bodyPost_ret (Tx_5.out.resultT rfl _ _ rfl Tryz.underlying36 rfl (by rw [LW.out]; exact fits_rec.size)) rfl ⟨rfl, B_5.out⟩
    | false =>
      have hz : z = false := by rw [HIN.out, hq]; rfl
      subst hz
      have hne : ¬ r.n = (n : Int) := of_decide_eq_false hq
      have hnn : (r.n != (n : Int)) = true := bne_iff_ne.2 hne
      show Calls _ _ _ _ fun e w' => e = .returned (.tuple #[.agg (rcv 0 0 0 0).toArray, .bool false]) ∧ Below w.heap.size w w'
      generalize r.n = rn at *
      generalize r.cells = V1 at *
      clear HV HV0 HIN hq
      go_enter Tryz.func83, Tryz.ntmps83
      go_wp2_with (first
        | ((with_reducible refine wpAllocK (w := w) (rcv 0 0 0 0) 36 zero_rec ?_ ?_); rfl; intro u1 r_ b_ s_; have G_x : Hid (w.heap.size ≤ w.heap.size) := Lib.hid (Nat.le_refl _); have B_1 : Hid (Below w.heap.size w u1) := Lib.hid (b_); have Tx_1 := Lib.hid r_; have c9 := HC9.out u1 B_1.out; clear r_ b_ s_)
        | (go_at_call 100; (with_reducible refine (HG.out u1 B_1.out).mono ?_); rintro e u2 ⟨rfl, b_⟩; have Tx_2 := Lib.hid (Tx_1.out.step b_); have B_2 : Hid (Below w.heap.size w u2) := Lib.hid (B_1.out.next b_); clear b_ Tx_1 B_1)
        | ((with_reducible refine wpAllocK (w := u2) (rcv 0 0 0 0) 36 zero_rec ?_ ?_); rfl; intro u3 r_ b_ s_; have N_x_y : Hid (w.heap.size ≠ u2.heap.size) := Lib.hid (by have := Tx_2.out.lt; omega); have G_y : Hid (w.heap.size ≤ u2.heap.size) := Lib.hid (B_2.out.size); have Tx_3 := Lib.hid (Tx_2.out.step b_); have B_3 : Hid (Below w.heap.size w u3) := Lib.hid (B_2.out.next b_); have Ty_3 := Lib.hid r_; clear r_ b_ s_ Tx_2 B_2)
        | ((with_reducible refine Ty_3.out.wpStoreK 36 (V1) fits_rec (rfl) (LW.out) (W1.out) ?_ ?_); rfl; intro u4 r_ o_ s_; have Tx_4 := Lib.hid (Tx_3.out.only o_ N_x_y.out); have Ty_4 := Lib.hid r_; have B_4 : Hid (Below w.heap.size w u4) := Lib.hid (B_3.out.trans (o_.below G_y.out B_3.out.size)); have cn := HC2.out u4 _ Ty_4.out; clear r_ o_ s_ Ty_3 B_3 Tx_3)
        | ((with_reducible refine wpBuildZeroK (rcv 0 0 0 0) 36 HB0.out ?_ ?_); rfl)
        | ((with_reducible refine Tx_4.out.wpStoreK 36 (rcv 0 0 0 0) fits_rec (rfl) (rfl) (rfl) ?_ ?_); rfl; intro u5 r_ o_ s_; have Ty_5 := Lib.hid (Ty_4.out.only o_ N_x_y.out.symm); have Tx_5 := Lib.hid r_; have B_5 : Hid (Below w.heap.size w u5) := Lib.hid (B_4.out.trans (o_.below G_x.out B_4.out.size)); clear r_ o_ s_ Tx_4 B_4 Ty_4))
      exact bodyPost_ret (Tx_5.out.resultT rfl _ _ rfl Tryz.underlying36 rfl fits_rec.size) rfl ⟨rfl, B_5.out⟩

/-- The pages of a half's copy, as a string of 256 bytes. -/
def pgS (s : ByteArray) (i : Nat) : List UInt8 := (s.data.toList.drop (16 * i)).take 16
theorem log_page_str (s : ByteArray) (n : Nat) (hs : s.size = 256) (hn : n < 16) : ∃ Y, s.extract (n * 16) s.size = Y ∧ 16 ≤ Y.size ∧ (Y.extract 0 16).data.toList = pgS s n ∧ (Y.extract 0 16).size = 16 := by
  refine ⟨_, rfl, ?_, ?_, ?_⟩
  · rw [ByteArray.size_extract]; omega
  · rw [ByteArray.data_extract, ByteArray.data_extract, Array.toList_extract, Array.toList_extract, List.extract_eq_take_drop, List.extract_eq_take_drop]
    unfold pgS
    rw [Nat.mul_comm 16 n, List.drop_zero, List.take_take, show min (16 - 0) (s.size - n * 16) = 16 by omega]
  · rw [ByteArray.size_extract, ByteArray.size_extract]; omega
theorem strs_two (a b : ByteArray) (j : Nat) (hj : j < 2) : ∃ s, (strs [a, b])[j]? = some (.string s) ∧ [a, b][j]? = some s := by
  match j, hj with
  | 0, _ => exact ⟨a, rfl, rfl⟩
  | 1, _ => exact ⟨b, rfl, rfl⟩
set_option maxHeartbeats 2000000 in
theorem log_holds_any {B : Nat} {w : World} {A : LogD} {D : Dv} {V : LV} {sl : Value} (h : LogAt B w A D V sl) (n : Nat) (hn : n < 16) (gb off cap : Nat) (SA SB : ByteArray) (ha : SA.size = 256) (hb : SB.size = 256) (hgb : gb < w.heap.size)
    (hr : ∀ j u, (strs [SA, SB])[j]? = some u → w.cell? ⟨gb, off + j, none⟩ = some u) :
    Calls Tryz.prog 87 #[.pointer (some ⟨A.l, 0, none⟩), .int .i64 (n : Int), .slice (some ⟨gb, off, none⟩) 2 cap] w fun e w' => e = .returned (.tuple #[.agg (holdR (pgS SA n) (pgS SB n) n).cells.toArray, .bool (hold (pgS SA n) (pgS SB n) n)]) ∧ Below w.heap.size w w' := by
  have HGET : Hid (∀ u, Below w.heap.size w u → ∀ P : ByteArray, P.size = 16 → Calls Tryz.prog 83 #[.pointer (some ⟨A.l, 0, none⟩), .int .i64 (n : Int), .string P] u fun e u' => e = .returned (.tuple #[.agg (pick0 (isN n P.data.toList) (rd P.data.toList)).toArray, .bool (isN n P.data.toList)]) ∧ Below u.heap.size u u') := Lib.hid fun u hb P hP => log_get_any (h.step hb) n P (by omega)
  have HSL : Hid (∀ j, j < 2 → ∃ (s P : ByteArray), (∀ u, Below w.heap.size w u → u.cell? ⟨gb, off + j, none⟩ = some (.string s)) ∧ s.size = 256 ∧ (∃ Y, s.extract (n * 16) s.size = Y ∧ 16 ≤ Y.size ∧ Y.extract 0 16 = P) ∧ P.size = 16 ∧ P.data.toList = (if j = 0 then pgS SA n else pgS SB n)) := Lib.hid fun j hj => by
    obtain ⟨s, h1, h2⟩ := strs_two SA SB j hj
    have hs : s.size = 256 := by
      match j, hj, h2 with
      | 0, _, h2 => simp at h2; rw [← h2]; exact ha
      | 1, _, h2 => simp at h2; rw [← h2]; exact hb
    obtain ⟨Y, hY, hY1, hY2, hY3⟩ := log_page_str s n hs hn
    refine ⟨s, Y.extract 0 16, fun u hu => (hu.cell (p := ⟨gb, off + j, none⟩) hgb).trans (hr j _ h1), hs, ⟨Y, hY, hY1, rfl⟩, hY3, ?_⟩
    rw [hY2]
    match j, hj, h2 with
    | 0, _, h2 => simp at h2; rw [← h2]; rfl
    | 1, _, h2 => simp at h2; rw [← h2]; rfl
  have hnI : (n : Int) < 16 := by omega
  obtain ⟨m, hm⟩ : ∃ m, n * 16 = m := ⟨_, rfl⟩
  have hmI : (n : Int) * 16 = (m : Int) := by omega
  have hm256 : (m : Int) ≤ 240 := by omega
  have hm2 : m ≤ 240 := by omega
  rw [hm] at HSL
  have HB0 := Lib.hid built_rec0
  have HA0 : Hid (isN n (pgS SA n) = true → holdR (pgS SA n) (pgS SB n) n = rd (pgS SA n) ∧ hold (pgS SA n) (pgS SB n) n = true) := Lib.hid fun e => by unfold holdR hold; rw [e]; exact ⟨if_pos rfl, rfl⟩
  have HA1 : Hid (isN n (pgS SA n) = false → isN n (pgS SB n) = true → holdR (pgS SA n) (pgS SB n) n = rd (pgS SB n) ∧ hold (pgS SA n) (pgS SB n) n = true) := Lib.hid fun e e2 => by unfold holdR hold; rw [e, e2]; exact ⟨by rw [if_neg (by decide), if_pos rfl], rfl⟩
  have HA2 : Hid (isN n (pgS SA n) = false → isN n (pgS SB n) = false → (holdR (pgS SA n) (pgS SB n) n).cells = rcv 0 0 0 0 ∧ hold (pgS SA n) (pgS SB n) n = false) := Lib.hid fun e e2 => by unfold holdR hold; rw [e, e2]; exact ⟨by rw [if_neg (by decide), if_neg (by decide)]; rfl, rfl⟩
  generalize holdR (pgS SA n) (pgS SB n) n = HR at *
  generalize hold (pgS SA n) (pgS SB n) n = HO at *
  generalize pgS SA n = PA at *
  generalize pgS SB n = PB at *
  generalize A.l = l at *
  clear h hr ha hb hm hn
  go_enter Tryz.func87, Tryz.ntmps87
  go_wp2_with ((with_reducible refine wpAllocK (w := w) (rcv 0 0 0 0) 36 zero_rec ?_ ?_); rfl; intro x1 r1 b1 s1; have X1 := Lib.hid r1; have BX := Lib.hid b1; clear r1 b1 s1)
  go_loopw [14] (fun i wr => ∃ k : Nat, k ≤ 2 ∧ i = .int .i64 k ∧ (0 < k → isN n PA = false) ∧ (1 < k → isN n PB = false) ∧ Row wr w.heap.size 36 (rcv 0 0 0 0) ∧ Below w.heap.size w wr) (fun i _ => 2 - (intOf i).toNat)
  case atStart => exact ⟨0, Nat.zero_le _, rfl, fun h => absurd h (by omega), fun h => absurd h (by omega), X1.out, BX.out⟩
  case round =>
    clear X1 BX
    obtain ⟨k, hk, rfl, hka, hkb, hrow, hbw⟩ := hrel
    have HKA := Lib.hid hka
    have HKB := Lib.hid hkb
    have X1 := Lib.hid hrow
    have BX := Lib.hid hbw
    clear hka hkb hrow hbw
    have HLT : Hid (w.heap.size < wr.heap.size) := Lib.hid X1.out.lt
    have G_x : Hid (w.heap.size ≤ w.heap.size) := Lib.hid (Nat.le_refl _)
    by_cases hlt : k < 2
    · have hk1 : (k : Int) < 2 := by omega
      obtain ⟨s, P, hcell, hs, ⟨Y, hY, hY16, hYP⟩, hP, hPL⟩ := HSL.out k hlt
      have hc := hcell wr BX.out
      have HGP : Hid (∀ u, Below w.heap.size w u → Calls Tryz.prog 83 #[.pointer (some ⟨l, 0, none⟩), .int .i64 (n : Int), .string P] u fun e u' => e = .returned (.tuple #[.agg (pick0 (isN n P.data.toList) (rd P.data.toList)).toArray, .bool (isN n P.data.toList)]) ∧ Below u.heap.size u u') := Lib.hid fun u hu => HGET.out u hu P hP
      rw [hPL] at HGP
      have hss : m ≤ s.size := by omega
      have hssI : (m : Int) ≤ (s.size : Int) := by omega
      have hy0 : 16 ≤ Y.size := hY16
      have hyI : (16 : Int) ≤ (Y.size : Int) := by omega
      have HYP := Lib.hid hYP
      have HYE := Lib.hid hY
      have LW : Hid ((rd (if k = 0 then PA else PB)).cells.length = 4) := Lib.hid rfl
      have W1 : Hid ((rd (if k = 0 then PA else PB)).cells.all (·.oneCell') = true) := Lib.hid rfl
      have HYES : Hid (isN n (if k = 0 then PA else PB) = true → HR.cells = (rd (if k = 0 then PA else PB)).cells ∧ HO = true) := Lib.hid fun e => by
        by_cases k0 : k = 0
        · rw [if_pos k0] at e ⊢
          have := HA0.out e
          exact ⟨by rw [this.1], this.2⟩
        · rw [if_neg k0] at e ⊢
          have := HA1.out (HKA.out (by omega)) e
          exact ⟨by rw [this.1], this.2⟩
      have HNOW : Hid (isN n (if k = 0 then PA else PB) = false → (0 < k + 1 → isN n PA = false) ∧ (1 < k + 1 → isN n PB = false)) := Lib.hid fun e => by
        by_cases k0 : k = 0
        · rw [if_pos k0] at e
          exact ⟨fun _ => e, fun h => absurd h (by omega)⟩
        · rw [if_neg k0] at e
          exact ⟨fun _ => HKA.out (by omega), fun _ => e⟩
      have HPO : Hid (∀ ok, pick0 ok (rd (if k = 0 then PA else PB)) = if ok then (rd (if k = 0 then PA else PB)).cells else rcv 0 0 0 0) := Lib.hid fun ok => rfl
      generalize rd (if k = 0 then PA else PB) = r at *
      generalize isN n (if k = 0 then PA else PB) = q at *
      clear HSL hcell hs hP hPL hY16 HGET
      cases q with
      | true =>
        obtain ⟨hr1, hr2⟩ := HYES.out rfl
        have hpick : pick0 true r = r.cells := HPO.out true
        rw [hpick] at HGP
        have HFIN : Hid (Ending.returned (.tuple #[.agg r.cells.toArray, .bool true]) = Ending.returned (.tuple #[.agg HR.cells.toArray, .bool HO])) := Lib.hid (by rw [hr1, hr2])
        generalize r.cells = V1 at *
        clear HYES HNOW HPO hr1 hr2 hpick
        go_wp2_with (first
          | (go_at_call 83; (with_reducible refine (HGP.out wr BX.out).mono ?_); rintro e u1 ⟨rfl, b_⟩; have Tx_1 := Lib.hid (X1.out.step b_); have B_1 : Hid (Below w.heap.size w u1) := Lib.hid (BX.out.next b_); clear b_ X1 BX)
          | ((with_reducible refine wpAllocK (w := u1) (rcv 0 0 0 0) 36 zero_rec ?_ ?_); rfl; intro u2 r_ b_ s_; have N_x_y : Hid (w.heap.size ≠ u1.heap.size) := Lib.hid (by have := Tx_1.out.lt; omega); have G_y : Hid (w.heap.size ≤ u1.heap.size) := Lib.hid (B_1.out.size); have Tx_2 := Lib.hid (Tx_1.out.step b_); have B_2 : Hid (Below w.heap.size w u2) := Lib.hid (B_1.out.next b_); have Ty_2 := Lib.hid r_; clear r_ b_ s_ Tx_1 B_1)
          | ((with_reducible refine Ty_2.out.wpStoreK 36 (V1) fits_rec (rfl) (LW.out) (W1.out) ?_ ?_); rfl; intro u3 r_ o_ s_; have Tx_3 := Lib.hid (Tx_2.out.only o_ N_x_y.out); have Ty_3 := Lib.hid r_; have B_3 : Hid (Below w.heap.size w u3) := Lib.hid (B_2.out.trans (o_.below G_y.out B_2.out.size)); clear r_ o_ s_ Ty_2 B_2 Tx_2)
          | ((with_reducible refine Ty_3.out.wpLoadK 36 fits_rec (LW.out) ?_ ?_); rfl)
          | ((with_reducible refine Tx_3.out.wpStoreK 36 (V1) fits_rec (rfl) (LW.out) (W1.out) ?_ ?_); rfl; intro u4 r_ o_ s_; have Ty_4 := Lib.hid (Ty_3.out.only o_ N_x_y.out.symm); have Tx_4 := Lib.hid r_; have B_4 : Hid (Below w.heap.size w u4) := Lib.hid (B_3.out.trans (o_.below G_x.out B_3.out.size)); clear r_ o_ s_ Tx_3 B_3 Ty_3))
        refine bodyPost_ret (Tx_4.out.resultT rfl _ _ rfl Tryz.underlying36 rfl (by rw [LW.out]; exact fits_rec.size)) rfl ⟨?_, B_4.out⟩
        exact HFIN.out
      | false =>
        have hpick : pick0 false r = rcv 0 0 0 0 := HPO.out false
        rw [hpick] at HGP
        have HNW := Lib.hid (HNOW.out rfl)
        clear HYES HNOW HPO hpick
        go_wp2_with (first
          | (go_at_call 83; (with_reducible refine (HGP.out wr BX.out).mono ?_); rintro e u1 ⟨rfl, b_⟩; have Tx_1 := Lib.hid (X1.out.step b_); have B_1 : Hid (Below w.heap.size w u1) := Lib.hid (BX.out.next b_); clear b_ X1 BX)
          | ((with_reducible refine wpAllocK (w := u1) (rcv 0 0 0 0) 36 zero_rec ?_ ?_); rfl; intro u2 r_ b_ s_; have N_x_y : Hid (w.heap.size ≠ u1.heap.size) := Lib.hid (by have := Tx_1.out.lt; omega); have G_y : Hid (w.heap.size ≤ u1.heap.size) := Lib.hid (B_1.out.size); have Tx_2 := Lib.hid (Tx_1.out.step b_); have B_2 : Hid (Below w.heap.size w u2) := Lib.hid (B_1.out.next b_); have Ty_2 := Lib.hid r_; clear r_ b_ s_ Tx_1 B_1)
          | ((with_reducible refine Ty_2.out.wpStoreK 36 (rcv 0 0 0 0) fits_rec (rfl) (rfl) (rfl) ?_ ?_); rfl; intro u3 r_ o_ s_; have Tx_3 := Lib.hid (Tx_2.out.only o_ N_x_y.out); have Ty_3 := Lib.hid r_; have B_3 : Hid (Below w.heap.size w u3) := Lib.hid (B_2.out.trans (o_.below G_y.out B_2.out.size)); clear r_ o_ s_ Ty_2 B_2 Tx_2))
        go_roundw
        case rel => exact ⟨k + 1, by omega, by go_num, HNW.out.1, HNW.out.2, Tx_3.out, B_3.out⟩
        case measure => simp [intOf]; omega
    · have hk2 : ¬ (k : Int) < 2 := by omega
      obtain ⟨hr1, hr2⟩ := HA2.out (HKA.out (by omega)) (HKB.out (by omega))
      have HFIN : Hid (Ending.returned (.tuple #[.agg (rcv 0 0 0 0).toArray, .bool false]) = Ending.returned (.tuple #[.agg HR.cells.toArray, .bool HO])) := Lib.hid (by rw [hr1, hr2])
      clear HA0 HA1 HA2 HSL HGET hr1 hr2
      go_wp2_with (first
        | ((with_reducible refine wpBuildZeroK (rcv 0 0 0 0) 36 HB0.out ?_ ?_); rfl)
        | ((with_reducible refine X1.out.wpStoreK 36 (rcv 0 0 0 0) fits_rec (rfl) (rfl) (rfl) ?_ ?_); rfl; intro u1 r_ o_ s_; have Tx_1 := Lib.hid r_; have B_1 : Hid (Below w.heap.size w u1) := Lib.hid (BX.out.trans (o_.below G_x.out BX.out.size)); clear r_ o_ s_ X1 BX))
      refine bodyPost_ret (Tx_1.out.resultT rfl _ _ rfl Tryz.underlying36 rfl fits_rec.size) rfl ⟨?_, B_1.out⟩
      exact HFIN.out
end Go.Proofs.YtbnjenbhpaknbaaGreat

/- A slice literal whose parts are blocks by value. -/
namespace Go.Proofs.YtbnjenbhpaknbaaGreat
open Go.RowKit
section
variable {P : Program}
def buildSOf (o : Oper) (a : Act) : Option (TypeId × Nat × List (Nat × Value)) := match o.guard, o.op with | none, .buildSlice t n parts => some (t, n, parts.toList.map fun (i, x) => (i, a.eval x)) | _, _ => none
theorem wpBuildBK {ops : Array Oper} {rest : List Oper} {o : Oper} {a : Act} {w : World} {Q : Exit → Act → World → Prop} (vs : List (List Value)) (s : Nat) (T e : TypeId) (hT : P.underlying T = some (.slice e)) (hsz : (P.info? e).map (fun i => (i.size, i.zero.isSome)) = some (s, true))
    (hs : 0 < s) (hv : ∀ l ∈ vs, l.length = s) (hpos : 0 < vs.length) (hsm : vs.length * s ≤ 2 ^ 24)
    (ho : buildSOf o a = some (T, vs.length, (vs.zipIdx 0).map fun x => (x.2, .agg x.1.toArray)))
    (k : ∀ w', Row w' w.heap.size e vs.flatten → Below w.heap.size w w' → w'.heap.size = w.heap.size + 1 → wpList P ops Q rest (a.put o.dst (.slice (some ⟨w.heap.size, 0, none⟩) vs.length vs.length)) w') : wpList P ops Q (o :: rest) a w := by
  unfold buildSOf at ho
  split at ho
  · rename_i t n parts hg hop
    simp only [Option.some.injEq, Prod.mk.injEq] at ho
    obtain ⟨rfl, rfl, hp⟩ := ho
    cases hie : P.info? e with
    | none => simp [hie] at hsz
    | some ie =>
      simp only [hie, Option.map_some, Option.some.injEq, Prod.mk.injEq] at hsz
      obtain ⟨z, hzz⟩ := Option.isSome_iff_exists.1 hsz.2
      have hpp := Nat.mul_pos hpos hs
      have e1 : ((vs.map fun l => Value.agg l.toArray).zipIdx 0).map (fun x => (x.2, x.1)) = (vs.zipIdx 0).map fun x => (x.2, Value.agg x.1.toArray) := by
        rw [List.zipIdx_map, List.map_map]; rfl
      have hf := Great.fill_whole hs (vs.map fun l => Value.agg l.toArray) ((Array.range (vs.length * s)).map (z.cells[· % z.cells.size]!)) (fun v hm => by
        obtain ⟨l, hl, rfl⟩ := List.mem_map.1 hm
        show l.toArray.size = s
        simpa using hv l hl) (by simp)
      rw [e1] at hf
      have e2 : (vs.map fun l => Value.agg l.toArray).flatMap (fun v => v.cells.toList) = vs.flatten := by
        rw [List.flatMap_map, List.flatten_eq_flatMap]
        rfl
      rw [e2] at hf
      refine wpList_buildSlice hg t e vs.length parts hop _ ie z hT hie hzz (by rw [hsz.1]; omega) (by rw [hsz.1]; omega) (by rw [hsz.1, Array.toList_map, hp]; exact hf) ?_
      exact k _ (Row.new w e vs.flatten) ((Below.refl _ _).alloc (Nat.le_refl _) _) (by simp)
  · cases ho
end
end Go.Proofs.YtbnjenbhpaknbaaGreat

/- The records of a half's pages; blank pages; a half's parts (gen_log_e.py). -/
namespace Go.Proofs.YtbnjenbhpaknbaaGreat
open Go.RowKit CrcMath NumMath FlaMath GeoMath
set_option linter.unusedVariables false
set_option maxRecDepth 100000

theorem rec_built_size : (Tryz.prog.info? 36).map (fun i => (i.size, i.zero.isSome)) = some (4, true) := by kernel_rfl
set_option maxHeartbeats 2000000 in
theorem log_run_any {B : Nat} {w : World} {A : LogD} {D : Dv} {V : LV} {sl : Value} (h : LogAt B w A D V sl) (gb off cap : Nat) (SA SB : ByteArray) (ha : SA.size = 256) (hb : SB.size = 256) (hgb : gb < w.heap.size)
    (hr : ∀ j u, (strs [SA, SB])[j]? = some u → w.cell? ⟨gb, off + j, none⟩ = some u) :
    Calls Tryz.prog 67 #[.pointer (some ⟨A.l, 0, none⟩), .slice (some ⟨gb, off, none⟩) 2 cap] w fun e w' => (∃ v, e = .returned v ∧ w'.ownsRow w.heap.size 36 4 v (runN (pgS SA) (pgS SB)) (rcs (runF (pgS SA) (pgS SB)))) ∧ Below w.heap.size w w' := by
  have HH : Hid (∀ u, Below w.heap.size w u → ∀ (n : Nat), n < 16 → Calls Tryz.prog 87 #[.pointer (some ⟨A.l, 0, none⟩), .int .i64 (n : Int), .slice (some ⟨gb, off, none⟩) 2 cap] u fun e u' => e = .returned (.tuple #[.agg (holdR (pgS SA n) (pgS SB n) n).cells.toArray, .bool (hold (pgS SA n) (pgS SB n) n)]) ∧ Below u.heap.size u u') := Lib.hid fun u hu n hn =>
    log_holds_any (h.step hu) n hn gb off cap SA SB ha hb (Nat.lt_of_lt_of_le hgb hu.size) fun j x hj => (hu.cell (p := ⟨gb, off + j, none⟩) hgb).trans (hr j x hj)
  have HEND : Hid (∀ (k : Nat), k ≤ 16 → (∀ j, j < k → hold (pgS SA j) (pgS SB j) j = true) → (k < 16 → hold (pgS SA k) (pgS SB k) k = false) → runN (pgS SA) (pgS SB) = k ∧ runF (pgS SA) (pgS SB) = recsF (pgS SA) (pgS SB) k) := Lib.hid fun k h1 h2 h3 => by
    have : runN (pgS SA) (pgS SB) = k := lenF_is h1 h2 h3
    exact ⟨this, by unfold runF; rw [this]⟩
  have HSU : Hid (∀ k, rcs (recsF (pgS SA) (pgS SB) (k + 1)) = rcs (recsF (pgS SA) (pgS SB) k) ++ (holdR (pgS SA k) (pgS SB k) k).cells) := Lib.hid fun k => by rw [recsF_succ, rcs_append, rcs_one]
  have HNIL : Hid (w.ownsRow w.heap.size 36 4 (.slice none 0 0) 0 (rcs (recsF (pgS SA) (pgS SB) 0))) := Lib.hid (World.ownsRow_nil _ _ _ _)
  generalize pgS SA = PA at *
  generalize pgS SB = PB at *
  generalize A.l = l at *
  clear h hr ha hb hgb
  go_enter Tryz.func67, Tryz.ntmps67
  go_wp2
  go_loopw [5, 9] (fun v i wr => ∃ k : Nat, k ≤ 16 ∧ i = .int .i64 k ∧ (∀ j, j < k → hold (PA j) (PB j) j = true) ∧ wr.ownsRow w.heap.size 36 4 v k (rcs (recsF PA PB k)) ∧ Below w.heap.size w wr) (fun _ i _ => 16 - (intOf i).toNat)
  case atStart => exact ⟨0, Nat.zero_le _, rfl, fun j hj => absurd hj (Nat.not_lt_zero _), HNIL.out, Below.refl _ _⟩
  case round =>
    clear HNIL
    obtain ⟨k, hk, rfl, hall, hown, hbw⟩ := hrel
    have HALL := Lib.hid hall
    have HOWN := Lib.hid hown
    have HBW := Lib.hid hbw
    clear hall hown hbw
    by_cases hlt : k < 16
    · have hk1 : (k : Int) < 16 := by omega
      have HHK := Lib.hid (HH.out wr HBW.out k hlt)
      have HO : Hid (hold (PA k) (PB k) k = hold (PA k) (PB k) k) := Lib.hid rfl
      have LW : Hid ((holdR (PA k) (PB k) k).cells.length = 4) := Lib.hid rfl
      have W1 : Hid ((holdR (PA k) (PB k) k).cells.all (·.oneCell') = true) := Lib.hid rfl
      have HSK := Lib.hid (HSU.out k)
      cases hod : hold (PA k) (PB k) k with
      | false =>
        have HFN := Lib.hid (HEND.out k hk HALL.out fun _ => hod)
        rw [hod] at HHK
        generalize (holdR (PA k) (PB k) k).cells = V1 at *
        clear HO hod HSK HSU HH HEND
        have HOWN2 : Hid (wr.ownsRow w.heap.size 36 4 u5 k (rcs (recsF PA PB k))) := HOWN
        go_wp2_with (first
          | (go_at_call 87; (with_reducible refine (HHK.out).mono ?_); rintro e x1 ⟨rfl, b_⟩; have HW_1 : Hid (Below wr.heap.size wr x1) := Lib.hid b_; have B_1 : Hid (Below w.heap.size w x1) := Lib.hid (HBW.out.next b_); clear b_ HBW)
          | ((with_reducible refine wpAllocK (w := x1) (rcv 0 0 0 0) 36 zero_rec ?_ ?_); rfl; intro x2 r_ b_ s_; have G_r : Hid (w.heap.size ≤ x1.heap.size) := Lib.hid (B_1.out.size); have HW_2 : Hid (Below wr.heap.size wr x2) := Lib.hid (HW_1.out.next b_); have B_2 : Hid (Below w.heap.size w x2) := Lib.hid (B_1.out.next b_); have Tr_2 := Lib.hid r_; clear r_ b_ s_ B_1)
          | ((with_reducible refine Tr_2.out.wpStoreK 36 (V1) fits_rec (rfl) (LW.out) (W1.out) ?_ ?_); rfl; intro x3 r_ o_ s_; have Tr_3 := Lib.hid r_; have HW_3 : Hid (Below wr.heap.size wr x3) := Lib.hid (HW_2.out.trans (o_.below HW_1.out.size HW_2.out.size)); have B_3 : Hid (Below w.heap.size w x3) := Lib.hid (B_2.out.trans (o_.below G_r.out B_2.out.size)); clear r_ o_ s_ Tr_2 B_2))
        go_ret
        exact ⟨⟨_, rfl, by rw [HFN.out.1, HFN.out.2]; exact owns_step HOWN.out (HW_3.out)⟩, B_3.out⟩
      | true =>
        have HAL2 : Hid (∀ j, j < k + 1 → hold (PA j) (PB j) j = true) := Lib.hid fun j hj => by
          by_cases e : j = k
          · rw [e]; exact hod
          · exact HALL.out j (by omega)
        rw [hod] at HHK
        generalize (holdR (PA k) (PB k) k).cells = V1 at *
        have HVS : Hid (∀ l ∈ [V1], l.length = 4) := Lib.hid fun l hl => by rw [List.mem_singleton.1 hl]; exact LW.out
        have HBG : Big (k + 1 ≤ 1099511627776) := ⟨by omega⟩
        have HP4 : Hid (0 < 4) := Lib.hid (by omega)
        have HP1 : Hid (0 < [V1].length) := Lib.hid (by show 0 < 1; omega)
        have HV14 : Hid (V1.length = 1 * 4) := Lib.hid (by rw [LW.out])
        have HSM : Hid ([V1].length * 4 ≤ 2 ^ 24) := Lib.hid (by show 1 * 4 ≤ _; omega)
        clear HO hod HSU HH HEND
        go_wp2_with (first
          | (go_at_call 87; (with_reducible refine (HHK.out).mono ?_); rintro e x1 ⟨rfl, b_⟩; have HW_1 : Hid (Below wr.heap.size wr x1) := Lib.hid b_; have B_1 : Hid (Below w.heap.size w x1) := Lib.hid (HBW.out.next b_); clear b_ HBW)
          | ((with_reducible refine wpAllocK (w := x1) (rcv 0 0 0 0) 36 zero_rec ?_ ?_); rfl; intro x2 r_ b_ s_; have G_r : Hid (w.heap.size ≤ x1.heap.size) := Lib.hid (B_1.out.size); have HW_2 : Hid (Below wr.heap.size wr x2) := Lib.hid (HW_1.out.next b_); have B_2 : Hid (Below w.heap.size w x2) := Lib.hid (B_1.out.next b_); have Tr_2 := Lib.hid r_; clear r_ b_ s_ B_1)
          | ((with_reducible refine Tr_2.out.wpStoreK 36 (V1) fits_rec (rfl) (LW.out) (W1.out) ?_ ?_); rfl; intro x3 r_ o_ s_; have Tr_3 := Lib.hid r_; have HW_3 : Hid (Below wr.heap.size wr x3) := Lib.hid (HW_2.out.trans (o_.below HW_1.out.size HW_2.out.size)); have B_3 : Hid (Below w.heap.size w x3) := Lib.hid (B_2.out.trans (o_.below G_r.out B_2.out.size)); clear r_ o_ s_ Tr_2 B_2)
          | ((with_reducible refine Tr_3.out.wpLoadK 36 fits_rec (LW.out) ?_ ?_); rfl)
          | ((with_reducible refine wpBuildBK (w := x3) [V1] 4 22 36 Tryz.underlying22 rec_built_size HP4.out HVS.out HP1.out HSM.out ?_ ?_); rfl; intro y1 r_ b_ s_; have HL2 : Hid (Lies y1 y1.heap.size (some ⟨x3.heap.size, 0, none⟩) V1) := Lib.hid (fun _ => ⟨_, 0, rfl, r_.lt, fun j q hj => by rw [Nat.zero_add, r_.cell]; simpa using hj⟩); have HOW2 := Lib.hid (owns_step (owns_step HOWN.out (HW_3.out)) b_); have BY : Hid (Below w.heap.size w y1) := Lib.hid (B_3.out.next b_); have HZ2 := Lib.hid BY.out.size; have HOL := Lib.hid (owns_ge HOWN.out); clear r_ b_ s_)
          | ((with_reducible refine wpAppendN 1 HOW2.out Tryz.underlying22 many_rec HL2.out HV14.out HP4.out W1.out HBG HZ2.out ?_ ?_); rfl; intro v1 y2 g1 g2 g3; have G1 := Lib.hid g1; have BF : Hid (Below w.heap.size w y2) := Lib.hid (BY.out.grown g2 BY.out.size HOL.out); clear g1 g2 g3))
        go_roundw
        case rel => exact ⟨k + 1, by omega, by go_num, HAL2.out, by rw [HSK.out]; exact G1.out, BF.out⟩
        case measure => simp [intOf]; omega
    · have hk2 : ¬ (k : Int) < 16 := by omega
      have hke : k = 16 := by omega
      have HFN := Lib.hid (HEND.out k hk HALL.out fun h => absurd h (by omega))
      clear HSU HH HEND
      go_wp2
      go_ret
      exact ⟨⟨_, rfl, by rw [HFN.out.1, HFN.out.2]; exact HOWN.out⟩, HBW.out⟩

/-- Are the pages from n on blank? -/
def blankF (PA : Nat → List UInt8) (n : Nat) : Bool := (List.range 16).all fun i => decide (i < n) || decide (PA i = ff)
theorem blankF_iff (PA : Nat → List UInt8) (n : Nat) : blankF PA n = true ↔ ∀ i, i < 16 → i < n ∨ PA i = ff := by simp [blankF, List.all_eq_true]
theorem blank_is (s : ByteArray) : (s.toList == blankP.toList) = decide (s.data.toList = ff) := by
  by_cases h : s.data.toList = ff
  · rw [decide_eq_true h]
    exact beq_yes (by rw [← str_of s, h]; rfl)
  · rw [decide_eq_false h]
    exact beq_no fun e => h (by rw [e]; exact str_list _)
set_option maxHeartbeats 1000000 in
theorem log_blank_any (s : ByteArray) (n : Nat) (w : World) (hn : n ≤ 16) (hs : s.size = 256) :
    Calls Tryz.prog 69 #[.string s, .int .i64 (n : Int)] w fun e w' => e = .returned (.bool (blankF (pgS s) n)) ∧ Below w.heap.size w w' := by
  have HBL : Hid (∀ u (P : ByteArray), Calls Tryz.prog 82 #[.string P] u fun e w' => e = .returned (.bool (decide (P.data.toList = ff))) ∧ Below u.heap.size u w') := Lib.hid fun u P => by
    have := rec_blank_any P u
    rwa [blank_is] at this
  have HPG : Hid (∀ (k : Nat), k < 16 → ∃ Y P, s.extract (k * 16) s.size = Y ∧ 16 ≤ Y.size ∧ Y.extract 0 16 = P ∧ P.data.toList = pgS s k) := Lib.hid fun k hk => by
    obtain ⟨Y, h1, h2, h3, _⟩ := log_page_str s k hs hk
    exact ⟨Y, _, h1, h2, rfl, h3⟩
  have HNO : Hid (∀ (k : Nat), k < 16 → n ≤ k → pgS s k ≠ ff → blankF (pgS s) n = false) := Lib.hid fun k hk hnk hne => by
    cases h : blankF (pgS s) n with
    | false => rfl
    | true =>
      rcases (blankF_iff _ _).1 h k hk with h1 | h1
      · omega
      · exact absurd h1 hne
  have HYES : Hid ((∀ i, n ≤ i → i < 16 → pgS s i = ff) → blankF (pgS s) n = true) := Lib.hid fun h => (blankF_iff _ _).2 fun i hi => by
    by_cases hin : i < n
    · exact .inl hin
    · exact .inr (h i (by omega) hi)
  have HSS : Hid (s.size = 256) := Lib.hid hs
  generalize blankF (pgS s) n = Q at *
  clear hs
  go_enter Tryz.func69, Tryz.ntmps69
  go_wp2
  go_loopw [1] (fun i wr => ∃ k : Nat, n ≤ k ∧ k ≤ 16 ∧ i = .int .i64 k ∧ (∀ j, n ≤ j → j < k → pgS s j = ff) ∧ Below w.heap.size w wr) (fun i _ => 16 - (intOf i).toNat)
  case atStart => exact ⟨n, Nat.le_refl _, hn, rfl, fun j h1 h2 => absurd h1 (by omega), Below.refl _ _⟩
  case round =>
    obtain ⟨k, hnk, hk, rfl, hall, hbw⟩ := hrel
    have HALL := Lib.hid hall
    have HBW := Lib.hid hbw
    clear hall hbw
    by_cases hlt : k < 16
    · have hk1 : (k : Int) < 16 := by omega
      obtain ⟨Y, P, hY, hY16, hYP, hPL⟩ := HPG.out k hlt
      have HBP := Lib.hid (HBL.out wr P)
      rw [hPL] at HBP
      obtain ⟨m, hm⟩ : ∃ m, k * 16 = m := ⟨_, rfl⟩
      have hmI : (k : Int) * 16 = (m : Int) := by omega
      have hm256 : (m : Int) ≤ 240 := by omega
      have hss := HSS.out
      have hssI : (m : Int) ≤ (s.size : Int) := by omega
      have hss2 : m ≤ s.size := by omega
      have hyI : (16 : Int) ≤ (Y.size : Int) := by omega
      rw [hm] at hY
      have HPF : Hid (¬ pgS s k = ff → Q = false) := Lib.hid fun h => HNO.out k hlt hnk h
      have HAL2 : Hid (pgS s k = ff → ∀ j, n ≤ j → j < k + 1 → pgS s j = ff) := Lib.hid fun h j h1 h2 => by
        by_cases e : j = k
        · rw [e]; exact h
        · exact HALL.out j h1 (by omega)
      clear hPL hm hss HPG HNO HBL
      by_cases hff : pgS s k = ff
      · rw [decide_eq_true hff] at HBP
        have HA3 := Lib.hid (HAL2.out hff)
        clear hff HAL2 HPF
        go_wp2_with (go_at_call 82; (with_reducible refine HBP.out.mono ?_); rintro e w1 ⟨rfl, b1⟩; have B1 : Hid (Below w.heap.size w w1) := Lib.hid (HBW.out.next b1); clear b1)
        go_roundw
        case rel => exact ⟨k + 1, by omega, by omega, by go_num, HA3.out, B1.out⟩
        case measure => simp [intOf]; omega
      · rw [decide_eq_false hff] at HBP
        have HA3 := Lib.hid (HPF.out hff)
        clear hff HAL2 HPF
        go_wp2_with (go_at_call 82; (with_reducible refine HBP.out.mono ?_); rintro e w1 ⟨rfl, b1⟩; have B1 : Hid (Below w.heap.size w w1) := Lib.hid (HBW.out.next b1); clear b1)
        go_ret
        exact ⟨ret_bool HA3.out.symm, B1.out⟩
    · have hk2 : ¬ (k : Int) < 16 := by omega
      have HA3 : Hid (Q = true) := Lib.hid (HYES.out fun i h1 h2 => HALL.out i h1 (by omega))
      go_wp2
      go_ret
      exact ⟨ret_bool HA3.out.symm, HBW.out⟩
end Go.Proofs.YtbnjenbhpaknbaaGreat

/- A half's parts: split (gen_log_f.py). -/
namespace Go.Proofs.YtbnjenbhpaknbaaGreat
open Go.RowKit CrcMath NumMath FlaMath GeoMath
set_option linter.unusedVariables false
set_option maxRecDepth 100000

/-- A part of a list that lies somewhere. -/
theorem rcs_part {w : World} {B bl off : Nat} {l : List Rc} (hb : bl < B) (hc : ∀ j u, (rcs l)[j]? = some u → w.cell? ⟨bl, off + j, none⟩ = some u) (i m : Nat) : Lies w B (some ⟨bl, off + i * 4, none⟩) (rcs ((l.drop i).take m)) := by
  intro _
  refine ⟨bl, off + i * 4, rfl, hb, fun j u hj => ?_⟩
  have e : rcs l = rcs (l.take i) ++ (rcs ((l.drop i).take m) ++ rcs ((l.drop i).drop m)) := by
    rw [← rcs_append, ← rcs_append, List.take_append_drop, List.take_append_drop]
  by_cases hi : i ≤ l.length
  · have h4 : (rcs (l.take i)).length = i * 4 := by rw [rcs_length, List.length_take, Nat.min_eq_left hi]
    have := hc (i * 4 + j) u (by
      rw [e, List.getElem?_append_right (by omega), h4, Nat.add_sub_cancel_left, List.getElem?_append_left (List.getElem?_eq_some_iff.1 hj).1]
      exact hj)
    rw [← Nat.add_assoc] at this
    exact this
  · rw [List.drop_of_length_le (by omega)] at hj
    simp [rcs] at hj
theorem sl_two {w : World} {gl : Nat} {l1 l2 : List Rc} {a1 a2 : Option Addr} {c1 c2 : Nat} {t : TypeId} (hr : Row w gl t [.slice a1 l1.length c1, .slice a2 l2.length c2]) (h1 : Lies w w.heap.size a1 (rcs l1)) (h2 : Lies w w.heap.size a2 (rcs l2)) : SlAt w gl [l1, l2] := fun j hj => by
  match j, hj with
  | 0, _ => exact ⟨a1, c1, hr.cell 0, h1⟩
  | 1, _ => exact ⟨a2, c2, hr.cell 1, h2⟩
theorem idx_ok (l : List Rc) : (endF l < l.length ∧ idxF isEnd l = (endF l : Int)) ∨ (¬ endF l < l.length ∧ idxF isEnd l = -1) := by
  unfold idxF
  rw [← endF_idx]
  by_cases h : endF l < l.length
  · exact .inl ⟨h, if_pos h⟩
  · exact .inr ⟨h, if_neg h⟩
theorem split_no {l : List Rc} (h : splitOk l = false) : splitG l = 0 ∧ splitR l = [] := by
  unfold splitG splitR
  rw [h]
  exact ⟨rfl, rfl⟩
/-- A list of the call's own, in a region that draws its order. -/
def OwR (B n : Nat) (xs : List Value) : Value → World → Prop := fun v w => w.ownsRow B 36 4 v n xs
theorem OwR.monot (B n : Nat) (xs : List Value) : Monot (OwR B n xs) := fun _ _ _ h hb => owns_step h hb
theorem concat_val (l1 l2 : List Rc) (a1 a2 : Option Addr) (c1 c2 : Nat) (wx : World) (v : Value) (hv : Lst [.slice a1 l1.length c1, .slice a2 l2.length c2] v wx) (h1 : Lies wx wx.heap.size a1 (rcs l1)) (h2 : Lies wx wx.heap.size a2 (rcs l2)) (hm : (l1 ++ l2).length ≤ 1000000) :
    Calls Tryz.prog 52 #[v] wx fun e w' => (∃ v, e = .returned v ∧ w'.ownsRow wx.heap.size 36 4 v (l1 ++ l2).length (rcs (l1 ++ l2))) ∧ Below wx.heap.size wx w' := by
  obtain ⟨g, n, rfl, hn, hl⟩ := hv
  obtain ⟨b, off, e, hb, hc⟩ := hl (by show 0 < 2; omega)
  cases e
  have hn2 : n = 2 := by rw [← hn]; rfl
  subst hn2
  have hs : SlAt wx g [l1, l2] := fun j hj => by
    match j, hj with
    | 0, _ => exact ⟨a1, c1, by simpa using hc 0 _ rfl, h1⟩
    | 1, _ => exact ⟨a2, c2, by simpa using hc 1 _ rfl, h2⟩
  have := log_concat g 2 2 [l1, l2] wx rfl (by omega) hb hs (by simpa using hm)
  have e4 : [l1, l2].flatten = l1 ++ l2 := by simp
  rw [e4] at this
  exact this
set_option maxHeartbeats 2000000 in
theorem log_split_any (a : Option Addr) (n cap : Nat) (l : List Rc) (w : World) (hn : l.length = n) (hn2 : n ≤ 16) (hcap : n ≤ cap) (hcm : cap ≤ maxLen) (hl : Lies w w.heap.size a (rcs l)) :
    Calls Tryz.prog 68 #[.slice a n cap] w fun e w' => (∃ v, e = .returned (.tuple #[.int .i64 (splitG l), v]) ∧ w'.ownsRow w.heap.size 36 4 v (splitR l).length (rcs (splitR l))) ∧ Below w.heap.size w w' := by
  have HNO : Hid (splitOk l = false → ∀ w', Below w.heap.size w w' → (∃ v, Ending.returned (.tuple #[.int .i64 0, .slice none 0 0]) = .returned (.tuple #[.int .i64 (splitG l), v]) ∧ w'.ownsRow w.heap.size 36 4 v (splitR l).length (rcs (splitR l))) ∧ Below w.heap.size w w') := Lib.hid fun h w' hb => by
    obtain ⟨h1, h2⟩ := split_no h
    rw [h1, h2]
    exact ⟨⟨_, rfl, World.ownsRow_nil _ _ _ _⟩, hb⟩
  have hcmI : (cap : Int) ≤ 9223372036854775807 := by unfold maxLen at hcm; omega
  rcases Nat.eq_zero_or_pos n with h0 | hpos
  · have HN0 := Lib.hid (HNO.out (by unfold splitOk; rw [hn, h0]; rfl))
    subst h0
    clear HNO hl
    go_enter Tryz.func68, Tryz.ntmps68
    go_wp2
    go_ret2
    exact HN0.out w (Below.refl _ _)
  · have hl0 : 0 < l.length := by omega
    obtain ⟨b, off, rfl, hb, hc⟩ := hl (by rw [rcs_length]; omega)
    obtain ⟨⟨k0, s0, n0, v0⟩, hx⟩ : ∃ r, l[0] = r := ⟨_, rfl⟩
    have hg0 : l.getD 0 r0 = ⟨k0, s0, n0, v0⟩ := by rw [List.getD_eq_getElem?_getD, List.getElem?_eq_getElem hl0, hx]; rfl
    have hr0 : w.rangeAt b (off + 0 * 4) [.int .i64 k0, .int .i64 s0, .int .i64 n0, .int .i64 v0] := by
      have := rcs_at hc 0 hl0
      rwa [hx] at this
    have c0 : w.cell? ⟨b, off, none⟩ = some (.int .i64 k0) := hr0 0 _ rfl
    have c1 : w.cell? ⟨b, off + 1, none⟩ = some (.int .i64 s0) := hr0 1 _ rfl
    have c3 : w.cell? ⟨b, off + 3, none⟩ = some (.int .i64 v0) := hr0 3 _ rfl
    have hnz : ((n : Int) == 0) = false := by rw [beq_eq_false_iff_ne]; omega
    have hnI : (0 : Int) < (n : Int) := by omega
    have hn16 : (n : Int) ≤ 16 := by omega
    by_cases hk : k0 = 126
    · by_cases hs : s0 = 0
      · have e1 : (k0 != 126) = false := by rw [hk]; rfl
        have e2 : (s0 != 0) = false := by rw [hs]; rfl
        have HI := Lib.hid (log_split1_index (some ⟨b, off, none⟩) n cap l w hn (by omega) (fun _ => ⟨b, off, rfl, hb, hc⟩))
        rcases idx_ok l with ⟨hlt, hix⟩ | ⟨hlt, hix⟩
        · obtain ⟨q, hq⟩ : ∃ q, endF l = q := ⟨_, rfl⟩
          rw [hq] at hlt hix
          rw [hix] at HI
          obtain ⟨⟨k1, s1, n1, v1⟩, hx1⟩ : ∃ r, l[q]'hlt = r := ⟨_, rfl⟩
          have hg1 : l.getD q r0 = ⟨k1, s1, n1, v1⟩ := by rw [List.getD_eq_getElem?_getD, List.getElem?_eq_getElem hlt, hx1]; rfl
          have hr1 := rcs_at hc q hlt
          rw [hx1] at hr1
          have HQ3 : Hid (∀ u, Below w.heap.size w u → u.cell? ⟨b, off + q * 4 + 3, none⟩ = some (.int .i64 v1)) := Lib.hid fun u hu => (hu.cell (p := ⟨b, off + q * 4 + 3, none⟩) hb).trans (hr1 3 _ rfl)
          have hqI : (0 : Int) ≤ (q : Int) := by omega
          have hqn : (q : Int) < (n : Int) := by omega
          have hqn2 : q < n := by omega
          have hq0 : ¬ (q : Int) < 0 := by omega
          have HLIM : Hid (b < w.heap.size) := Lib.hid hb
          by_cases hv : v1 = v0
          · have hok : splitOk l = true := by
              unfold splitOk
              rw [hq, hg0, hg1, hk, hs, hv]
              simp [hlt, hl0]
            have HSG : Hid (splitG l = v0 ∧ splitR l = bares ((l.take q).drop 1 ++ l.drop (q + 1))) := Lib.hid (by
              unfold splitG splitR
              rw [hok, hg0, hq]
              exact ⟨rfl, rfl⟩)
            have hq1 : 1 ≤ q := by
              rcases Nat.eq_zero_or_pos q with h | h
              · exfalso
                have h2 : isEnd (l[endF l]'(by rw [hq]; exact hlt)) = true := List.findIdx_getElem (w := by show endF l < l.length; rw [hq]; exact hlt)
                have h3 : endF l = 0 := by rw [hq, h]
                simp only [h3] at h2
                rw [hx] at h2
                simp [isEnd, hk] at h2
              · exact h
            have e3 : (v1 != v0) = false := by rw [hv]; simp
            have hq1I : (1 : Int) ≤ (q : Int) := by omega
            have hqc : (q : Int) ≤ (cap : Int) := by omega
            have hqc1 : (q : Int) + 1 ≤ (cap : Int) := by omega
            have hqw : (q : Int) + 1 = ((q + 1 : Nat) : Int) := by omega
            obtain ⟨q1, hq1e⟩ : ∃ q1, q + 1 = q1 := ⟨_, rfl⟩
            rw [hq1e] at hqw
            have hq1n : (q1 : Int) ≤ (n : Int) := by omega
            have hq1c : (q1 : Int) ≤ (cap : Int) := by omega
            have hq1m : IntKind.i64.wrap (q1 : Int) = (q1 : Int) := by rw [IntKind.wrap_i64]; omega
            have hcz : ¬ cap - 1 = 0 := by omega
            have hcz1 : ¬ cap = 1 := by omega
            have L1e : (l.take q).drop 1 = (l.drop 1).take (q - 1) := by rw [List.drop_take]
            have hlen1 : ((l.take q).drop 1).length = q - 1 := by rw [List.length_drop, List.length_take]; omega
            have hlen2 : (l.drop (q + 1)).length = n - q1 := by rw [List.length_drop]; omega
            have HP1 : Hid (∀ u, Below w.heap.size w u → Lies u u.heap.size (some ⟨b, off + 4, none⟩) (rcs ((l.take q).drop 1))) := Lib.hid fun u hu => by
              rw [L1e]
              exact rcs_part (Nat.lt_of_lt_of_le hb hu.size) (fun j x hj => (hu.cell (p := ⟨b, off + j, none⟩) hb).trans (hc j x hj)) 1 _
            have HP2 : Hid (∀ u, Below w.heap.size w u → Lies u u.heap.size (some ⟨b, off + q1 * 4, none⟩) (rcs (l.drop (q + 1)))) := Lib.hid fun u hu => by
              have := rcs_part (l := l) (Nat.lt_of_lt_of_le hb hu.size) (fun j x hj => (hu.cell (p := ⟨b, off + j, none⟩) hb).trans (hc j x hj)) (q + 1) (l.length)
              rw [List.take_of_length_le (by rw [List.length_drop]; omega)] at this
              rw [← hq1e]
              exact this
            have hX : (splitR l).length = ((l.take q).drop 1 ++ l.drop (q + 1)).length := by rw [HSG.out.2, bares_length]
            have HCC : Hid (∀ (u : World) (a2 : Option Addr) (cx : Nat), Below w.heap.size w u → (a2 = some ⟨b, off + q1 * 4, none⟩ ∨ l.drop (q + 1) = []) → ∀ v, Lst [.slice (some ⟨b, off + 4, none⟩) (q - 1) (cap - 1), .slice a2 (n - q1) cx] v u → Calls Tryz.prog 52 #[v] u fun e u' =>
                (∃ v, e = .returned v ∧ OwR w.heap.size (splitR l).length (rcs ((l.take q).drop 1 ++ l.drop (q + 1))) v u') ∧ Below u.heap.size u u') := Lib.hid fun u a2 cx hu ha2 v hv => by
              have hL2 : Lies u u.heap.size a2 (rcs (l.drop (q + 1))) := by
                rcases ha2 with rfl | h2
                · exact HP2.out _ hu
                · rw [h2]; exact Lies.nil _ _ _
              rw [← hlen1, ← hlen2] at hv
              refine (concat_val ((l.take q).drop 1) (l.drop (q + 1)) _ a2 _ _ u v hv (HP1.out u hu) hL2 (by rw [List.length_append, hlen1, hlen2]; omega)).mono ?_
              rintro e u' ⟨⟨v2, rfl, h1⟩, h2⟩
              refine ⟨⟨v2, rfl, ?_⟩, h2⟩
              unfold OwR
              rw [hX]
              exact own_mono h1 hu.size
            have HBR : Hid (∀ (u : World), Below w.heap.size w u → ∀ v, OwR w.heap.size (splitR l).length (rcs ((l.take q).drop 1 ++ l.drop (q + 1))) v u → Calls Tryz.prog 33 #[v] u fun e u' => (∃ v, e = .returned v ∧ OwR w.heap.size (splitR l).length (rcs (splitR l)) v u') ∧ Below u.heap.size u u') := Lib.hid fun u hu v hv => by
              obtain ⟨a5, c5, rfl, h5⟩ := own_formM hv
              have := log_bare a5 (splitR l).length c5 ((l.take q).drop 1 ++ l.drop (q + 1)) u hX.symm (by rw [hX, List.length_append, hlen1, hlen2]; omega) h5
              rw [← HSG.out.2] at this
              refine this.mono ?_
              rintro e u' ⟨⟨v2, rfl, h1⟩, h2⟩
              exact ⟨⟨v2, rfl, own_mono h1 hu.size⟩, h2⟩
            have HSGV := Lib.hid HSG.out.1
            have hqx : q * 4 + 0 = q * 4 := rfl
            have HNIL2 : Hid (q1 = cap → l.drop (q + 1) = []) := Lib.hid fun h => List.drop_of_length_le (by omega)
            generalize rcs ((l.take q).drop 1 ++ l.drop (q + 1)) = CX at *
            generalize splitR l = SR at *
            generalize splitG l = SG at *
            obtain rfl := HSGV.out
            subst hv
            clear HSG hok hl0 hn hx hg0 hr0 hlt hix hx1 hg1 hr1 hq1e L1e hlen1 hlen2 HP1 HP2 HNO hb hc hcap hcm hk hs hX
            go_enter Tryz.func68, Tryz.ntmps68
            have HQ1C := Lib.hid HNIL2.out
            go_wp2_with (go_at_call 73; (with_reducible refine HI.out.mono ?_); rintro e u1 ⟨rfl, b1⟩; have cq := HQ3.out u1 b1; have B1 := Lib.hid b1; clear b1)
            clear c0 c1 c3 cq
            by_cases hcq : q1 = cap
            · have hcz2 : cap - q1 = 0 := by omega
              have hcz3 : cap ≤ q1 := by omega
              have hcz4 : (cap = q1) = True := eq_true (by omega)
              have HN2 := Lib.hid (HNIL2.out hcq)
              clear hcq
              refine region_invX [(0, 40), (1, 41), (2, 42), (3, 43), (4, 44), (5, 45), (6, 46), (7, 47), (8, 48), (9, 49), (10, 50), (11, 2), (12, 3)]
                (fun ii => [Is (.int .i64 v1), Is (.slice (some ⟨b, off, none⟩) n cap), Is (.int .i64 (q : Int)), Is (.slice (some ⟨b, off + 4, none⟩) (q - 1) (cap - 1)), Is (.slice (some ⟨b, off, none⟩) n cap), Is (.int .i64 (q : Int)), Is (.int .i64 (q1 : Int)), Is (.slice (some ⟨b, off, none⟩) (n - q1) (0)), Lst [(.slice (some ⟨b, off + 4, none⟩) (q - 1) (cap - 1)), (.slice (some ⟨b, off, none⟩) (n - q1) (0))], OwR w.heap.size SR.length CX, OwR w.heap.size SR.length (rcs SR), Is (.int .i64 v1), OwR w.heap.size SR.length (rcs SR)].getD ii (Is undef))
                (fun w' => Below u1.heap.size u1 w') (by kernel_rfl) (by kernel_rfl) (by decide) (by decide) (by kernel_rfl) rfl ?monoA ((Below.refl _ _).drew) ?stepA ?finA
              case monoA =>
                intro i
                match i with
                | 0 | 1 | 2 | 3 | 4 | 5 | 6 | 7 | 11 => exact Is.monot _
                | 8 => exact Lst.monot _
                | 9 | 10 | 12 => exact OwR.monot _ _ _
                | _ + 13 => exact Is.monot _
              case stepA =>
                refine List.forall_mem_cons.2 ⟨?As0, List.forall_mem_cons.2 ⟨?As1, List.forall_mem_cons.2 ⟨?As2, List.forall_mem_cons.2 ⟨?As3, List.forall_mem_cons.2 ⟨?As4, List.forall_mem_cons.2 ⟨?As5, List.forall_mem_cons.2 ⟨?As6, List.forall_mem_cons.2 ⟨?As7, List.forall_mem_cons.2 ⟨?As8, List.forall_mem_cons.2 ⟨?As9, List.forall_mem_cons.2 ⟨?As10, List.forall_mem_cons.2 ⟨?As11, List.forall_mem_cons.2 ⟨?As12, List.forall_mem_nil _⟩⟩⟩⟩⟩⟩⟩⟩⟩⟩⟩⟩⟩
                case As0 =>
                  intro u wx hg hC
                  clear hC
                  refine wpOp_step rfl (fun K hK => ?_)
                  simp only [puts, List.foldl]
                  go_simp
                  exact hK _ _ ⟨rfl, rfl, hg, Below.refl _ _⟩
                case As1 =>
                  intro u wx hg hC
                  clear hC
                  refine wpOp_step rfl (fun K hK => ?_)
                  simp only [puts, List.foldl]
                  go_simp
                  exact hK _ _ ⟨rfl, rfl, hg, Below.refl _ _⟩
                case As2 =>
                  intro u wx hg hC
                  clear hC
                  refine wpOp_step rfl (fun K hK => ?_)
                  simp only [puts, List.foldl]
                  go_simp
                  exact hK _ _ ⟨rfl, rfl, hg, Below.refl _ _⟩
                case As3 =>
                  intro u wx hg hC
                  have hJ1 : u 1 = (.slice (some ⟨b, off, none⟩) n cap) := hC.at 1 (by kernel_rfl)
                  have hJ2 : u 2 = (.int .i64 (q : Int)) := hC.at 2 (by kernel_rfl)
                  clear hC
                  refine wpOp_step rfl (fun K hK => ?_)
                  simp only [puts, List.foldl]
                  go_simp
                  exact hK _ _ ⟨rfl, rfl, hg, Below.refl _ _⟩
                case As4 =>
                  intro u wx hg hC
                  clear hC
                  refine wpOp_step rfl (fun K hK => ?_)
                  simp only [puts, List.foldl]
                  go_simp
                  exact hK _ _ ⟨rfl, rfl, hg, Below.refl _ _⟩
                case As5 =>
                  intro u wx hg hC
                  clear hC
                  refine wpOp_step rfl (fun K hK => ?_)
                  simp only [puts, List.foldl]
                  go_simp
                  exact hK _ _ ⟨rfl, rfl, hg, Below.refl _ _⟩
                case As6 =>
                  intro u wx hg hC
                  have hJ5 : u 5 = (.int .i64 (q : Int)) := hC.at 5 (by kernel_rfl)
                  clear hC
                  refine wpOp_step rfl (fun K hK => ?_)
                  simp only [puts, List.foldl]
                  go_simp
                  exact hK _ _ ⟨rfl, rfl, hg, Below.refl _ _⟩
                case As7 =>
                  intro u wx hg hC
                  have hJ4 : u 4 = (.slice (some ⟨b, off, none⟩) n cap) := hC.at 4 (by kernel_rfl)
                  have hJ6 : u 6 = (.int .i64 (q1 : Int)) := hC.at 6 (by kernel_rfl)
                  clear hC
                  refine wpOp_step rfl (fun K hK => ?_)
                  simp only [puts, List.foldl]
                  go_simp
                  exact hK _ _ ⟨rfl, rfl, hg, Below.refl _ _⟩
                case As8 =>
                  intro u wx hg hC
                  have hJ3 : u 3 = (.slice (some ⟨b, off + 4, none⟩) (q - 1) (cap - 1)) := hC.at 3 (by kernel_rfl)
                  have hJ7 : u 7 = (.slice (some ⟨b, off, none⟩) (n - q1) (0)) := hC.at 7 (by kernel_rfl)
                  clear hC
                  refine wpOp_step rfl (fun K hK => ?_)
                  simp only [puts, List.foldl]
                  go_simp
                  exact hK _ _ ⟨rfl, lst_new [(.slice (some ⟨b, off + 4, none⟩) (q - 1) (cap - 1)), (.slice (some ⟨b, off, none⟩) (n - q1) (0))] wx 22 _ rfl, hg.next (alloc_below _ _), alloc_below _ _⟩
                case As9 =>
                  intro u wx hg hC
                  have hJ8 : (Lst [(.slice (some ⟨b, off + 4, none⟩) (q - 1) (cap - 1)), (.slice (some ⟨b, off, none⟩) (n - q1) (0))]) (u 8) wx := hC.at 8 (by kernel_rfl)
                  clear hC
                  refine wpOp_step rfl (fun K hK => ?_)
                  simp only [puts, List.foldl]
                  go_simp
                  refine (HCC.out wx (some ⟨b, off, none⟩) _ (B1.out.next hg) (Or.inr HN2.out) _ hJ8).mono ?_
                  rintro e w' ⟨⟨v', rfl, ho'⟩, hb'⟩
                  exact hK _ _ ⟨rfl, ho', hg.next hb', hb'⟩
                case As10 =>
                  intro u wx hg hC
                  have hJ9 : (OwR w.heap.size SR.length CX) (u 9) wx := hC.at 9 (by kernel_rfl)
                  clear hC
                  refine wpOp_step rfl (fun K hK => ?_)
                  simp only [puts, List.foldl]
                  go_simp
                  refine (HBR.out wx (B1.out.next hg) _ hJ9).mono ?_
                  rintro e w' ⟨⟨v', rfl, ho'⟩, hb'⟩
                  exact hK _ _ ⟨rfl, ho', hg.next hb', hb'⟩
                case As11 =>
                  intro u wx hg hC
                  have hJ0 : u 0 = (.int .i64 v1) := hC.at 0 (by kernel_rfl)
                  clear hC
                  refine wpOp_step rfl (fun K hK => ?_)
                  simp only [puts, List.foldl]
                  go_simp
                  exact hK _ _ ⟨rfl, rfl, hg, Below.refl _ _⟩
                case As12 =>
                  intro u wx hg hC
                  have hJ10 : (OwR w.heap.size SR.length (rcs SR)) (u 10) wx := hC.at 10 (by kernel_rfl)
                  clear hC
                  refine wpOp_step rfl (fun K hK => ?_)
                  simp only [puts, List.foldl]
                  go_simp
                  exact hK _ _ ⟨rfl, hJ10, hg, Below.refl _ _⟩
              case finA =>
                intro u ux hux hφ
                have e11 : u 11 = .int .i64 v1 := hφ (11, 2) (by decide)
                have e12 : (OwR w.heap.size SR.length (rcs SR)) (u 12) ux := hφ (12, 3) (by decide)
                clear hφ
                simp only [puts, List.foldl]
                rw [e11]
                go_simp
                go_wp2
                go_ret2
                exact ⟨⟨_, rfl, e12⟩, B1.out.next hux⟩
            · have hcz2 : ¬ cap - q1 = 0 := by omega
              have hcz3 : ¬ cap ≤ q1 := by omega
              have hcz4 : ¬ cap = q1 := by omega
              clear hcq
              refine region_invX [(0, 40), (1, 41), (2, 42), (3, 43), (4, 44), (5, 45), (6, 46), (7, 47), (8, 48), (9, 49), (10, 50), (11, 2), (12, 3)]
                (fun ii => [Is (.int .i64 v1), Is (.slice (some ⟨b, off, none⟩) n cap), Is (.int .i64 (q : Int)), Is (.slice (some ⟨b, off + 4, none⟩) (q - 1) (cap - 1)), Is (.slice (some ⟨b, off, none⟩) n cap), Is (.int .i64 (q : Int)), Is (.int .i64 (q1 : Int)), Is (.slice (some ⟨b, off + q1 * 4, none⟩) (n - q1) (cap - q1)), Lst [(.slice (some ⟨b, off + 4, none⟩) (q - 1) (cap - 1)), (.slice (some ⟨b, off + q1 * 4, none⟩) (n - q1) (cap - q1))], OwR w.heap.size SR.length CX, OwR w.heap.size SR.length (rcs SR), Is (.int .i64 v1), OwR w.heap.size SR.length (rcs SR)].getD ii (Is undef))
                (fun w' => Below u1.heap.size u1 w') (by kernel_rfl) (by kernel_rfl) (by decide) (by decide) (by kernel_rfl) rfl ?monoB ((Below.refl _ _).drew) ?stepB ?finB
              case monoB =>
                intro i
                match i with
                | 0 | 1 | 2 | 3 | 4 | 5 | 6 | 7 | 11 => exact Is.monot _
                | 8 => exact Lst.monot _
                | 9 | 10 | 12 => exact OwR.monot _ _ _
                | _ + 13 => exact Is.monot _
              case stepB =>
                refine List.forall_mem_cons.2 ⟨?Bs0, List.forall_mem_cons.2 ⟨?Bs1, List.forall_mem_cons.2 ⟨?Bs2, List.forall_mem_cons.2 ⟨?Bs3, List.forall_mem_cons.2 ⟨?Bs4, List.forall_mem_cons.2 ⟨?Bs5, List.forall_mem_cons.2 ⟨?Bs6, List.forall_mem_cons.2 ⟨?Bs7, List.forall_mem_cons.2 ⟨?Bs8, List.forall_mem_cons.2 ⟨?Bs9, List.forall_mem_cons.2 ⟨?Bs10, List.forall_mem_cons.2 ⟨?Bs11, List.forall_mem_cons.2 ⟨?Bs12, List.forall_mem_nil _⟩⟩⟩⟩⟩⟩⟩⟩⟩⟩⟩⟩⟩
                case Bs0 =>
                  intro u wx hg hC
                  clear hC
                  refine wpOp_step rfl (fun K hK => ?_)
                  simp only [puts, List.foldl]
                  go_simp
                  exact hK _ _ ⟨rfl, rfl, hg, Below.refl _ _⟩
                case Bs1 =>
                  intro u wx hg hC
                  clear hC
                  refine wpOp_step rfl (fun K hK => ?_)
                  simp only [puts, List.foldl]
                  go_simp
                  exact hK _ _ ⟨rfl, rfl, hg, Below.refl _ _⟩
                case Bs2 =>
                  intro u wx hg hC
                  clear hC
                  refine wpOp_step rfl (fun K hK => ?_)
                  simp only [puts, List.foldl]
                  go_simp
                  exact hK _ _ ⟨rfl, rfl, hg, Below.refl _ _⟩
                case Bs3 =>
                  intro u wx hg hC
                  have hJ1 : u 1 = (.slice (some ⟨b, off, none⟩) n cap) := hC.at 1 (by kernel_rfl)
                  have hJ2 : u 2 = (.int .i64 (q : Int)) := hC.at 2 (by kernel_rfl)
                  clear hC
                  refine wpOp_step rfl (fun K hK => ?_)
                  simp only [puts, List.foldl]
                  go_simp
                  exact hK _ _ ⟨rfl, rfl, hg, Below.refl _ _⟩
                case Bs4 =>
                  intro u wx hg hC
                  clear hC
                  refine wpOp_step rfl (fun K hK => ?_)
                  simp only [puts, List.foldl]
                  go_simp
                  exact hK _ _ ⟨rfl, rfl, hg, Below.refl _ _⟩
                case Bs5 =>
                  intro u wx hg hC
                  clear hC
                  refine wpOp_step rfl (fun K hK => ?_)
                  simp only [puts, List.foldl]
                  go_simp
                  exact hK _ _ ⟨rfl, rfl, hg, Below.refl _ _⟩
                case Bs6 =>
                  intro u wx hg hC
                  have hJ5 : u 5 = (.int .i64 (q : Int)) := hC.at 5 (by kernel_rfl)
                  clear hC
                  refine wpOp_step rfl (fun K hK => ?_)
                  simp only [puts, List.foldl]
                  go_simp
                  exact hK _ _ ⟨rfl, rfl, hg, Below.refl _ _⟩
                case Bs7 =>
                  intro u wx hg hC
                  have hJ4 : u 4 = (.slice (some ⟨b, off, none⟩) n cap) := hC.at 4 (by kernel_rfl)
                  have hJ6 : u 6 = (.int .i64 (q1 : Int)) := hC.at 6 (by kernel_rfl)
                  clear hC
                  refine wpOp_step rfl (fun K hK => ?_)
                  simp only [puts, List.foldl]
                  go_simp
                  exact hK _ _ ⟨rfl, rfl, hg, Below.refl _ _⟩
                case Bs8 =>
                  intro u wx hg hC
                  have hJ3 : u 3 = (.slice (some ⟨b, off + 4, none⟩) (q - 1) (cap - 1)) := hC.at 3 (by kernel_rfl)
                  have hJ7 : u 7 = (.slice (some ⟨b, off + q1 * 4, none⟩) (n - q1) (cap - q1)) := hC.at 7 (by kernel_rfl)
                  clear hC
                  refine wpOp_step rfl (fun K hK => ?_)
                  simp only [puts, List.foldl]
                  go_simp
                  exact hK _ _ ⟨rfl, lst_new [(.slice (some ⟨b, off + 4, none⟩) (q - 1) (cap - 1)), (.slice (some ⟨b, off + q1 * 4, none⟩) (n - q1) (cap - q1))] wx 22 _ rfl, hg.next (alloc_below _ _), alloc_below _ _⟩
                case Bs9 =>
                  intro u wx hg hC
                  have hJ8 : (Lst [(.slice (some ⟨b, off + 4, none⟩) (q - 1) (cap - 1)), (.slice (some ⟨b, off + q1 * 4, none⟩) (n - q1) (cap - q1))]) (u 8) wx := hC.at 8 (by kernel_rfl)
                  clear hC
                  refine wpOp_step rfl (fun K hK => ?_)
                  simp only [puts, List.foldl]
                  go_simp
                  refine (HCC.out wx (some ⟨b, off + q1 * 4, none⟩) _ (B1.out.next hg) (Or.inl rfl) _ hJ8).mono ?_
                  rintro e w' ⟨⟨v', rfl, ho'⟩, hb'⟩
                  exact hK _ _ ⟨rfl, ho', hg.next hb', hb'⟩
                case Bs10 =>
                  intro u wx hg hC
                  have hJ9 : (OwR w.heap.size SR.length CX) (u 9) wx := hC.at 9 (by kernel_rfl)
                  clear hC
                  refine wpOp_step rfl (fun K hK => ?_)
                  simp only [puts, List.foldl]
                  go_simp
                  refine (HBR.out wx (B1.out.next hg) _ hJ9).mono ?_
                  rintro e w' ⟨⟨v', rfl, ho'⟩, hb'⟩
                  exact hK _ _ ⟨rfl, ho', hg.next hb', hb'⟩
                case Bs11 =>
                  intro u wx hg hC
                  have hJ0 : u 0 = (.int .i64 v1) := hC.at 0 (by kernel_rfl)
                  clear hC
                  refine wpOp_step rfl (fun K hK => ?_)
                  simp only [puts, List.foldl]
                  go_simp
                  exact hK _ _ ⟨rfl, rfl, hg, Below.refl _ _⟩
                case Bs12 =>
                  intro u wx hg hC
                  have hJ10 : (OwR w.heap.size SR.length (rcs SR)) (u 10) wx := hC.at 10 (by kernel_rfl)
                  clear hC
                  refine wpOp_step rfl (fun K hK => ?_)
                  simp only [puts, List.foldl]
                  go_simp
                  exact hK _ _ ⟨rfl, hJ10, hg, Below.refl _ _⟩
              case finB =>
                intro u ux hux hφ
                have e11 : u 11 = .int .i64 v1 := hφ (11, 2) (by decide)
                have e12 : (OwR w.heap.size SR.length (rcs SR)) (u 12) ux := hφ (12, 3) (by decide)
                clear hφ
                simp only [puts, List.foldl]
                rw [e11]
                go_simp
                go_wp2
                go_ret2
                exact ⟨⟨_, rfl, e12⟩, B1.out.next hux⟩
          · have HN0 := Lib.hid (HNO.out (by
              unfold splitOk
              rw [hq, hg0, hg1]
              simp [hv]))
            have e3 : (v1 != v0) = true := bne_iff_ne.2 hv
            clear HNO hc hx hg0 hr0 hlt hix hx1 hg1 hr1 hl0 hn hv
            go_enter Tryz.func68, Tryz.ntmps68
            go_wp2_with (go_at_call 73; (with_reducible refine HI.out.mono ?_); rintro e u1 ⟨rfl, b1⟩; have cq := HQ3.out u1 b1; have B1 := Lib.hid b1; clear b1)
            go_ret2
            exact HN0.out _ B1.out
        · have HN0 := Lib.hid (HNO.out (by
            unfold splitOk
            rw [decide_eq_false hlt]
            simp))
          rw [hix] at HI
          clear HNO hc hx hg0 hr0 hlt hix hl0 hn
          go_enter Tryz.func68, Tryz.ntmps68
          go_wp2_with (go_at_call 73; (with_reducible refine HI.out.mono ?_); rintro e u1 ⟨rfl, b1⟩; have B1 := Lib.hid b1; clear b1)
          go_ret2
          exact HN0.out _ B1.out
      · have HN0 := Lib.hid (HNO.out (by unfold splitOk; rw [hg0]; simp [hs]))
        have e1 : (k0 != 126) = false := by rw [hk]; rfl
        have e2 : (s0 != 0) = true := bne_iff_ne.2 hs
        clear HNO hc hx hg0 hr0 hl0 hn hk hs
        go_enter Tryz.func68, Tryz.ntmps68
        go_wp2
        go_ret2
        exact HN0.out _ (Below.refl _ _)
    · have HN0 := Lib.hid (HNO.out (by unfold splitOk; rw [hg0]; simp [hk]))
      have e1 : (k0 != 126) = true := bne_iff_ne.2 hk
      clear HNO hc hx hg0 hr0 hl0 hn hk
      go_enter Tryz.func68, Tryz.ntmps68
      go_wp2
      go_ret2
      exact HN0.out _ (Below.refl _ _)
end Go.Proofs.YtbnjenbhpaknbaaGreat

/- A region that draws its order in which a device is asked: what holds of the world is a fact of its own, the values' facts bear any relation of worlds. -/
namespace Go.Proofs.YtbnjenbhpaknbaaGreat
open Go.RowKit
set_option linter.unusedVariables false
section
variable {P : Program} {ops : Array Oper} {Q : Exit → Act → World → Prop}
/-- As region_invX, worlds being related in any way that the values' facts bear. -/
theorem region_invW {id : Nat} {a : Act} {w : World} (D : List (Nat × Nat)) (φ : Nat → Value → World → Prop) (G : World → Prop) (Rel : World → World → Prop) (hm : P.follows .mixedOrders = true)
    (hord : ordX ops = true) (hD1 : D.map (·.1) = List.range ops.size) (hD2 : (D.map (·.2)).Nodup) (hD3 : (D.all fun p => (ops[p.1]?.bind (·.dst)) == some p.2) = true) (hD4 : (D.all fun p => Nat.blt p.2 a.tmps.size) = true)
    (hmono : ∀ i v w w', φ i v w → Rel w w' → φ i v w') (hG : G w.drew)
    (step : ∀ p ∈ D, ∀ u w, G w → Came ops φ u w p.1 →
      wpOp P ops Q p.1 (fun a' w' => a'.defers = (puts D a u).defers ∧ φ p.1 (a'.tmps.getD p.2 undef) w' ∧ G w' ∧ Rel w w') (puts D a u) w)
    (fin : ∀ u w, G w → (∀ p ∈ D, φ p.1 (u p.1) w) → Q .normal (puts D a u) w) : (Code.region id ops true).wp P Q a w := by
  refine wp_region_any hm ?_
  have hnd1 : (D.map (·.1)).Nodup := by rw [hD1]; exact List.nodup_range
  have key : ∀ (fuel : Nat) (listed : Array Bool) (w : World) (u : Nat → Value) (L : List Nat), listed.size = ops.size → L.length ≤ fuel → (∀ i, listed.getD i true = false → i ∈ L) → G w →
      (∀ i, i < ops.size → listed.getD i true = true → φ i (u i) w) → wpAny P .any ops Q fuel listed (puts D a u) w := by
    intro fuel
    induction fuel with
    | zero =>
      intro listed w u L hs hL hin hg hφ
      have hall : ∀ i, listed.getD i true = true := fun i => by
        cases hi : listed.getD i true with
        | true => rfl
        | false => have := hin i hi; rw [List.length_eq_zero_iff.1 (Nat.le_zero.1 hL)] at this; cases this
      refine ⟨?_, fin u w hg fun p hp => hφ p.1 ?_ (hall _)⟩
      · rw [List.eq_nil_iff_forall_not_mem]
        intro i hi
        have := (mem_ready.1 hi).2.1
        rw [hall i] at this
        cases this
      · have : p.1 ∈ D.map (·.1) := List.mem_map.2 ⟨p, hp, rfl⟩
        rw [hD1] at this
        exact List.mem_range.1 this
    | succ fuel ih =>
      intro listed w u L hs hL hin hg hφ
      refine ⟨fun hr => fin u w hg fun p hp => hφ p.1 ?_ (all_listedX hord hs hr _), fun i hi => ?_⟩
      · have : p.1 ∈ D.map (·.1) := List.mem_map.2 ⟨p, hp, rfl⟩
        rw [hD1] at this
        exact List.mem_range.1 this
      · obtain ⟨h1, h2, o, ho, h3⟩ := mem_ready.1 hi
        have hiD : i ∈ D.map (·.1) := by rw [hD1]; exact List.mem_range.2 h1
        obtain ⟨⟨i', d⟩, hp, rfl⟩ := List.mem_map.1 hiD
        have hst := step _ hp u w hg (fun o' ho' e he hb => by
          have heq : o' = o := Option.some.inj (ho'.symm.trans ho)
          subst heq
          have hl := h3 e he hb
          have hlt : e.on < ops.size := by
            rw [← hs]
            by_cases hl2 : e.on < listed.size
            · exact hl2
            · simp [Array.getD, hl2] at hl
          refine hφ e.on hlt ?_
          have hl2 : e.on < listed.size := by omega
          simpa [Array.getD, hl2] using hl)
        have hd3 := List.all_eq_true.1 hD3 _ hp
        have hd4 := List.all_eq_true.1 hD4 _ hp
        simp only [ho, Option.bind_some, beq_iff_eq] at hd3
        have hd5 : d < a.tmps.size := by simp [Nat.blt] at hd4; omega
        have hst2 := wpOp_value (R := fun v w' => φ i' v w' ∧ G w' ∧ Rel w w') ho hd3 (by rw [puts_size]; exact hd5) hst
        clear hst
        refine wpOp_mono ?_ hst2
        rintro a' w' ⟨v, rfl, hv, hg', hb'⟩
        rw [puts_put u i' d v D a hnd1 hD2 hp]
        refine ih _ w' (upd u i' v) (L.erase i') (by simpa using hs) ?_ ?_ hg' ?_
        · rw [List.length_erase_of_mem (hin i' h2)]
          omega
        · intro j hj
          have hji : j ≠ i' := fun e => by
            subst e
            have : j < listed.size := by omega
            simp [Array.getD, this] at hj
          refine (List.mem_erase_of_ne hji).2 (hin j ?_)
          simp only [Array.getD] at hj ⊢
          split at hj
          · rename_i hl
            rw [Array.size_setIfInBounds] at hl
            rw [dif_pos hl]
            rwa [Array.getInternal_eq_getElem, Array.getElem_setIfInBounds_ne (h := Ne.symm hji)] at hj
          · cases hj
        · intro j hj hl
          by_cases hji : j = i'
          · subst hji
            simpa [upd] using hv
          · have e1 : upd u i' v j = u j := by simp [upd, hji]
            rw [e1]
            refine hmono j _ w w' (hφ j hj ?_) hb'
            have hl2 : j < listed.size := by omega
            simp only [Array.getD, Array.size_setIfInBounds, hl2, dif_pos, Array.getInternal_eq_getElem] at hl ⊢
            rwa [Array.getElem_setIfInBounds_ne (h := Ne.symm hji)] at hl
  have hu : ∃ u : Nat → Value, puts D a u = a := by
    refine ⟨fun i => ((D.find? fun p => p.1 == i).map fun p => a.tmps.getD p.2 undef).getD undef, puts_self _ _ _ fun p hp => ?_⟩
    have : D.find? (fun q => q.1 == p.1) = some p := by
      clear fin step hD2 hD1 hD3 hD4 key
      induction D with
      | nil => cases hp
      | cons q D ih =>
        rw [List.map_cons, List.nodup_cons] at hnd1
        rcases List.mem_cons.1 hp with rfl | hp
        · simp
        · have hne : (q.1 == p.1) = false := by
            rw [beq_eq_false_iff_ne]
            intro e
            exact hnd1.1 (List.mem_map.2 ⟨p, hp, e.symm⟩)
          rw [List.find?_cons, hne]
          exact ih hnd1.2 hp
    simp only [this, Option.map_some, Option.getD_some]
  obtain ⟨u, hu⟩ := hu
  have := key ops.size (Array.replicate ops.size false) w.drew u (List.range ops.size) (by simp) (by simp) (fun i hi => by
    rw [List.mem_range]
    by_cases hl : i < ops.size
    · exact hl
    · simp [Array.getD, hl] at hi) hG (fun i hi hl => by simp [Array.getD, hi] at hl)
  rw [hu] at this
  exact this

end
end Go.Proofs.YtbnjenbhpaknbaaGreat

/- What a half holds: look (gen_log_g.py). -/
namespace Go.Proofs.YtbnjenbhpaknbaaGreat
open Go.RowKit CrcMath NumMath FlaMath GeoMath
set_option linter.unusedVariables false
set_option maxRecDepth 100000

def hfL (a g : Int) (v : Value) (n : Int) (c : Bool) : List Value := [.int .i64 a, .int .i64 g, v, .int .i64 n, .bool c]
theorem fits_half : Fits Tryz.prog 60 5 := ⟨⟨_, Tryz.underlying60, rfl⟩, by kernel_rfl⟩
theorem zero_half : ∀ u, (zeroValue 60).run Tryz.prog u = .ok (.agg (hfL 0 0 (.slice none 0 0) 0 false).toArray) u := fun u => by kernel_rfl
theorem zero_seen : ∀ u, (zeroValue 113).run Tryz.prog u = .ok (.agg (strs [ByteArray.empty, ByteArray.empty]).toArray) u := fun u => by kernel_rfl
theorem built_half0 : Tryz.prog.built 60 [] = some (hfL 0 0 (.slice none 0 0) 0 false).toArray := by kernel_rfl
theorem built_half (a n : Int) : Tryz.prog.built 60 [(0, .int .i64 a), (3, .int .i64 n)] = some (hfL a 0 (.slice none 0 0) n false).toArray := by kernel_rfl
theorem finfo_str : (Tryz.prog.info? 9).map (·.size) = some 1 := by kernel_rfl
theorem finfo_recs : (Tryz.prog.info? 22).map (·.size) = some 1 := by kernel_rfl
theorem hfL_lt {a g : Int} {v : Value} {n : Int} {c : Bool} (i : Nat) (h : i < 5) : i < (hfL a g v n c).length := h
theorem hfL_one (a g : Int) (p : Option Addr) (m c2 : Nat) (n : Int) (c : Bool) : (hfL a g (.slice p m c2) n c).all (·.oneCell') = true := rfl
theorem own_form2 {w : World} {base s : Nat} {v : Value} {n : Nat} {xs : List Value} {e : TypeId} (h : w.ownsRow base e s v n xs) : ∃ a cap, v = .slice a n cap ∧ n ≤ cap ∧ cap ≤ maxLen ∧ Lies w w.heap.size a xs := by
  obtain ⟨a, cap, rfl, h1⟩ := own_formM h
  refine ⟨a, cap, rfl, ?_, ?_, h1⟩
  · rcases h.2 with ⟨h1, h2⟩ | ⟨g, cap', cur, h2, _, _, h3, _⟩
    · omega
    · cases h2; exact h3
  · rcases h.2 with ⟨h1, h2⟩ | ⟨g, cap', cur, h2, _, _, _, h3, _⟩
    · cases h1; exact Nat.zero_le _
    · cases h2; exact h3
/-- The pages of a string that was read. -/
theorem pgS_read (C : List UInt8) (a i : Nat) (hi : i < 16) : pgS (str ((C.drop a).take 256)) i = pgs C a i := by
  unfold pgS pgs
  rw [str_list, List.drop_take, List.take_take, List.drop_drop, show min 16 (256 - 16 * i) = 16 by omega]
theorem str_pages {X Y : ByteArray} (hx : X.size = 256) (hy : Y.size = 256) (h : ∀ i, i < 16 → pgS X i = pgS Y i) : X = Y := by
  have e : ∀ (Z : ByteArray), Z.size = 256 → Z.data.toList = (List.range 16).flatMap (pgS Z) := fun Z hz => by
    have hl : Z.data.toList.length = 256 := by rw [size_list]; exact hz
    unfold pgS
    generalize Z.data.toList = L at *
    have key : ∀ n, (List.range n).flatMap (fun i => (L.drop (16 * i)).take 16) = L.take (16 * n) := fun n => by
      induction n with
      | zero => simp
      | succ n ih => rw [List.range_succ, List.flatMap_append, ih, List.flatMap_singleton, show 16 * (n + 1) = 16 * n + 16 by omega, List.take_add]
    rw [key 16, List.take_of_length_le (by omega)]
  have e2 : (List.range 16).flatMap (pgS X) = (List.range 16).flatMap (pgS Y) := by
    unfold List.flatMap
    rw [List.map_congr_left fun i hi => h i (List.mem_range.1 hi)]
  have e3 : X.data.toList = Y.data.toList := by rw [e X hx, e Y hy, e2]
  rw [← str_of X, ← str_of Y, e3]
theorem clean_is {X Y : ByteArray} (hx : X.size = 256) (hy : Y.size = 256) (n : Nat) : cleanF (pgS X) (pgS Y) n = ((X.toList == Y.toList) && blankF (pgS X) n) := by
  by_cases h : X = Y
  · subst h
    rw [beq_yes rfl, Bool.true_and, Bool.eq_iff_iff, cleanF_iff, blankF_iff]
    exact ⟨fun h i hi => (h i hi).2, fun h i hi => ⟨rfl, h i hi⟩⟩
  · rw [beq_no h, Bool.false_and]
    cases hc : cleanF (pgS X) (pgS Y) n with
    | false => rfl
    | true => exact absurd (str_pages hx hy fun i hi => ((cleanF_iff _ _ _).1 hc i hi).1) h
set_option maxHeartbeats 1000000 in
theorem log_look_any {B : Nat} {w : World} {A : LogD} {D : Dv} {V : LV} {sl : Value} (h : LogAt B w A D V sl) (a : Nat) (ha : a < 2) (hdn : D.dn = false) :
    Calls Tryz.prog 44 #[.pointer (some ⟨A.l, 0, none⟩), .int .i64 (a : Int)] w fun e w' => (∃ v, e = .returned (.tuple #[.agg (halfL (lookF D.C A.L a) v).toArray, .int .i64 0]) ∧ w'.ownsRow w.heap.size 36 4 v (lookF D.C A.L a).recs.length (rcs (lookF D.C A.L a).recs)) ∧ LogAt B w' A D V sl ∧ Onl A.sh.S w w' := by
  obtain ⟨hL, hL2⟩ := h.isL
  have hfit := h.fit
  have hcells := h.dev.ok.cells
  have hrng : ∀ i, i < 2 → atF A.L a i + 256 ≤ D.C.length := fun i hi => by unfold atF; omega
  have hR : ∀ i, i < 2 → readE D (atF A.L a i : Int) 256 = 0 ∧ readS D (atF A.L a i : Int) 256 = (D.C.drop (atF A.L a i)).take 256 := fun i hi => by
    have hx := hrng i hi
    have e : readE D (atF A.L a i : Int) 256 = 0 := by
      unfold readE bey
      rw [hdn, if_neg (by decide), if_neg (by simp; omega)]
    exact ⟨e, by unfold readS; rw [if_pos e]; rfl⟩
  obtain ⟨SA, hSA⟩ : ∃ S, str ((D.C.drop (atF A.L a 0)).take 256) = S := ⟨_, rfl⟩
  obtain ⟨SB, hSB⟩ : ∃ S, str ((D.C.drop (atF A.L a 1)).take 256) = S := ⟨_, rfl⟩
  have hza : SA.size = 256 := by rw [← hSA, str_size, List.length_take, List.length_drop]; have := hrng 0 (by omega); omega
  have hzb : SB.size = 256 := by rw [← hSB, str_size, List.length_take, List.length_drop]; have := hrng 1 (by omega); omega
  have hlk : lookF D.C A.L a = halfF (pgS SA) (pgS SB) a := by
    unfold lookF
    exact halfF_congr (fun i hi => by rw [← hSA, pgS_read _ _ _ hi]) (fun i hi => by rw [← hSB, pgS_read _ _ _ hi])
  rw [hlk]
  have HRD : Hid (∀ (u : World) (i : Nat), i < 2 → LogAt B u A D V sl → Calls Tryz.prog 56 #[.pointer (some ⟨A.sh.b, 0, none⟩), .int .i64 (atF A.L a i : Int), .int .i64 256] u fun e u' => e = .returned (.tuple #[.string (if i = 0 then SA else SB), .int .i64 0]) ∧ LogAt B u' A D V sl ∧ Onl A.sh.S u u') := Lib.hid fun u i hi hu => by
    have := dvx_read A.sh D (atF A.L a i) 256 u hu.dev (by have := hrng i hi; unfold atF at this ⊢; omega)
    rw [(hR i hi).1, (hR i hi).2] at this
    refine this.mono ?_
    rintro e u' ⟨rfl, h1, h2⟩
    refine ⟨?_, hu.go h2 h1 rfl, h2⟩
    match i, hi with
    | 0, _ => rw [hSA]; rfl
    | 1, _ => rw [hSB]; rfl
  have HAT : Hid (∀ (u : World) (i : Nat), i < 2 → LogAt B u A D V sl → Calls Tryz.prog 57 #[.pointer (some ⟨A.l, 0, none⟩), .int .i64 (a : Int), .int .i64 (i : Int), .int .i64 0] u fun e u' => e = .returned (.int .i64 (atF A.L a i : Int)) ∧ Below u.heap.size u u') := Lib.hid fun u i hi hu => log_at_any hu a i 0 ha hi (by omega)
  have HRUN : Hid (∀ (u : World) (gb : Nat), LogAt B u A D V sl → Row u gb 113 (strs [SA, SB]) → Calls Tryz.prog 67 #[.pointer (some ⟨A.l, 0, none⟩), .slice (some ⟨gb, 0, none⟩) 2 2] u fun e u' => (∃ p c, e = .returned (.slice p (runN (pgS SA) (pgS SB)) c) ∧ runN (pgS SA) (pgS SB) ≤ c ∧ c ≤ maxLen ∧ Lies u' u'.heap.size p (rcs (runF (pgS SA) (pgS SB)))) ∧ Below u.heap.size u u') := Lib.hid fun u gb hu hrow => by
    refine (log_run_any hu gb 0 2 SA SB hza hzb hrow.lt fun j x hj => by rw [Nat.zero_add, hrow.cell]; exact hj).mono ?_
    rintro e u' ⟨⟨v, rfl, h1⟩, h2⟩
    obtain ⟨p, c, rfl, h3, h4, h5⟩ := own_form2 h1
    exact ⟨⟨p, c, rfl, h3, h4, h5⟩, h2⟩
  have hn16 := runN_le (pgS SA) (pgS SB)
  have HSP : Hid (∀ (u : World) (p : Option Addr) (c : Nat), runN (pgS SA) (pgS SB) ≤ c → c ≤ maxLen → Lies u u.heap.size p (rcs (runF (pgS SA) (pgS SB))) → Calls Tryz.prog 68 #[.slice p (runN (pgS SA) (pgS SB)) c] u fun e u' => (∃ (q : Option Addr) (m c2 : Nat), e = .returned (.tuple #[.int .i64 (splitG (runF (pgS SA) (pgS SB))), .slice q m c2]) ∧ u'.ownsRow u.heap.size 36 4 (.slice q m c2) (splitR (runF (pgS SA) (pgS SB))).length (rcs (splitR (runF (pgS SA) (pgS SB))))) ∧ Below u.heap.size u u') := Lib.hid fun u p c h1 h2 h3 => by
    refine (log_split_any p _ c (runF (pgS SA) (pgS SB)) u (runF_length _ _) hn16 h1 h2 h3).mono ?_
    rintro e u' ⟨⟨v, rfl, h4⟩, h5⟩
    obtain ⟨q, c2, rfl, _⟩ := own_formM h4
    exact ⟨⟨q, _, c2, rfl, h4⟩, h5⟩
  have HBK : Hid (∀ u : World, Calls Tryz.prog 69 #[.string SA, .int .i64 (runN (pgS SA) (pgS SB) : Int)] u fun e u' => e = .returned (.bool (blankF (pgS SA) (runN (pgS SA) (pgS SB)))) ∧ Below u.heap.size u u') := Lib.hid fun u => log_blank_any SA _ u hn16 hza
  have HCL : Hid (cleanF (pgS SA) (pgS SB) (runN (pgS SA) (pgS SB)) = ((SA.toList == SB.toList) && blankF (pgS SA) (runN (pgS SA) (pgS SB)))) := Lib.hid (clean_is hza hzb _)
  have HOK := Lib.hid h
  have HLT : Hid (∀ u, LogAt B u A D V sl → A.l < u.heap.size ∧ u.cell? ⟨A.l, 0, none⟩ = some (.pointer (some ⟨A.sh.b, 0, none⟩))) := Lib.hid fun u hu => ⟨hu.lt, hu.c0⟩
  have HST : Hid (∀ u u', LogAt B u A D V sl → Below u.heap.size u u' → LogAt B u' A D V sl) := Lib.hid fun u u' h1 h2 => h1.step h2
  have HNS : Hid (∀ k ∈ A.sh.S, k < w.heap.size) := Lib.hid h.dev.lt
  have HFIN : Hid (halfF (pgS SA) (pgS SB) a = ⟨a, splitG (runF (pgS SA) (pgS SB)), splitR (runF (pgS SA) (pgS SB)), runN (pgS SA) (pgS SB), cleanF (pgS SA) (pgS SB) (runN (pgS SA) (pgS SB))⟩) := Lib.hid rfl
  have hanI : (a : Int) < 2 := by omega
  refine Calls.mono (R := fun e w' => (∃ v, e = .returned (.tuple #[.agg (hfL (a : Int) (splitG (runF (pgS SA) (pgS SB))) v (runN (pgS SA) (pgS SB) : Int) (cleanF (pgS SA) (pgS SB) (runN (pgS SA) (pgS SB)))).toArray, .int .i64 0]) ∧ w'.ownsRow w.heap.size 36 4 v (splitR (runF (pgS SA) (pgS SB))).length (rcs (splitR (runF (pgS SA) (pgS SB))))) ∧ LogAt B w' A D V sl ∧ Onl A.sh.S w w') ?_ ?_
  rotate_left
  · rintro e w' ⟨⟨v, rfl, h1⟩, h2, h3⟩
    refine ⟨⟨v, ?_, ?_⟩, h2, h3⟩
    · rw [HFIN.out]; dsimp only [halfL, hfL]
    · rw [HFIN.out]; dsimp only; exact h1
  rw [HCL.out]
  generalize blankF (pgS SA) (runN (pgS SA) (pgS SB)) = BK at *
  generalize runN (pgS SA) (pgS SB) = RN at *
  generalize splitG (runF (pgS SA) (pgS SB)) = SG at *
  generalize (splitR (runF (pgS SA) (pgS SB))).length = SL at *
  generalize rcs (splitR (runF (pgS SA) (pgS SB))) = SX at *
  generalize rcs (runF (pgS SA) (pgS SB)) = RX at *
  clear HCL HFIN hlk hSA hSB hza hzb hR hrng hfit hcells hL hL2 h
  have HB0 := Lib.hid built_half0
  go_enter Tryz.func44, Tryz.ntmps44
  go_wp2_with (first
    | ((with_reducible refine wpAllocK (w := w) (hfL 0 0 (.slice none 0 0) 0 false) 60 zero_half ?_ ?_); rfl; intro x1 r1 b1 s1; have X1 := Lib.hid r1; have BX1 : Hid (Below w.heap.size w x1) := Lib.hid b1; have LX1 := Lib.hid (HST.out _ _ HOK.out b1); clear r1 b1 s1)
    | ((with_reducible refine wpAllocK (w := x1) (strs [ByteArray.empty, ByteArray.empty]) 113 zero_seen ?_ ?_); rfl; intro x2 r2 b2 s2; have X2 := Lib.hid (X1.out.step b2); have Y2 := Lib.hid r2; have NXY : Hid (w.heap.size ≠ x1.heap.size) := Lib.hid (by have := X1.out.lt; omega); have GY : Hid (w.heap.size ≤ x1.heap.size) := Lib.hid BX1.out.size; have OX2 : Hid (Onl A.sh.S w x2) := Lib.hid (Onl.of_below (BX1.out.next b2)); have LX2 := Lib.hid (HST.out _ _ LX1.out b2); clear r2 b2 s2))
  clear LX1 X1 BX1
  go_loopw [12] (fun i wr => ∃ k : Nat, k ≤ 2 ∧ i = .int .i64 k ∧ Row wr w.heap.size 60 (hfL 0 0 (.slice none 0 0) 0 false) ∧ Row wr x1.heap.size 113 (strs [if 0 < k then SA else ByteArray.empty, if 1 < k then SB else ByteArray.empty]) ∧ LogAt B wr A D V sl ∧ Onl A.sh.S w wr) (fun i _ => 2 - (intOf i).toNat)
  case atStart => exact ⟨0, Nat.zero_le _, rfl, X2.out, Y2.out, LX2.out, OX2.out⟩
  case round =>
    clear X2 Y2 LX2 OX2
    obtain ⟨k, hk, rfl, hx, hy, hlx, hox⟩ := hrel
    have X3 := Lib.hid hx
    have Y3 := Lib.hid hy
    have L3 := Lib.hid hlx
    have O3 := Lib.hid hox
    clear hx hy hlx hox
    have HDR : Hid (Below wr.heap.size wr wr.drew) := Lib.hid (Below.refl _ _).drew
    have NSX : Hid (w.heap.size ∉ A.sh.S) := Lib.hid fun h => by have := HNS.out _ h; omega
    have NSY : Hid (x1.heap.size ∉ A.sh.S) := Lib.hid fun h => by have := HNS.out _ h; have := GY.out; omega
    obtain ⟨l, hl⟩ : ∃ l, A.l = l := ⟨_, rfl⟩
    obtain ⟨d, hd⟩ : ∃ d, A.sh.b = d := ⟨_, rfl⟩
    rw [hl] at HLT HRUN HAT ⊢
    rw [hd] at HLT HRD
    by_cases hlt : k < 2
    · have hk1 : (k : Int) < 2 := by omega
      have HSET : Hid ((strs [if 0 < k then SA else ByteArray.empty, if 1 < k then SB else ByteArray.empty]).set k (.string (if k = 0 then SA else SB)) = strs [if 0 < k + 1 then SA else ByteArray.empty, if 1 < k + 1 then SB else ByteArray.empty]) := Lib.hid (by
        match k, hlt with
        | 0, _ => rfl
        | 1, _ => rfl)
      have HKL : Hid (k < (strs [if 0 < k then SA else ByteArray.empty, if 1 < k then SB else ByteArray.empty]).length) := Lib.hid (by show k < 2; exact hlt)
      obtain ⟨Z, hZ⟩ : ∃ Z, atF A.L a k = Z := ⟨_, rfl⟩
      have HATK : Hid (∀ u, LogAt B u A D V sl → Calls Tryz.prog 57 #[.pointer (some ⟨l, 0, none⟩), .int .i64 (a : Int), .int .i64 (k : Int), .int .i64 0] u fun e u' => e = .returned (.int .i64 (Z : Int)) ∧ Below u.heap.size u u') := Lib.hid fun u hu => by rw [← hZ]; exact HAT.out u k hlt hu
      have HRDK : Hid (∀ u, LogAt B u A D V sl → Calls Tryz.prog 56 #[.pointer (some ⟨d, 0, none⟩), .int .i64 (Z : Int), .int .i64 256] u fun e u' => e = .returned (.tuple #[.string (if k = 0 then SA else SB), .int .i64 0]) ∧ LogAt B u' A D V sl ∧ Onl A.sh.S u u') := Lib.hid fun u hu => by rw [← hZ]; exact HRD.out u k hlt hu
      generalize strs [if 0 < k then SA else ByteArray.empty, if 1 < k then SB else ByteArray.empty] = Y at *
      obtain ⟨Y', hY'⟩ : ∃ Y', strs [if 0 < k + 1 then SA else ByteArray.empty, if 1 < k + 1 then SB else ByteArray.empty] = Y' := ⟨_, rfl⟩
      rw [hY'] at HSET
      have HYE := Lib.hid hY'
      generalize (if k = 0 then SA else SB) = SK at *
      have hkk : (0 : Int) ≤ (k : Int) := by omega
      clear hZ hY' hl hd HRUN HSP HBK HAT HRD
      go_wp2
      refine region_invW [(0, 16), (1, 17), (2, 18), (3, 19), (4, 20), (5, 21), (6, 22), (7, 23), (8, 24), (9, 15), (10, 25), (11, 26), (12, 8), (13, 9)]
        (fun ii => [Is (.pointer (some ⟨l, 0, none⟩)), Is (.pointer (some ⟨l, 0, none⟩)), Is (.pointer (some ⟨l, 0, none⟩)), Is (.pointer (some ⟨d, 0, none⟩)), Is (.pointer (some ⟨l, 0, none⟩)), Is (.int .i64 (a : Int)), Is (.int .i64 (k : Int)), Is (.int .i64 (Z : Int)), Is (.tuple #[.string SK, .int .i64 0]), Is (.tuple #[.string SK, .int .i64 0]), Is (.string SK), Is (.int .i64 0), Is (.string SK), Is (.int .i64 0)].getD ii (Is undef))
        (fun w' => LogAt B w' A D V sl ∧ Row w' w.heap.size 60 (hfL 0 0 (.slice none 0 0) 0 false) ∧ Row w' x1.heap.size 113 Y ∧ Onl A.sh.S w w') (fun _ _ => True) (by kernel_rfl) (by kernel_rfl) (by decide) (by decide) (by kernel_rfl) rfl ?monoq (⟨L3.out.step HDR.out, X3.out.step HDR.out, Y3.out.step HDR.out, O3.out.step HDR.out⟩) ?stepq ?finq
      case monoq =>
        intro i v w1 w2 hv _
        revert hv
        match i with
        | 0 | 1 | 2 | 3 | 4 | 5 | 6 | 7 | 8 | 9 | 10 | 11 | 12 | 13 => exact id
        | _ + 14 => exact id
      case stepq =>
        refine List.forall_mem_cons.2 ⟨?qs0, List.forall_mem_cons.2 ⟨?qs1, List.forall_mem_cons.2 ⟨?qs2, List.forall_mem_cons.2 ⟨?qs3, List.forall_mem_cons.2 ⟨?qs4, List.forall_mem_cons.2 ⟨?qs5, List.forall_mem_cons.2 ⟨?qs6, List.forall_mem_cons.2 ⟨?qs7, List.forall_mem_cons.2 ⟨?qs8, List.forall_mem_cons.2 ⟨?qs9, List.forall_mem_cons.2 ⟨?qs10, List.forall_mem_cons.2 ⟨?qs11, List.forall_mem_cons.2 ⟨?qs12, List.forall_mem_cons.2 ⟨?qs13, List.forall_mem_nil _⟩⟩⟩⟩⟩⟩⟩⟩⟩⟩⟩⟩⟩⟩
        case qs0 =>
          intro u wx hg hC
          clear hC
          refine wpOp_step rfl (fun K hK => ?_)
          simp only [puts, List.foldl]
          go_simp
          exact hK _ _ ⟨rfl, rfl, hg, trivial⟩
        case qs1 =>
          intro u wx hg hC
          have hJ0 : u 0 = (.pointer (some ⟨l, 0, none⟩)) := hC.at 0 (by kernel_rfl)
          clear hC
          refine wpOp_step rfl (fun K hK => ?_)
          simp only [puts, List.foldl]
          go_simp
          exact hK _ _ ⟨rfl, rfl, hg, trivial⟩
        case qs2 =>
          intro u wx hg hC
          have hJ1 : u 1 = (.pointer (some ⟨l, 0, none⟩)) := hC.at 1 (by kernel_rfl)
          clear hC
          refine wpOp_step rfl (fun K hK => ?_)
          simp only [puts, List.foldl]
          go_simp
          exact hK _ _ ⟨rfl, rfl, hg, trivial⟩
        case qs3 =>
          intro u wx hg hC
          have hJ2 : u 2 = (.pointer (some ⟨l, 0, none⟩)) := hC.at 2 (by kernel_rfl)
          clear hC
          have hcl : wx.cell? ⟨l, 0, none⟩ = some (.pointer (some ⟨d, 0, none⟩)) := (HLT.out wx hg.1).2
          refine wpOp_step rfl (fun K hK => ?_)
          simp only [puts, List.foldl]
          go_simp
          exact hK _ _ ⟨rfl, rfl, hg, trivial⟩
        case qs4 =>
          intro u wx hg hC
          clear hC
          refine wpOp_step rfl (fun K hK => ?_)
          simp only [puts, List.foldl]
          go_simp
          exact hK _ _ ⟨rfl, rfl, hg, trivial⟩
        case qs5 =>
          intro u wx hg hC
          clear hC
          refine wpOp_step rfl (fun K hK => ?_)
          simp only [puts, List.foldl]
          go_simp
          exact hK _ _ ⟨rfl, rfl, hg, trivial⟩
        case qs6 =>
          intro u wx hg hC
          clear hC
          refine wpOp_step rfl (fun K hK => ?_)
          simp only [puts, List.foldl]
          go_simp
          exact hK _ _ ⟨rfl, rfl, hg, trivial⟩
        case qs7 =>
          intro u wx hg hC
          have hJ4 : u 4 = (.pointer (some ⟨l, 0, none⟩)) := hC.at 4 (by kernel_rfl)
          have hJ5 : u 5 = (.int .i64 (a : Int)) := hC.at 5 (by kernel_rfl)
          have hJ6 : u 6 = (.int .i64 (k : Int)) := hC.at 6 (by kernel_rfl)
          clear hC
          refine wpOp_step rfl (fun K hK => ?_)
          simp only [puts, List.foldl]
          go_simp
          refine (HATK.out wx hg.1).mono ?_
          rintro e w' ⟨rfl, hb'⟩
          exact hK _ _ ⟨rfl, rfl, ⟨hg.1.step hb', hg.2.1.step hb', hg.2.2.1.step hb', hg.2.2.2.step hb'⟩, trivial⟩
        case qs8 =>
          intro u wx hg hC
          have hJ3 : u 3 = (.pointer (some ⟨d, 0, none⟩)) := hC.at 3 (by kernel_rfl)
          have hJ7 : u 7 = (.int .i64 (Z : Int)) := hC.at 7 (by kernel_rfl)
          clear hC
          refine wpOp_step rfl (fun K hK => ?_)
          simp only [puts, List.foldl]
          go_simp
          refine (HRDK.out wx hg.1).mono ?_
          rintro e w' ⟨rfl, l5, o5⟩
          exact hK _ _ ⟨rfl, rfl, ⟨l5, hg.2.1.onl o5 NSX.out, hg.2.2.1.onl o5 NSY.out, hg.2.2.2.trans o5⟩, trivial⟩
        case qs9 =>
          intro u wx hg hC
          have hJ8 : u 8 = (.tuple #[.string SK, .int .i64 0]) := hC.at 8 (by kernel_rfl)
          clear hC
          refine wpOp_step rfl (fun K hK => ?_)
          simp only [puts, List.foldl]
          go_simp
          exact hK _ _ ⟨rfl, rfl, hg, trivial⟩
        case qs10 =>
          intro u wx hg hC
          have hJ9 : u 9 = (.tuple #[.string SK, .int .i64 0]) := hC.at 9 (by kernel_rfl)
          clear hC
          refine wpOp_step rfl (fun K hK => ?_)
          simp only [puts, List.foldl]
          go_simp
          exact hK _ _ ⟨rfl, rfl, hg, trivial⟩
        case qs11 =>
          intro u wx hg hC
          have hJ9 : u 9 = (.tuple #[.string SK, .int .i64 0]) := hC.at 9 (by kernel_rfl)
          clear hC
          refine wpOp_step rfl (fun K hK => ?_)
          simp only [puts, List.foldl]
          go_simp
          exact hK _ _ ⟨rfl, rfl, hg, trivial⟩
        case qs12 =>
          intro u wx hg hC
          have hJ10 : u 10 = (.string SK) := hC.at 10 (by kernel_rfl)
          clear hC
          refine wpOp_step rfl (fun K hK => ?_)
          simp only [puts, List.foldl]
          go_simp
          exact hK _ _ ⟨rfl, rfl, hg, trivial⟩
        case qs13 =>
          intro u wx hg hC
          have hJ11 : u 11 = (.int .i64 0) := hC.at 11 (by kernel_rfl)
          clear hC
          refine wpOp_step rfl (fun K hK => ?_)
          simp only [puts, List.foldl]
          go_simp
          exact hK _ _ ⟨rfl, rfl, hg, trivial⟩
      case finq =>
        intro u ux hg hφ
        have e8 : u 12 = .string SK := hφ (12, 8) (by decide)
        have e9 : u 13 = .int .i64 0 := hφ (13, 9) (by decide)
        clear hφ
        simp only [puts, List.foldl]
        rw [e8, e9]
        go_simp
        obtain ⟨l5, x5, y5, o5⟩ := hg
        have L5 := Lib.hid l5
        have X5 := Lib.hid x5
        have Y5 := Lib.hid y5
        have O5 := Lib.hid o5
        clear e8 e9 l5 x5 y5 o5 X3 Y3 O3 L3
        go_wp2_with ((with_reducible refine Y5.out.wpStore1K k 9 (.string SK) finfo_str HKL.out (fstr_cells _) rfl ?_ ?_); rfl; intro x6 r6 o6 s6; have Y6 : Hid (Row x6 x1.heap.size 113 Y') := Lib.hid (by rw [← HSET.out]; exact r6); have X6 := Lib.hid (X5.out.only o6 NXY.out); have OB6 : Hid (Below w.heap.size ux x6) := Lib.hid (o6.below GY.out O5.out.size); clear r6 o6 s6)
        go_roundw
        case rel => exact ⟨k + 1, by omega, by go_num, X6.out, by rw [HYE.out]; exact Y6.out, LogAt.keep HOK.out L5.out OB6.out, O5.out.belowB OB6.out⟩
        case measure => simp [intOf]; omega
    · have hk2 : ¬ (k : Int) < 2 := by omega
      have hke : k = 2 := by omega
      have Y4 : Hid (Row wr x1.heap.size 113 (strs [SA, SB])) := Lib.hid (by have := Y3.out; rw [hke] at this; exact this)
      have HRN := Lib.hid (HRUN.out wr x1.heap.size L3.out Y4.out)
      have HBX : Hid (Below w.heap.size wr wr) := Lib.hid (Below.refl _ _)
      have G_x : Hid (wr.heap.size ≤ wr.heap.size) := Lib.hid (Nat.le_refl _)
      have HLH : Hid (w.heap.size < wr.heap.size) := Lib.hid X3.out.lt
      have HC0 : Hid (∀ (u : World) (X : Nat), Row u X 113 (strs [SA, SB]) → u.cell? ⟨X, 0, none⟩ = some (.string SA) ∧ u.cell? ⟨X, 1, none⟩ = some (.string SB)) := Lib.hid fun u X hr => ⟨hr.cell 0, hr.cell 1⟩
      have hrn16 : (RN : Int) ≤ 16 := by omega
      have HBH := Lib.hid (built_half (a : Int) (RN : Int))
      clear hl hd HRD HAT Y3 hke hlt HLT HDR
      generalize strs [SA, SB] = YS at *
      have HBW := Lib.hid (Below.refl wr.heap.size wr)
      have HBZ : Hid (w.heap.size ≤ wr.heap.size) := Lib.hid O3.out.size
      cases heq : (SA.toList == SB.toList) with
      | true =>
        go_wp2_with (first
          | (go_at_call 67; (with_reducible refine (HRN.out).mono ?_); rintro e z1 ⟨⟨p, c, rfl, hc1, hc2, hp⟩, b_⟩; have HC1 := Lib.hid hc1; have HC2 := Lib.hid hc2; have P_1 := Lib.hid hp; have Tx_1 := Lib.hid (X3.out.step b_); have Ty_1 := Lib.hid (Y4.out.step b_); have B_1 : Hid (Below wr.heap.size wr z1) := Lib.hid (HBW.out.next b_); clear b_ X3 Y4 HBW hc1 hc2 hp)
          | ((with_reducible refine wpBuildK (hfL (a : Int) 0 (.slice none 0 0) (RN : Int) false) 60 [(0, .int .i64 (a : Int)), (3, .int .i64 (RN : Int))] HBH.out ?_ ?_); rfl)
          | ((with_reducible refine wpAllocK (w := z1) (hfL 0 0 (.slice none 0 0) 0 false) 60 zero_half ?_ ?_); rfl; intro z2 r_ b_ s_; have BB2 := Lib.hid b_; have N_x_h : Hid (w.heap.size ≠ z1.heap.size) := Lib.hid (by have := Tx_1.out.lt; omega); have N_y_h : Hid (x1.heap.size ≠ z1.heap.size) := Lib.hid (by have := Ty_1.out.lt; omega); have G_h : Hid (wr.heap.size ≤ z1.heap.size) := Lib.hid (B_1.out.size); have Tx_2 := Lib.hid (Tx_1.out.step b_); have Ty_2 := Lib.hid (Ty_1.out.step b_); have B_2 : Hid (Below wr.heap.size wr z2) := Lib.hid (B_1.out.next b_); have Th_2 := Lib.hid r_; have P_2 := Lib.hid (P_1.out.below BB2.out); clear r_ b_ s_ Tx_1 Ty_1 B_1)
          | ((with_reducible refine Th_2.out.wpStoreK 60 (hfL (a : Int) 0 (.slice none 0 0) (RN : Int) false) fits_half (rfl) (rfl) (rfl) ?_ ?_); rfl; intro z3 r_ o_ s_; have OO3 := Lib.hid o_; have Tx_3 := Lib.hid (Tx_2.out.only o_ N_x_h.out); have Ty_3 := Lib.hid (Ty_2.out.only o_ N_y_h.out); have Th_3 := Lib.hid r_; have B_3 : Hid (Below wr.heap.size wr z3) := Lib.hid (B_2.out.trans (o_.below G_h.out B_2.out.size)); have P_3 := Lib.hid ((P_2.out.only OO3.out BB2.out.size (Nat.le_refl _)).mono (Nat.le_trans BB2.out.size OO3.out.size)); clear r_ o_ s_ Th_2 B_2 Tx_2 Ty_2)
          | (go_at_call 68; (with_reducible refine (HSP.out z3 p c HC1.out HC2.out P_3.out).mono ?_); rintro e z4 ⟨⟨q, m, c2, rfl, ho⟩, b_⟩; have OW_4 := Lib.hid ho; have GW : Hid (∀ k, (Value.slice q m c2).ownBlock = some k → z3.heap.size ≤ k) := Lib.hid (owns_ge ho); have HLH3 : Hid (z1.heap.size < z3.heap.size) := Lib.hid (Th_3.out.lt); have Tx_4 := Lib.hid (Tx_3.out.step b_); have Ty_4 := Lib.hid (Ty_3.out.step b_); have Th_4 := Lib.hid (Th_3.out.step b_); have B_4 : Hid (Below wr.heap.size wr z4) := Lib.hid (B_3.out.next b_); clear b_ Tx_3 Ty_3 Th_3 B_3 ho)
          | ((with_reducible refine Th_4.out.wpStore1K 1 3 (.int .i64 SG) (finfo_int) (hfL_lt 1 (by decide)) (int_cells _ _) (int_one _ _) ?_ ?_); rfl; intro z5 r_ o_ s_; have OO5 := Lib.hid o_; have Tx_5 := Lib.hid (Tx_4.out.only o_ N_x_h.out); have Ty_5 := Lib.hid (Ty_4.out.only o_ N_y_h.out); have Th_5 : Hid (Row z5 (z1.heap.size) 60 (hfL (a : Int) SG (.slice none 0 0) (RN : Int) false)) := Lib.hid r_; have B_5 : Hid (Below wr.heap.size wr z5) := Lib.hid (B_4.out.trans (o_.below G_h.out B_4.out.size)); have OW_5 := Lib.hid (owns_only OW_4.out OO5.out (fun k hk => by have := GW.out k hk; have := HLH3.out; omega)); clear r_ o_ s_ Th_4 B_4 Tx_4 Ty_4)
          | ((with_reducible refine Th_5.out.wpStore1K 2 22 (.slice q m c2) (finfo_recs) (hfL_lt 2 (by decide)) (slice_cells _ _ _) (slice_one _ _ _) ?_ ?_); rfl; intro z6 r_ o_ s_; have OO6 := Lib.hid o_; have Tx_6 := Lib.hid (Tx_5.out.only o_ N_x_h.out); have Ty_6 := Lib.hid (Ty_5.out.only o_ N_y_h.out); have Th_6 : Hid (Row z6 (z1.heap.size) 60 (hfL (a : Int) SG (.slice q m c2) (RN : Int) false)) := Lib.hid r_; have B_6 : Hid (Below wr.heap.size wr z6) := Lib.hid (B_5.out.trans (o_.below G_h.out B_5.out.size)); have OW_6 := Lib.hid (owns_only OW_5.out OO6.out (fun k hk => by have := GW.out k hk; have := HLH3.out; omega)); have yc := HC0.out z6 _ Ty_6.out; have hy0 := yc.1; have hy1 := yc.2; have hh3 : z6.cell? ⟨z1.heap.size, 3, none⟩ = some (.int .i64 (RN : Int)) := Th_6.out.cell 3; clear r_ o_ s_ Th_5 B_5 Tx_5 Ty_5)
          | (go_at_call 69; (with_reducible refine (HBK.out z6).mono ?_); rintro e z7 ⟨rfl, b_⟩; have OW_7 := Lib.hid (owns_step OW_6.out b_); have Tx_7 := Lib.hid (Tx_6.out.step b_); have Ty_7 := Lib.hid (Ty_6.out.step b_); have Th_7 := Lib.hid (Th_6.out.step b_); have B_7 : Hid (Below wr.heap.size wr z7) := Lib.hid (B_6.out.next b_); clear b_ Tx_6 Ty_6 Th_6 B_6)
          | ((with_reducible refine Th_7.out.wpStore1K 4 4 (.bool BK) (finfo_bool) (hfL_lt 4 (by decide)) (bool_cells _) (bool_one _) ?_ ?_); rfl; intro z8 r_ o_ s_; have OO8 := Lib.hid o_; have Tx_8 := Lib.hid (Tx_7.out.only o_ N_x_h.out); have Ty_8 := Lib.hid (Ty_7.out.only o_ N_y_h.out); have Th_8 : Hid (Row z8 (z1.heap.size) 60 (hfL (a : Int) SG (.slice q m c2) (RN : Int) BK)) := Lib.hid r_; have B_8 : Hid (Below wr.heap.size wr z8) := Lib.hid (B_7.out.trans (o_.below G_h.out B_7.out.size)); have OW_8 := Lib.hid (owns_only OW_7.out OO8.out (fun k hk => by have := GW.out k hk; have := HLH3.out; omega)); clear r_ o_ s_ Th_7 B_7 Tx_7 Ty_7)
          | ((with_reducible refine Th_8.out.wpLoadK 60 fits_half (rfl) ?_ ?_); rfl)
          | ((with_reducible refine Tx_8.out.wpStoreK 60 (hfL (a : Int) SG (.slice q m c2) (RN : Int) BK) fits_half rfl rfl rfl ?_ ?_); rfl; intro zf r_ o_ s_; have RF := Lib.hid r_; have OF := Lib.hid o_; clear r_ o_ s_))
        have BF : Hid (Below w.heap.size z8 zf) := Lib.hid (OF.out.below (Nat.le_refl _) (Nat.le_trans O3.out.size B_8.out.size))
        have OWF := Lib.hid (owns_only OW_8.out OF.out (fun k hk => by have := GW.out k hk; have := HLH3.out; have := HLH.out; have := HBZ.out; have := G_h.out; omega))
        refine bodyPost_ret (RF.out.resultT rfl _ _ rfl Tryz.underlying60 rfl fits_half.size) rfl ⟨⟨.slice q m c2, by first | rfl | (rw [heq]; rfl), own_mono OWF.out (Nat.le_of_lt (by have := HLH3.out; have := HLH.out; have := HBZ.out; have := G_h.out; omega))⟩, LogAt.keep HOK.out (L3.out.step B_8.out) BF.out, Onl.belowB (O3.out.step B_8.out) BF.out⟩
      | false =>
        go_wp2_with (first
          | (go_at_call 67; (with_reducible refine (HRN.out).mono ?_); rintro e z1 ⟨⟨p, c, rfl, hc1, hc2, hp⟩, b_⟩; have HC1 := Lib.hid hc1; have HC2 := Lib.hid hc2; have P_1 := Lib.hid hp; have Tx_1 := Lib.hid (X3.out.step b_); have Ty_1 := Lib.hid (Y4.out.step b_); have B_1 : Hid (Below wr.heap.size wr z1) := Lib.hid (HBW.out.next b_); clear b_ X3 Y4 HBW hc1 hc2 hp)
          | ((with_reducible refine wpBuildK (hfL (a : Int) 0 (.slice none 0 0) (RN : Int) false) 60 [(0, .int .i64 (a : Int)), (3, .int .i64 (RN : Int))] HBH.out ?_ ?_); rfl)
          | ((with_reducible refine wpAllocK (w := z1) (hfL 0 0 (.slice none 0 0) 0 false) 60 zero_half ?_ ?_); rfl; intro z2 r_ b_ s_; have BB2 := Lib.hid b_; have N_x_h : Hid (w.heap.size ≠ z1.heap.size) := Lib.hid (by have := Tx_1.out.lt; omega); have N_y_h : Hid (x1.heap.size ≠ z1.heap.size) := Lib.hid (by have := Ty_1.out.lt; omega); have G_h : Hid (wr.heap.size ≤ z1.heap.size) := Lib.hid (B_1.out.size); have Tx_2 := Lib.hid (Tx_1.out.step b_); have Ty_2 := Lib.hid (Ty_1.out.step b_); have B_2 : Hid (Below wr.heap.size wr z2) := Lib.hid (B_1.out.next b_); have Th_2 := Lib.hid r_; have P_2 := Lib.hid (P_1.out.below BB2.out); clear r_ b_ s_ Tx_1 Ty_1 B_1)
          | ((with_reducible refine Th_2.out.wpStoreK 60 (hfL (a : Int) 0 (.slice none 0 0) (RN : Int) false) fits_half (rfl) (rfl) (rfl) ?_ ?_); rfl; intro z3 r_ o_ s_; have OO3 := Lib.hid o_; have Tx_3 := Lib.hid (Tx_2.out.only o_ N_x_h.out); have Ty_3 := Lib.hid (Ty_2.out.only o_ N_y_h.out); have Th_3 := Lib.hid r_; have B_3 : Hid (Below wr.heap.size wr z3) := Lib.hid (B_2.out.trans (o_.below G_h.out B_2.out.size)); have P_3 := Lib.hid ((P_2.out.only OO3.out BB2.out.size (Nat.le_refl _)).mono (Nat.le_trans BB2.out.size OO3.out.size)); clear r_ o_ s_ Th_2 B_2 Tx_2 Ty_2)
          | (go_at_call 68; (with_reducible refine (HSP.out z3 p c HC1.out HC2.out P_3.out).mono ?_); rintro e z4 ⟨⟨q, m, c2, rfl, ho⟩, b_⟩; have OW_4 := Lib.hid ho; have GW : Hid (∀ k, (Value.slice q m c2).ownBlock = some k → z3.heap.size ≤ k) := Lib.hid (owns_ge ho); have HLH3 : Hid (z1.heap.size < z3.heap.size) := Lib.hid (Th_3.out.lt); have Tx_4 := Lib.hid (Tx_3.out.step b_); have Ty_4 := Lib.hid (Ty_3.out.step b_); have Th_4 := Lib.hid (Th_3.out.step b_); have B_4 : Hid (Below wr.heap.size wr z4) := Lib.hid (B_3.out.next b_); clear b_ Tx_3 Ty_3 Th_3 B_3 ho)
          | ((with_reducible refine Th_4.out.wpStore1K 1 3 (.int .i64 SG) (finfo_int) (hfL_lt 1 (by decide)) (int_cells _ _) (int_one _ _) ?_ ?_); rfl; intro z5 r_ o_ s_; have OO5 := Lib.hid o_; have Tx_5 := Lib.hid (Tx_4.out.only o_ N_x_h.out); have Ty_5 := Lib.hid (Ty_4.out.only o_ N_y_h.out); have Th_5 : Hid (Row z5 (z1.heap.size) 60 (hfL (a : Int) SG (.slice none 0 0) (RN : Int) false)) := Lib.hid r_; have B_5 : Hid (Below wr.heap.size wr z5) := Lib.hid (B_4.out.trans (o_.below G_h.out B_4.out.size)); have OW_5 := Lib.hid (owns_only OW_4.out OO5.out (fun k hk => by have := GW.out k hk; have := HLH3.out; omega)); clear r_ o_ s_ Th_4 B_4 Tx_4 Ty_4)
          | ((with_reducible refine Th_5.out.wpStore1K 2 22 (.slice q m c2) (finfo_recs) (hfL_lt 2 (by decide)) (slice_cells _ _ _) (slice_one _ _ _) ?_ ?_); rfl; intro z6 r_ o_ s_; have OO6 := Lib.hid o_; have Tx_6 := Lib.hid (Tx_5.out.only o_ N_x_h.out); have Ty_6 := Lib.hid (Ty_5.out.only o_ N_y_h.out); have Th_6 : Hid (Row z6 (z1.heap.size) 60 (hfL (a : Int) SG (.slice q m c2) (RN : Int) false)) := Lib.hid r_; have B_6 : Hid (Below wr.heap.size wr z6) := Lib.hid (B_5.out.trans (o_.below G_h.out B_5.out.size)); have OW_6 := Lib.hid (owns_only OW_5.out OO6.out (fun k hk => by have := GW.out k hk; have := HLH3.out; omega)); have yc := HC0.out z6 _ Ty_6.out; have hy0 := yc.1; have hy1 := yc.2; have hh3 : z6.cell? ⟨z1.heap.size, 3, none⟩ = some (.int .i64 (RN : Int)) := Th_6.out.cell 3; clear r_ o_ s_ Th_5 B_5 Tx_5 Ty_5)
          | ((with_reducible refine Th_6.out.wpStore1K 4 4 (.bool false) (finfo_bool) (hfL_lt 4 (by decide)) (bool_cells _) (bool_one _) ?_ ?_); rfl; intro z7 r_ o_ s_; have OO7 := Lib.hid o_; have Tx_7 := Lib.hid (Tx_6.out.only o_ N_x_h.out); have Ty_7 := Lib.hid (Ty_6.out.only o_ N_y_h.out); have Th_7 : Hid (Row z7 (z1.heap.size) 60 (hfL (a : Int) SG (.slice q m c2) (RN : Int) false)) := Lib.hid r_; have B_7 : Hid (Below wr.heap.size wr z7) := Lib.hid (B_6.out.trans (o_.below G_h.out B_6.out.size)); have OW_7 := Lib.hid (owns_only OW_6.out OO7.out (fun k hk => by have := GW.out k hk; have := HLH3.out; omega)); clear r_ o_ s_ Th_6 B_6 Tx_6 Ty_6)
          | ((with_reducible refine Th_7.out.wpLoadK 60 fits_half (rfl) ?_ ?_); rfl)
          | ((with_reducible refine Tx_7.out.wpStoreK 60 (hfL (a : Int) SG (.slice q m c2) (RN : Int) false) fits_half rfl rfl rfl ?_ ?_); rfl; intro zf r_ o_ s_; have RF := Lib.hid r_; have OF := Lib.hid o_; clear r_ o_ s_))
        have BF : Hid (Below w.heap.size z7 zf) := Lib.hid (OF.out.below (Nat.le_refl _) (Nat.le_trans O3.out.size B_7.out.size))
        have OWF := Lib.hid (owns_only OW_7.out OF.out (fun k hk => by have := GW.out k hk; have := HLH3.out; have := HLH.out; have := HBZ.out; have := G_h.out; omega))
        refine bodyPost_ret (RF.out.resultT rfl _ _ rfl Tryz.underlying60 rfl fits_half.size) rfl ⟨⟨.slice q m c2, by first | rfl | (rw [heq]; rfl), own_mono OWF.out (Nat.le_of_lt (by have := HLH3.out; have := HLH.out; have := HBZ.out; have := G_h.out; omega))⟩, LogAt.keep HOK.out (L3.out.step B_7.out) BF.out, Onl.belowB (O3.out.step B_7.out) BF.out⟩
end Go.Proofs.YtbnjenbhpaknbaaGreat

/- A log of a device whose halves weren't looked at: over (gen_log_h.py). -/
namespace Go.Proofs.YtbnjenbhpaknbaaGreat
open Go.RowKit CrcMath NumMath FlaMath GeoMath
set_option linter.unusedVariables false
set_option maxRecDepth 100000

def LTab : Value → World → Prop := fun v w => ∃ tb, v = .pointer (some ⟨tb, 0, none⟩) ∧ TabAt w tb
theorem LTab.monot : Monot LTab := fun _ _ _ ⟨tb, h1, h2⟩ hb => ⟨tb, h1, h2.step hb⟩
def logN (dp : Option Addr) (g : Gm) (tb : Nat) : List Value := [.pointer dp, .int .i64 0, .int .i64 0, .slice none 0 0, .int .i64 0, .bool false, .int .i64 g.d, .int .i64 g.p, .int .i64 g.s, .pointer (some ⟨tb, 0, none⟩)]
theorem built_log (dp : Option Addr) (d p s : Int) (tb : Nat) : Tryz.prog.built 63 [(0, .pointer dp), (2, .agg #[.int .i64 d, .int .i64 p, .int .i64 s]), (3, .pointer (some ⟨tb, 0, none⟩))] = some (logN dp ⟨d, p, s⟩ tb).toArray := by kernel_rfl
set_option maxHeartbeats 1000000 in
theorem log_over_bad (dp : Option Addr) (g : Gm) (n : Int) (w : World) (hs : ∀ u, Below w.heap.size w u → Calls Tryz.prog 40 #[.pointer dp] u fun e u' => e = .returned (.int .i64 n) ∧ u = u') (hb : right g = false ∨ n < all g) :
    Calls Tryz.prog 23 #[.pointer dp, geoV g] w fun e w' => e = .returned (.tuple #[.pointer none, .int .i64 1]) ∧ Below w.heap.size w w' := by
  have HRT : Hid (∀ u, Calls Tryz.prog 46 #[geoV g] u fun e w' => e = .returned (.bool (right g)) ∧ Below u.heap.size u w') := Lib.hid fun u => right_any g u
  have HAL : Hid (∀ u, Calls Tryz.prog 22 #[geoV g] u fun e w' => e = .returned (.int .i64 (all g)) ∧ Below u.heap.size u w') := Lib.hid fun u => all_any g u
  have HSC := Lib.hid hs
  clear hs
  cases hr : right g with
  | false =>
    rw [hr] at HRT
    clear hr hb HAL
    generalize all g = m at *
    obtain ⟨d, p, s⟩ := g
    dsimp only [geoV] at HRT ⊢
    go_enter Tryz.func23, Tryz.ntmps23
    go_wp2_with ((with_reducible refine wpBoxK (w := w) [Value.int .i64 d, .int .i64 p, .int .i64 s] 33 ?_ ?_); rfl; intro u1 r1 b1 s1; have R1 := Lib.hid r1; have B1 := Lib.hid b1; clear r1 b1 s1)
    refine region_invX [(0, 6), (1, 7), (2, 8), (3, 9), (4, 10), (5, 11), (6, 12), (7, 13), (8, 14), (9, 15)]
      (fun ii => [Is (.agg ([Value.int .i64 d, .int .i64 p, .int .i64 s]).toArray), Is (.bool false), Is (.bool true), Is (.bool true), Is undef, Is undef, Is undef, Is undef, Is undef, Is (.bool true)].getD ii (Is undef))
      (fun w' => Below u1.heap.size u1 w') (by kernel_rfl) (by kernel_rfl) (by decide) (by decide) (by kernel_rfl) rfl ?monoP ((Below.refl _ _).drew) ?stepP ?finP
    case monoP =>
      intro i
      match i with
      | 0 | 1 | 2 | 3 | 4 | 5 | 6 | 7 | 8 | 9 => exact Is.monot _
      | _ + 10 => exact Is.monot _
    case stepP =>
      refine List.forall_mem_cons.2 ⟨?Ps0, List.forall_mem_cons.2 ⟨?Ps1, List.forall_mem_cons.2 ⟨?Ps2, List.forall_mem_cons.2 ⟨?Ps3, List.forall_mem_cons.2 ⟨?Ps4, List.forall_mem_cons.2 ⟨?Ps5, List.forall_mem_cons.2 ⟨?Ps6, List.forall_mem_cons.2 ⟨?Ps7, List.forall_mem_cons.2 ⟨?Ps8, List.forall_mem_cons.2 ⟨?Ps9, List.forall_mem_nil _⟩⟩⟩⟩⟩⟩⟩⟩⟩⟩
      case Ps0 =>
        intro u wx hg hC
        clear hC
        generalize hA : puts [(0, 6), (1, 7), (2, 8), (3, 9), (4, 10), (5, 11), (6, 12), (7, 13), (8, 14), (9, 15)] _ u = A
        have hp : A.tmps.getD 3 undef = (.pointer (some ⟨w.heap.size, 0, none⟩)) := by rw [← hA]; exact (puts_get_out u _ _ 3 (by decide)).trans (by rfl)
        have hsz : 6 < A.tmps.size := by rw [← hA]; exact puts_room u (by kernel_rfl)
        refine wpOp_step rfl (fun K hK => ?_)
        clear hA
        exact opLoadK (φ := Is (.agg ([Value.int .i64 d, .int .i64 p, .int .i64 s]).toArray)) ((R1.out.step hg)) _ (fits_geo) (rfl) 6 rfl hsz hK (.tmp 3) rfl hp rfl hg
      case Ps1 =>
        intro u wx hg hC
        have hJ0 : u 0 = (.agg ([Value.int .i64 d, .int .i64 p, .int .i64 s]).toArray) := hC.at 0 (by kernel_rfl)
        clear hC
        refine wpOp_step rfl (fun K hK => ?_)
        simp only [puts, List.foldl]
        go_simp
        refine (HRT.out wx).mono ?_
        rintro e w' ⟨rfl, hb'⟩
        exact hK _ _ ⟨rfl, rfl, hg.next hb', hb'⟩
      case Ps2 =>
        intro u wx hg hC
        have hJ1 : u 1 = (.bool false) := hC.at 1 (by kernel_rfl)
        clear hC
        refine wpOp_step rfl (fun K hK => ?_)
        simp only [puts, List.foldl]
        go_simp
        exact hK _ _ ⟨rfl, rfl, hg, Below.refl _ _⟩
      case Ps3 =>
        intro u wx hg hC
        have hJ2 : u 2 = (.bool true) := hC.at 2 (by kernel_rfl)
        clear hC
        refine wpOp_step rfl (fun K hK => ?_)
        simp only [puts, List.foldl]
        go_simp
        exact hK _ _ ⟨rfl, rfl, hg, Below.refl _ _⟩
      case Ps4 =>
        intro u wx hg hC
        have hJ3 : u 3 = (.bool true) := hC.at 3 (by kernel_rfl)
        clear hC
        generalize hA : puts [(0, 6), (1, 7), (2, 8), (3, 9), (4, 10), (5, 11), (6, 12), (7, 13), (8, 14), (9, 15)] _ u = A
        have hgv : A.tmps.getD 9 undef = .bool true := by rw [← hA]; exact (puts_get u 3 9 _ _ (by decide) (by decide) (by kernel_rfl)).trans hJ3
        have hgs : 9 < A.tmps.size := by rw [← hA]; exact puts_room u (by kernel_rfl)
        refine wpOp_skip rfl 3 9 false rfl rfl hgs hgv ?_
        subst hA
        simp only [puts, List.foldl]
        go_simp
        first | exact ⟨rfl, hg, Below.refl _ _⟩ | exact ⟨rfl, hg⟩ | exact ⟨rfl, Below.refl _ _⟩ | exact ⟨rfl, rfl, hg, Below.refl _ _⟩ | exact ⟨hg, Below.refl _ _⟩
      case Ps5 =>
        intro u wx hg hC
        have hJ3 : u 3 = (.bool true) := hC.at 3 (by kernel_rfl)
        clear hC
        generalize hA : puts [(0, 6), (1, 7), (2, 8), (3, 9), (4, 10), (5, 11), (6, 12), (7, 13), (8, 14), (9, 15)] _ u = A
        have hgv : A.tmps.getD 9 undef = .bool true := by rw [← hA]; exact (puts_get u 3 9 _ _ (by decide) (by decide) (by kernel_rfl)).trans hJ3
        have hgs : 9 < A.tmps.size := by rw [← hA]; exact puts_room u (by kernel_rfl)
        refine wpOp_skip rfl 3 9 false rfl rfl hgs hgv ?_
        subst hA
        simp only [puts, List.foldl]
        go_simp
        first | exact ⟨rfl, hg, Below.refl _ _⟩ | exact ⟨rfl, hg⟩ | exact ⟨rfl, Below.refl _ _⟩ | exact ⟨rfl, rfl, hg, Below.refl _ _⟩ | exact ⟨hg, Below.refl _ _⟩
      case Ps6 =>
        intro u wx hg hC
        have hJ3 : u 3 = (.bool true) := hC.at 3 (by kernel_rfl)
        clear hC
        generalize hA : puts [(0, 6), (1, 7), (2, 8), (3, 9), (4, 10), (5, 11), (6, 12), (7, 13), (8, 14), (9, 15)] _ u = A
        have hgv : A.tmps.getD 9 undef = .bool true := by rw [← hA]; exact (puts_get u 3 9 _ _ (by decide) (by decide) (by kernel_rfl)).trans hJ3
        have hgs : 9 < A.tmps.size := by rw [← hA]; exact puts_room u (by kernel_rfl)
        refine wpOp_skip rfl 3 9 false rfl rfl hgs hgv ?_
        subst hA
        simp only [puts, List.foldl]
        go_simp
        first | exact ⟨rfl, hg, Below.refl _ _⟩ | exact ⟨rfl, hg⟩ | exact ⟨rfl, Below.refl _ _⟩ | exact ⟨rfl, rfl, hg, Below.refl _ _⟩ | exact ⟨hg, Below.refl _ _⟩
      case Ps7 =>
        intro u wx hg hC
        have hJ3 : u 3 = (.bool true) := hC.at 3 (by kernel_rfl)
        clear hC
        generalize hA : puts [(0, 6), (1, 7), (2, 8), (3, 9), (4, 10), (5, 11), (6, 12), (7, 13), (8, 14), (9, 15)] _ u = A
        have hgv : A.tmps.getD 9 undef = .bool true := by rw [← hA]; exact (puts_get u 3 9 _ _ (by decide) (by decide) (by kernel_rfl)).trans hJ3
        have hgs : 9 < A.tmps.size := by rw [← hA]; exact puts_room u (by kernel_rfl)
        refine wpOp_skip rfl 3 9 false rfl rfl hgs hgv ?_
        subst hA
        simp only [puts, List.foldl]
        go_simp
        first | exact ⟨rfl, hg, Below.refl _ _⟩ | exact ⟨rfl, hg⟩ | exact ⟨rfl, Below.refl _ _⟩ | exact ⟨rfl, rfl, hg, Below.refl _ _⟩ | exact ⟨hg, Below.refl _ _⟩
      case Ps8 =>
        intro u wx hg hC
        have hJ3 : u 3 = (.bool true) := hC.at 3 (by kernel_rfl)
        clear hC
        generalize hA : puts [(0, 6), (1, 7), (2, 8), (3, 9), (4, 10), (5, 11), (6, 12), (7, 13), (8, 14), (9, 15)] _ u = A
        have hgv : A.tmps.getD 9 undef = .bool true := by rw [← hA]; exact (puts_get u 3 9 _ _ (by decide) (by decide) (by kernel_rfl)).trans hJ3
        have hgs : 9 < A.tmps.size := by rw [← hA]; exact puts_room u (by kernel_rfl)
        refine wpOp_skip rfl 3 9 false rfl rfl hgs hgv ?_
        subst hA
        simp only [puts, List.foldl]
        go_simp
        first | exact ⟨rfl, hg, Below.refl _ _⟩ | exact ⟨rfl, hg⟩ | exact ⟨rfl, Below.refl _ _⟩ | exact ⟨rfl, rfl, hg, Below.refl _ _⟩ | exact ⟨hg, Below.refl _ _⟩
      case Ps9 =>
        intro u wx hg hC
        have hJ3 : u 3 = (.bool true) := hC.at 3 (by kernel_rfl)
        have hJ8 : u 8 = undef := hC.at 8 (by kernel_rfl)
        clear hC
        refine wpOp_step rfl (fun K hK => ?_)
        simp only [puts, List.foldl]
        go_simp
        exact hK _ _ ⟨rfl, rfl, hg, Below.refl _ _⟩
    case finP =>
      intro u ux hux hφ
      have e9 : u 9 = .bool true := hφ (9, 15) (by decide)
      clear hφ
      simp only [puts, List.foldl]
      rw [e9]
      go_simp
      go_wp2
      go_ret2
      exact ⟨rfl, B1.out.next hux⟩
  | true =>
    have hlt : n < all g := by
      rcases hb with h | h
      · rw [hr] at h; cases h
      · exact h
    rw [hr] at HRT
    clear hr hb
    generalize all g = m at *
    obtain ⟨LT, hLT⟩ : ∃ b, b = true := ⟨_, rfl⟩
    have hLT2 : decide (n < m) = LT := by rw [hLT]; exact decide_eq_true hlt
    have hlt2 : (n < m) = True := eq_true hlt
    obtain ⟨d, p, s⟩ := g
    dsimp only [geoV] at HRT HAL ⊢
    subst hLT
    clear hlt
    go_enter Tryz.func23, Tryz.ntmps23
    go_wp2_with ((with_reducible refine wpBoxK (w := w) [Value.int .i64 d, .int .i64 p, .int .i64 s] 33 ?_ ?_); rfl; intro u1 r1 b1 s1; have R1 := Lib.hid r1; have B1 := Lib.hid b1; clear r1 b1 s1)
    refine region_invX [(0, 6), (1, 7), (2, 8), (3, 9), (4, 10), (5, 11), (6, 12), (7, 13), (8, 14), (9, 15)]
      (fun ii => [Is (.agg ([Value.int .i64 d, .int .i64 p, .int .i64 s]).toArray), Is (.bool true), Is (.bool false), Is (.bool false), Is (.pointer dp), Is (.int .i64 n), Is (.agg ([Value.int .i64 d, .int .i64 p, .int .i64 s]).toArray), Is (.int .i64 m), Is (.bool true), Is (.bool true)].getD ii (Is undef))
      (fun w' => Below u1.heap.size u1 w') (by kernel_rfl) (by kernel_rfl) (by decide) (by decide) (by kernel_rfl) rfl ?monoP ((Below.refl _ _).drew) ?stepP ?finP
    case monoP =>
      intro i
      match i with
      | 0 | 1 | 2 | 3 | 4 | 5 | 6 | 7 | 8 | 9 => exact Is.monot _
      | _ + 10 => exact Is.monot _
    case stepP =>
      refine List.forall_mem_cons.2 ⟨?Ps0, List.forall_mem_cons.2 ⟨?Ps1, List.forall_mem_cons.2 ⟨?Ps2, List.forall_mem_cons.2 ⟨?Ps3, List.forall_mem_cons.2 ⟨?Ps4, List.forall_mem_cons.2 ⟨?Ps5, List.forall_mem_cons.2 ⟨?Ps6, List.forall_mem_cons.2 ⟨?Ps7, List.forall_mem_cons.2 ⟨?Ps8, List.forall_mem_cons.2 ⟨?Ps9, List.forall_mem_nil _⟩⟩⟩⟩⟩⟩⟩⟩⟩⟩
      case Ps0 =>
        intro u wx hg hC
        clear hC
        generalize hA : puts [(0, 6), (1, 7), (2, 8), (3, 9), (4, 10), (5, 11), (6, 12), (7, 13), (8, 14), (9, 15)] _ u = A
        have hp : A.tmps.getD 3 undef = (.pointer (some ⟨w.heap.size, 0, none⟩)) := by rw [← hA]; exact (puts_get_out u _ _ 3 (by decide)).trans (by rfl)
        have hsz : 6 < A.tmps.size := by rw [← hA]; exact puts_room u (by kernel_rfl)
        refine wpOp_step rfl (fun K hK => ?_)
        clear hA
        exact opLoadK (φ := Is (.agg ([Value.int .i64 d, .int .i64 p, .int .i64 s]).toArray)) ((R1.out.step hg)) _ (fits_geo) (rfl) 6 rfl hsz hK (.tmp 3) rfl hp rfl hg
      case Ps1 =>
        intro u wx hg hC
        have hJ0 : u 0 = (.agg ([Value.int .i64 d, .int .i64 p, .int .i64 s]).toArray) := hC.at 0 (by kernel_rfl)
        clear hC
        refine wpOp_step rfl (fun K hK => ?_)
        simp only [puts, List.foldl]
        go_simp
        refine (HRT.out wx).mono ?_
        rintro e w' ⟨rfl, hb'⟩
        exact hK _ _ ⟨rfl, rfl, hg.next hb', hb'⟩
      case Ps2 =>
        intro u wx hg hC
        have hJ1 : u 1 = (.bool true) := hC.at 1 (by kernel_rfl)
        clear hC
        refine wpOp_step rfl (fun K hK => ?_)
        simp only [puts, List.foldl]
        go_simp
        exact hK _ _ ⟨rfl, rfl, hg, Below.refl _ _⟩
      case Ps3 =>
        intro u wx hg hC
        have hJ2 : u 2 = (.bool false) := hC.at 2 (by kernel_rfl)
        clear hC
        refine wpOp_step rfl (fun K hK => ?_)
        simp only [puts, List.foldl]
        go_simp
        exact hK _ _ ⟨rfl, rfl, hg, Below.refl _ _⟩
      case Ps4 =>
        intro u wx hg hC
        have hJ3 : u 3 = (.bool false) := hC.at 3 (by kernel_rfl)
        clear hC
        generalize hA : puts [(0, 6), (1, 7), (2, 8), (3, 9), (4, 10), (5, 11), (6, 12), (7, 13), (8, 14), (9, 15)] _ u = A
        have hgv : A.tmps.getD 9 undef = .bool false := by rw [← hA]; exact (puts_get u 3 9 _ _ (by decide) (by decide) (by kernel_rfl)).trans hJ3
        have hgs : 9 < A.tmps.size := by rw [← hA]; exact puts_room u (by kernel_rfl)
        refine wpOp_guard rfl 3 9 false rfl rfl hgs hgv (fun K hK => ?_)
        subst hA
        simp only [puts, List.foldl]
        go_simp
        exact hK _ _ ⟨rfl, rfl, hg, Below.refl _ _⟩
      case Ps5 =>
        intro u wx hg hC
        have hJ3 : u 3 = (.bool false) := hC.at 3 (by kernel_rfl)
        have hJ4 : u 4 = (.pointer dp) := hC.at 4 (by kernel_rfl)
        clear hC
        generalize hA : puts [(0, 6), (1, 7), (2, 8), (3, 9), (4, 10), (5, 11), (6, 12), (7, 13), (8, 14), (9, 15)] _ u = A
        have hgv : A.tmps.getD 9 undef = .bool false := by rw [← hA]; exact (puts_get u 3 9 _ _ (by decide) (by decide) (by kernel_rfl)).trans hJ3
        have hgs : 9 < A.tmps.size := by rw [← hA]; exact puts_room u (by kernel_rfl)
        refine wpOp_guard rfl 3 9 false rfl rfl hgs hgv (fun K hK => ?_)
        subst hA
        simp only [puts, List.foldl]
        go_simp
        refine (HSC.out wx (B1.out.next hg)).mono ?_
        rintro e w' ⟨rfl, rfl⟩; have hb' := Below.refl wx.heap.size wx
        exact hK _ _ ⟨rfl, rfl, hg.next hb', hb'⟩
      case Ps6 =>
        intro u wx hg hC
        have hJ3 : u 3 = (.bool false) := hC.at 3 (by kernel_rfl)
        clear hC
        generalize hA : puts [(0, 6), (1, 7), (2, 8), (3, 9), (4, 10), (5, 11), (6, 12), (7, 13), (8, 14), (9, 15)] _ u = A
        have hgv : A.tmps.getD 9 undef = .bool false := by rw [← hA]; exact (puts_get u 3 9 _ _ (by decide) (by decide) (by kernel_rfl)).trans hJ3
        have hgs : 9 < A.tmps.size := by rw [← hA]; exact puts_room u (by kernel_rfl)
        have hp : A.tmps.getD 3 undef = (.pointer (some ⟨w.heap.size, 0, none⟩)) := by rw [← hA]; exact (puts_get_out u _ _ 3 (by decide)).trans (by rfl)
        have hsz : 12 < A.tmps.size := by rw [← hA]; exact puts_room u (by kernel_rfl)
        refine wpOp_guard rfl 3 9 false rfl rfl hgs hgv (fun K hK => ?_)
        clear hA
        exact opLoadK (φ := Is (.agg ([Value.int .i64 d, .int .i64 p, .int .i64 s]).toArray)) ((R1.out.step hg)) _ (fits_geo) (rfl) 12 rfl hsz hK (.tmp 3) rfl hp rfl hg
      case Ps7 =>
        intro u wx hg hC
        have hJ3 : u 3 = (.bool false) := hC.at 3 (by kernel_rfl)
        have hJ6 : u 6 = (.agg ([Value.int .i64 d, .int .i64 p, .int .i64 s]).toArray) := hC.at 6 (by kernel_rfl)
        clear hC
        generalize hA : puts [(0, 6), (1, 7), (2, 8), (3, 9), (4, 10), (5, 11), (6, 12), (7, 13), (8, 14), (9, 15)] _ u = A
        have hgv : A.tmps.getD 9 undef = .bool false := by rw [← hA]; exact (puts_get u 3 9 _ _ (by decide) (by decide) (by kernel_rfl)).trans hJ3
        have hgs : 9 < A.tmps.size := by rw [← hA]; exact puts_room u (by kernel_rfl)
        refine wpOp_guard rfl 3 9 false rfl rfl hgs hgv (fun K hK => ?_)
        subst hA
        simp only [puts, List.foldl]
        go_simp
        refine (HAL.out wx).mono ?_
        rintro e w' ⟨rfl, hb'⟩
        exact hK _ _ ⟨rfl, rfl, hg.next hb', hb'⟩
      case Ps8 =>
        intro u wx hg hC
        have hJ3 : u 3 = (.bool false) := hC.at 3 (by kernel_rfl)
        have hJ5 : u 5 = (.int .i64 n) := hC.at 5 (by kernel_rfl)
        have hJ7 : u 7 = (.int .i64 m) := hC.at 7 (by kernel_rfl)
        clear hC
        generalize hA : puts [(0, 6), (1, 7), (2, 8), (3, 9), (4, 10), (5, 11), (6, 12), (7, 13), (8, 14), (9, 15)] _ u = A
        have hgv : A.tmps.getD 9 undef = .bool false := by rw [← hA]; exact (puts_get u 3 9 _ _ (by decide) (by decide) (by kernel_rfl)).trans hJ3
        have hgs : 9 < A.tmps.size := by rw [← hA]; exact puts_room u (by kernel_rfl)
        refine wpOp_guard rfl 3 9 false rfl rfl hgs hgv (fun K hK => ?_)
        subst hA
        simp only [puts, List.foldl]
        go_simp
        exact hK _ _ ⟨rfl, rfl, hg, Below.refl _ _⟩
      case Ps9 =>
        intro u wx hg hC
        have hJ3 : u 3 = (.bool false) := hC.at 3 (by kernel_rfl)
        have hJ8 : u 8 = (.bool true) := hC.at 8 (by kernel_rfl)
        clear hC
        refine wpOp_step rfl (fun K hK => ?_)
        simp only [puts, List.foldl]
        go_simp
        exact hK _ _ ⟨rfl, rfl, hg, Below.refl _ _⟩
    case finP =>
      intro u ux hux hφ
      have e9 : u 9 = .bool true := hφ (9, 15) (by decide)
      clear hφ
      simp only [puts, List.foldl]
      rw [e9]
      go_simp
      go_wp2
      go_ret2
      exact ⟨rfl, B1.out.next hux⟩
set_option maxHeartbeats 1000000 in
theorem log_over_good (dp : Option Addr) (g : Gm) (n : Int) (w : World) (hs : ∀ u, Below w.heap.size w u → Calls Tryz.prog 40 #[.pointer dp] u fun e u' => e = .returned (.int .i64 n) ∧ u = u') (hr : right g = true) (hn : all g ≤ n) :
    Calls Tryz.prog 23 #[.pointer dp, geoV g] w fun e w' => ∃ l tb, e = .returned (.tuple #[.pointer (some ⟨l, 0, none⟩), .int .i64 0]) ∧ Row w' l 63 (logN dp g tb) ∧ TabAt w' tb ∧ w.heap.size ≤ l ∧ Below w.heap.size w w' := by
  have HRT : Hid (∀ u, Calls Tryz.prog 46 #[geoV g] u fun e w' => e = .returned (.bool (right g)) ∧ Below u.heap.size u w') := Lib.hid fun u => right_any g u
  have HAL : Hid (∀ u, Calls Tryz.prog 22 #[geoV g] u fun e w' => e = .returned (.int .i64 (all g)) ∧ Below u.heap.size u w') := Lib.hid fun u => all_any g u
  have HSC := Lib.hid hs
  have hlt : decide (n < all g) = false := decide_eq_false (by omega)
  have hlt2 : (n < all g) = False := eq_false (by omega)
  rw [hr] at HRT
  clear hs hr hn
  generalize all g = m at *
  obtain ⟨d, p, s⟩ := g
  dsimp only [geoV] at HRT HAL ⊢
  have HBL := Lib.hid (built_log dp d p s)
  go_enter Tryz.func23, Tryz.ntmps23
  go_wp2_with ((with_reducible refine wpBoxK (w := w) [Value.int .i64 d, .int .i64 p, .int .i64 s] 33 ?_ ?_); rfl; intro u1 r1 b1 s1; have R1 := Lib.hid r1; have B1 := Lib.hid b1; clear r1 b1 s1)
  refine region_invX [(0, 6), (1, 7), (2, 8), (3, 9), (4, 10), (5, 11), (6, 12), (7, 13), (8, 14), (9, 15)]
    (fun ii => [Is (.agg ([Value.int .i64 d, .int .i64 p, .int .i64 s]).toArray), Is (.bool true), Is (.bool false), Is (.bool false), Is (.pointer dp), Is (.int .i64 n), Is (.agg ([Value.int .i64 d, .int .i64 p, .int .i64 s]).toArray), Is (.int .i64 m), Is (.bool false), Is (.bool false)].getD ii (Is undef))
    (fun w' => Below u1.heap.size u1 w') (by kernel_rfl) (by kernel_rfl) (by decide) (by decide) (by kernel_rfl) rfl ?monoP ((Below.refl _ _).drew) ?stepP ?finP
  case monoP =>
    intro i
    match i with
    | 0 | 1 | 2 | 3 | 4 | 5 | 6 | 7 | 8 | 9 => exact Is.monot _
    | _ + 10 => exact Is.monot _
  case stepP =>
    refine List.forall_mem_cons.2 ⟨?Ps0, List.forall_mem_cons.2 ⟨?Ps1, List.forall_mem_cons.2 ⟨?Ps2, List.forall_mem_cons.2 ⟨?Ps3, List.forall_mem_cons.2 ⟨?Ps4, List.forall_mem_cons.2 ⟨?Ps5, List.forall_mem_cons.2 ⟨?Ps6, List.forall_mem_cons.2 ⟨?Ps7, List.forall_mem_cons.2 ⟨?Ps8, List.forall_mem_cons.2 ⟨?Ps9, List.forall_mem_nil _⟩⟩⟩⟩⟩⟩⟩⟩⟩⟩
    case Ps0 =>
      intro u wx hg hC
      clear hC
      generalize hA : puts [(0, 6), (1, 7), (2, 8), (3, 9), (4, 10), (5, 11), (6, 12), (7, 13), (8, 14), (9, 15)] _ u = A
      have hp : A.tmps.getD 3 undef = (.pointer (some ⟨w.heap.size, 0, none⟩)) := by rw [← hA]; exact (puts_get_out u _ _ 3 (by decide)).trans (by rfl)
      have hsz : 6 < A.tmps.size := by rw [← hA]; exact puts_room u (by kernel_rfl)
      refine wpOp_step rfl (fun K hK => ?_)
      clear hA
      exact opLoadK (φ := Is (.agg ([Value.int .i64 d, .int .i64 p, .int .i64 s]).toArray)) ((R1.out.step hg)) _ (fits_geo) (rfl) 6 rfl hsz hK (.tmp 3) rfl hp rfl hg
    case Ps1 =>
      intro u wx hg hC
      have hJ0 : u 0 = (.agg ([Value.int .i64 d, .int .i64 p, .int .i64 s]).toArray) := hC.at 0 (by kernel_rfl)
      clear hC
      refine wpOp_step rfl (fun K hK => ?_)
      simp only [puts, List.foldl]
      go_simp
      refine (HRT.out wx).mono ?_
      rintro e w' ⟨rfl, hb'⟩
      exact hK _ _ ⟨rfl, rfl, hg.next hb', hb'⟩
    case Ps2 =>
      intro u wx hg hC
      have hJ1 : u 1 = (.bool true) := hC.at 1 (by kernel_rfl)
      clear hC
      refine wpOp_step rfl (fun K hK => ?_)
      simp only [puts, List.foldl]
      go_simp
      exact hK _ _ ⟨rfl, rfl, hg, Below.refl _ _⟩
    case Ps3 =>
      intro u wx hg hC
      have hJ2 : u 2 = (.bool false) := hC.at 2 (by kernel_rfl)
      clear hC
      refine wpOp_step rfl (fun K hK => ?_)
      simp only [puts, List.foldl]
      go_simp
      exact hK _ _ ⟨rfl, rfl, hg, Below.refl _ _⟩
    case Ps4 =>
      intro u wx hg hC
      have hJ3 : u 3 = (.bool false) := hC.at 3 (by kernel_rfl)
      clear hC
      generalize hA : puts [(0, 6), (1, 7), (2, 8), (3, 9), (4, 10), (5, 11), (6, 12), (7, 13), (8, 14), (9, 15)] _ u = A
      have hgv : A.tmps.getD 9 undef = .bool false := by rw [← hA]; exact (puts_get u 3 9 _ _ (by decide) (by decide) (by kernel_rfl)).trans hJ3
      have hgs : 9 < A.tmps.size := by rw [← hA]; exact puts_room u (by kernel_rfl)
      refine wpOp_guard rfl 3 9 false rfl rfl hgs hgv (fun K hK => ?_)
      subst hA
      simp only [puts, List.foldl]
      go_simp
      exact hK _ _ ⟨rfl, rfl, hg, Below.refl _ _⟩
    case Ps5 =>
      intro u wx hg hC
      have hJ3 : u 3 = (.bool false) := hC.at 3 (by kernel_rfl)
      have hJ4 : u 4 = (.pointer dp) := hC.at 4 (by kernel_rfl)
      clear hC
      generalize hA : puts [(0, 6), (1, 7), (2, 8), (3, 9), (4, 10), (5, 11), (6, 12), (7, 13), (8, 14), (9, 15)] _ u = A
      have hgv : A.tmps.getD 9 undef = .bool false := by rw [← hA]; exact (puts_get u 3 9 _ _ (by decide) (by decide) (by kernel_rfl)).trans hJ3
      have hgs : 9 < A.tmps.size := by rw [← hA]; exact puts_room u (by kernel_rfl)
      refine wpOp_guard rfl 3 9 false rfl rfl hgs hgv (fun K hK => ?_)
      subst hA
      simp only [puts, List.foldl]
      go_simp
      refine (HSC.out wx (B1.out.next hg)).mono ?_
      rintro e w' ⟨rfl, rfl⟩; have hb' := Below.refl wx.heap.size wx
      exact hK _ _ ⟨rfl, rfl, hg.next hb', hb'⟩
    case Ps6 =>
      intro u wx hg hC
      have hJ3 : u 3 = (.bool false) := hC.at 3 (by kernel_rfl)
      clear hC
      generalize hA : puts [(0, 6), (1, 7), (2, 8), (3, 9), (4, 10), (5, 11), (6, 12), (7, 13), (8, 14), (9, 15)] _ u = A
      have hgv : A.tmps.getD 9 undef = .bool false := by rw [← hA]; exact (puts_get u 3 9 _ _ (by decide) (by decide) (by kernel_rfl)).trans hJ3
      have hgs : 9 < A.tmps.size := by rw [← hA]; exact puts_room u (by kernel_rfl)
      have hp : A.tmps.getD 3 undef = (.pointer (some ⟨w.heap.size, 0, none⟩)) := by rw [← hA]; exact (puts_get_out u _ _ 3 (by decide)).trans (by rfl)
      have hsz : 12 < A.tmps.size := by rw [← hA]; exact puts_room u (by kernel_rfl)
      refine wpOp_guard rfl 3 9 false rfl rfl hgs hgv (fun K hK => ?_)
      clear hA
      exact opLoadK (φ := Is (.agg ([Value.int .i64 d, .int .i64 p, .int .i64 s]).toArray)) ((R1.out.step hg)) _ (fits_geo) (rfl) 12 rfl hsz hK (.tmp 3) rfl hp rfl hg
    case Ps7 =>
      intro u wx hg hC
      have hJ3 : u 3 = (.bool false) := hC.at 3 (by kernel_rfl)
      have hJ6 : u 6 = (.agg ([Value.int .i64 d, .int .i64 p, .int .i64 s]).toArray) := hC.at 6 (by kernel_rfl)
      clear hC
      generalize hA : puts [(0, 6), (1, 7), (2, 8), (3, 9), (4, 10), (5, 11), (6, 12), (7, 13), (8, 14), (9, 15)] _ u = A
      have hgv : A.tmps.getD 9 undef = .bool false := by rw [← hA]; exact (puts_get u 3 9 _ _ (by decide) (by decide) (by kernel_rfl)).trans hJ3
      have hgs : 9 < A.tmps.size := by rw [← hA]; exact puts_room u (by kernel_rfl)
      refine wpOp_guard rfl 3 9 false rfl rfl hgs hgv (fun K hK => ?_)
      subst hA
      simp only [puts, List.foldl]
      go_simp
      refine (HAL.out wx).mono ?_
      rintro e w' ⟨rfl, hb'⟩
      exact hK _ _ ⟨rfl, rfl, hg.next hb', hb'⟩
    case Ps8 =>
      intro u wx hg hC
      have hJ3 : u 3 = (.bool false) := hC.at 3 (by kernel_rfl)
      have hJ5 : u 5 = (.int .i64 n) := hC.at 5 (by kernel_rfl)
      have hJ7 : u 7 = (.int .i64 m) := hC.at 7 (by kernel_rfl)
      clear hC
      generalize hA : puts [(0, 6), (1, 7), (2, 8), (3, 9), (4, 10), (5, 11), (6, 12), (7, 13), (8, 14), (9, 15)] _ u = A
      have hgv : A.tmps.getD 9 undef = .bool false := by rw [← hA]; exact (puts_get u 3 9 _ _ (by decide) (by decide) (by kernel_rfl)).trans hJ3
      have hgs : 9 < A.tmps.size := by rw [← hA]; exact puts_room u (by kernel_rfl)
      refine wpOp_guard rfl 3 9 false rfl rfl hgs hgv (fun K hK => ?_)
      subst hA
      simp only [puts, List.foldl]
      go_simp
      exact hK _ _ ⟨rfl, rfl, hg, Below.refl _ _⟩
    case Ps9 =>
      intro u wx hg hC
      have hJ3 : u 3 = (.bool false) := hC.at 3 (by kernel_rfl)
      have hJ8 : u 8 = (.bool false) := hC.at 8 (by kernel_rfl)
      clear hC
      refine wpOp_step rfl (fun K hK => ?_)
      simp only [puts, List.foldl]
      go_simp
      exact hK _ _ ⟨rfl, rfl, hg, Below.refl _ _⟩
  case finP =>
    intro u ux hux hφ
    have e9 : u 9 = .bool false := hφ (9, 15) (by decide)
    clear hφ
    simp only [puts, List.foldl]
    rw [e9]
    go_simp
    have RX := Lib.hid (R1.out.step hux)
    have BX : Hid (Below w.heap.size w ux) := Lib.hid (B1.out.next hux)
    have HLT : Hid (w.heap.size < ux.heap.size) := Lib.hid RX.out.lt
    have G0 : Hid (ux.cell? ⟨w.heap.size, 0, none⟩ = some (.int .i64 d)) := Lib.hid (RX.out.cell 0)
    have G1 : Hid (ux.cell? ⟨w.heap.size, 1, none⟩ = some (.int .i64 p)) := Lib.hid (RX.out.cell 1)
    have G2 : Hid (ux.cell? ⟨w.heap.size, 2, none⟩ = some (.int .i64 s)) := Lib.hid (RX.out.cell 2)
    clear hux e9
    go_wp2
    refine region_tail 3 [(0, 16), (1, 17), (2, 18)]
      (fun ii => [Is (.pointer dp), Is (.agg #[(.int .i64 d), (.int .i64 p), (.int .i64 s)]), LTab].getD ii (Is undef))
      (fun w' => Below ux.heap.size ux w') (by kernel_rfl) (by decide) (by kernel_rfl) (by kernel_rfl) (by kernel_rfl) (by decide) (by decide) (by kernel_rfl) rfl ?monoT ((Below.refl _ _).drew) ?stepT ?finT
    case monoT =>
      intro i
      match i with
      | 0 | 1 => exact Is.monot _
      | 2 => exact LTab.monot
      | _ + 3 => exact Is.monot _
    case stepT =>
      refine List.forall_mem_cons.2 ⟨?Ts0, List.forall_mem_cons.2 ⟨?Ts1, List.forall_mem_cons.2 ⟨?Ts2, List.forall_mem_nil _⟩⟩⟩
      case Ts0 =>
        intro u wx hg hC
        clear hC
        refine wpOp_step rfl (fun K hK => ?_)
        simp only [puts, List.foldl]
        go_simp
        exact hK _ _ ⟨rfl, rfl, hg, Below.refl _ _⟩
      case Ts1 =>
        intro u wx hg hC
        clear hC
        have hcl0 : wx.cell? ⟨w.heap.size, 0, none⟩ = some (.int .i64 d) := (hg.cell (p := ⟨w.heap.size, 0, none⟩) HLT.out).trans G0.out
        have hcl1 : wx.cell? ⟨w.heap.size, 1, none⟩ = some (.int .i64 p) := (hg.cell (p := ⟨w.heap.size, 1, none⟩) HLT.out).trans G1.out
        have hcl2 : wx.cell? ⟨w.heap.size, 2, none⟩ = some (.int .i64 s) := (hg.cell (p := ⟨w.heap.size, 2, none⟩) HLT.out).trans G2.out
        refine wpOp_step rfl (fun K hK => ?_)
        simp only [puts, List.foldl]
        go_simp
        exact hK _ _ ⟨rfl, rfl, hg, Below.refl _ _⟩
      case Ts2 =>
        intro u wx hg hC
        clear hC
        refine wpOp_step rfl (fun K hK => ?_)
        simp only [puts, List.foldl]
        go_simp
        refine (tab_new wx).mono ?_
        rintro e w' ⟨tb', rfl, ht', hb'⟩
        exact hK _ _ ⟨rfl, ⟨tb', rfl, ht'⟩, hg.next hb', hb'⟩
    case finT =>
      intro u w3 hb3 hφ
      have e0 : u 0 = .pointer dp := hφ (0, 16) (by decide)
      have e1 : u 1 = .agg #[.int .i64 d, .int .i64 p, .int .i64 s] := hφ (1, 17) (by decide)
      obtain ⟨tb, e2, ht⟩ : LTab (u 2) w3 := hφ (2, 18) (by decide)
      have HT3 := Lib.hid ht
      have B3 : Hid (Below w.heap.size w w3) := Lib.hid (BX.out.next hb3)
      clear hφ ht hb3
      simp only [puts, List.foldl]
      rw [e0, e1, e2]
      go_simp
      clear e0 e1 e2
      go_wp2_with (first
        | ((with_reducible refine wpBuildK (logN dp ⟨d, p, s⟩ tb) 63 [(0, .pointer dp), (2, .agg #[.int .i64 d, .int .i64 p, .int .i64 s]), (3, .pointer (some ⟨tb, 0, none⟩))] (HBL.out tb) ?_ ?_); rfl)
        | ((with_reducible refine wpBoxK (w := w3) (logN dp ⟨d, p, s⟩ tb) 63 ?_ ?_); rfl; intro u4 r4 b4 s4; have R4 := Lib.hid r4; have T4 := Lib.hid (HT3.out.step b4); have B4 : Hid (Below w.heap.size w u4) := Lib.hid (B3.out.next b4); clear r4 b4 s4))
      go_ret2
      exact ⟨_, tb, rfl, R4.out, T4.out, B3.out.size, B4.out⟩
end Go.Proofs.YtbnjenbhpaknbaaGreat

/- Open. -/
namespace Go.Proofs.YtbnjenbhpaknbaaGreat
open Go.RowKit CrcMath NumMath FlaMath GeoMath
set_option linter.unusedVariables false
set_option maxRecDepth 100000

def openK (C : List UInt8) (L : Nat) : Nat → LV
  | 0 => v0
  | k + 1 => betterF (openK C L k) (lookF C L k)
theorem openK_two (C : List UInt8) (L : Nat) : openK C L 2 = openF C L := rfl
/-- A table's block is none of a device's. -/
theorem TabAt.offD {w : World} {b : Nat} {sh : Sh} {D : Dv} (h : TabAt w b) (hd : Dvx w sh D) : b ∉ sh.S := by
  intro hm
  obtain ⟨o, hd⟩ := hd
  have q0 := h.tab 0 (by omega)
  rw [Nat.zero_add] at q0
  have hone := hd.ok.one
  have hcl := hd.ok.cells
  have hw := hd.ok.worn
  simp only [Sh.S, List.mem_cons, List.not_mem_nil, or_false] at hm
  rcases hm with rfl | rfl | rfl | rfl
  · rw [hd.row.cell] at q0; simp [devL] at q0
  · rw [hd.cc 0 (by omega)] at q0; simp at q0
  · rw [hd.cl 0 (by omega)] at q0; simp at q0
  · rw [hd.ce 0 (by omega)] at q0; simp at q0
theorem TabAt.ne_log {w : World} {b l : Nat} {p : Option Addr} {L : List Value} {t : TypeId} (h : TabAt w b) (hr : Row w l t (.pointer p :: L)) : b ≠ l := fun e => by
  have q0 := h.tab 0 (by omega)
  rw [Nat.zero_add, e, hr.cell] at q0
  simp at q0
theorem LogAt.setHalf {B : Nat} {w w' : World} {A : LogD} {D : Dv} {V V' : LV} {sl sl' : Value} (h : LogAt B w A D V sl) (hr : Row w' A.l 63 (logL A V' sl')) (ho : Only A.l w w')
    (own : w.ownsRow B 36 4 sl' V'.recs.length (rcs V'.recs)) (hw : V'.which < 2) (hn : V'.next ≤ 16) (ht : A.tb ∉ ob sl') : LogAt B w' A D V' sl' := by
  have hol : Onl [A.l] w w' := Onl.of_only ho (by simp)
  exact ⟨h.dev.onl hol fun k hk e => h.l_dev (by rw [← List.mem_singleton.1 e]; exact hk), hr, h.tab.only ho h.tl, owns_only own ho fun k hk => by
    obtain ⟨l, hl⟩ := owns_row own (mem_ob.2 hk)
    exact row_ne hl h.row (by decide), h.geo, h.fit, hw, hn, h.bs, h.bl, h.tl, h.ts, ht⟩
theorem halfL_cells (V : LV) (p : Option Addr) (m c : Nat) : (halfL V (.slice p m c)).all (·.oneCell') = true := rfl
theorem halfL_len (V : LV) (v : Value) : (halfL V v).length = 5 := rfl
theorem logL_parts (A : LogD) (V : LV) (sl : Value) : logL A V sl = [.pointer (some ⟨A.sh.b, 0, none⟩)] ++ halfL V sl ++ [.int .i64 A.g.d, .int .i64 A.g.p, .int .i64 A.g.s, .pointer (some ⟨A.tb, 0, none⟩)] := rfl
theorem lookF_which (C : List UInt8) (L h : Nat) : (lookF C L h).which = h := rfl
theorem lookF_next (C : List UInt8) (L h : Nat) : (lookF C L h).next ≤ 16 := runN_le _ _
theorem logopen_bad (dp : Option Addr) (g : Gm) (n : Int) (w : World) (hs : ∀ u, Below w.heap.size w u → Calls Tryz.prog 40 #[.pointer dp] u fun e u' => e = .returned (.int .i64 n) ∧ u = u') (hb : right g = false ∨ n < all g) :
    Calls Tryz.prog 15 #[.pointer dp, geoV g] w fun e w' => e = .returned (.tuple #[.pointer none, .int .i64 1]) ∧ Below w.heap.size w w' := by
  have HOV : Hid (∀ u, Below w.heap.size w u → Calls Tryz.prog 23 #[.pointer dp, geoV g] u fun e w' => e = .returned (.tuple #[.pointer none, .int .i64 1]) ∧ Below u.heap.size u w') := Lib.hid fun u hu => log_over_bad dp g n u (fun x hx => hs x (hu.next hx)) hb
  obtain ⟨d, p, s⟩ := g
  dsimp only [geoV] at HOV ⊢
  clear hs hb
  go_enter Tryz.func15, Tryz.ntmps15
  go_wp2_with (first
    | ((with_reducible refine wpBoxK (w := w) [Value.int .i64 d, .int .i64 p, .int .i64 s] 33 ?_ ?_); rfl; intro u1 r1 b1 s1; have R1 := Lib.hid r1; have B1 := Lib.hid b1; clear r1 b1 s1)
    | ((with_reducible refine R1.out.wpLoadK 33 fits_geo rfl ?_ ?_); rfl)
    | (go_at_call 23; (with_reducible refine (HOV.out u1 B1.out).mono ?_); rintro e u2 ⟨rfl, b2⟩; have B2 := Lib.hid (B1.out.next b2); clear b2))
  go_ret2
  exact ⟨rfl, B2.out⟩

set_option maxHeartbeats 2000000 in
theorem logopen_good (B : Nat) (sh : Sh) (D : Dv) (g : Gm) (w : World) (h : Dvx w sh D) (hdn : D.dn = false) (hr : right g = true) (hn : all g ≤ D.L.length) (hB : ∀ k ∈ sh.S, B ≤ k) (hBw : B ≤ w.heap.size) :
    Calls Tryz.prog 15 #[.pointer (some ⟨sh.b, 0, none⟩), geoV g] w fun e w' => Onl sh.S w w' ∧
      ((openF D.C (GeoMath.log g).toNat).gen = 0 → e = .returned (.tuple #[.pointer none, .int .i64 14]) ∧ Dvx w' sh D) ∧
      ((openF D.C (GeoMath.log g).toNat).gen ≠ 0 → ∃ l tb sl, e = .returned (.tuple #[.pointer (some ⟨l, 0, none⟩), .int .i64 0]) ∧ LogAt B w' ⟨l, tb, sh, g⟩ D (openF D.C (GeoMath.log g).toNat) sl ∧ w.heap.size ≤ l ∧ ∀ k ∈ ob sl, w.heap.size ≤ k) := by
  have HOV : Hid (∀ u, Below w.heap.size w u → Calls Tryz.prog 23 #[.pointer (some ⟨sh.b, 0, none⟩), geoV g] u fun e w' => ∃ l tb, e = .returned (.tuple #[.pointer (some ⟨l, 0, none⟩), .int .i64 0]) ∧ w.heap.size ≤ l ∧ LogAt B w' ⟨l, tb, sh, g⟩ D v0 (.slice none 0 0) ∧ Below u.heap.size u w') := Lib.hid fun u hu => by
    have hfit : GeoMath.log g + 18 ≤ D.L.length := by
      have : all g = GeoMath.log g + 18 := by unfold all tal; rw [if_pos hr]; omega
      omega
    have hus := h.step hu
    refine (log_over_good (some ⟨sh.b, 0, none⟩) g (D.L.length : Int) u (fun x hx => let ⟨o, hd⟩ := hus.step hx; sectors_any sh { D with ops := o } x hd) hr hn).mono ?_
    rintro e w' ⟨l, tb, rfl, h1, h2, h3, h4⟩
    have hd := hus.step h4
    refine ⟨l, tb, rfl, Nat.le_trans hu.size h3, ⟨hd, h1, h2, World.ownsRow_nil _ _ _ _, hr, hfit, by show 0 < 2; omega, by show 0 ≤ 16; omega, hB, Nat.le_trans hBw (Nat.le_trans hu.size h3), h2.ne_log h1, h2.offD hd, by simp [ob, Value.ownBlock]⟩, h4⟩
  obtain ⟨L, hL⟩ : ∃ L, (GeoMath.log g).toNat = L := ⟨_, rfl⟩
  have HLE : Hid (∀ l tb, (⟨l, tb, sh, g⟩ : LogD).L = L) := Lib.hid fun l tb => hL
  have HLK : Hid (∀ (u : World) (l tb : Nat) (V : LV) (sl : Value) (k : Nat), k < 2 → LogAt B u ⟨l, tb, sh, g⟩ D V sl → Calls Tryz.prog 44 #[.pointer (some ⟨l, 0, none⟩), .int .i64 (k : Int)] u fun e w' => (∃ (q : Option Addr) (m c : Nat), e = .returned (.tuple #[.agg (halfL (lookF D.C L k) (.slice q m c)).toArray, .int .i64 0]) ∧ w'.ownsRow u.heap.size 36 4 (.slice q m c) (lookF D.C L k).recs.length (rcs (lookF D.C L k).recs)) ∧ LogAt B w' ⟨l, tb, sh, g⟩ D V sl ∧ Onl sh.S u w') := Lib.hid fun u l tb V sl k hk hu => by
    have := log_look_any hu k hk hdn
    rw [HLE.out] at this
    refine this.mono ?_
    rintro e w' ⟨⟨v, rfl, h1⟩, h2, h3⟩
    obtain ⟨q, c, rfl, _⟩ := own_formM h1
    exact ⟨⟨q, _, c, rfl, h1⟩, h2, h3⟩
  rw [hL]
  have HSN : Hid (∀ k ∈ sh.S, k < w.heap.size) := Lib.hid h.lt
  have HBW := Lib.hid hBw
  have HH5 : Hid (∀ (V : LV) (v : Value), (halfL V v).length = 5) := Lib.hid halfL_len
  clear h hr hn hB hBw hdn hL
  generalize hgg : g = g0 at *
  obtain ⟨gd, gp, gs⟩ := g0
  dsimp only [geoV] at HOV ⊢
  go_enter Tryz.func15, Tryz.ntmps15
  go_wp2_with (first
    | ((with_reducible refine wpBoxK (w := w) [Value.int .i64 gd, .int .i64 gp, .int .i64 gs] 33 ?_ ?_); rfl; intro u1 r1 b1 s1; have R1 := Lib.hid r1; have B1 := Lib.hid b1; clear r1 b1 s1)
    | ((with_reducible refine R1.out.wpLoadK 33 fits_geo rfl ?_ ?_); rfl)
    | (go_at_call 23; (with_reducible refine (HOV.out u1 B1.out).mono ?_); rintro e u2 ⟨l, tb, rfl, hwl, hla, b2⟩; have HWL := Lib.hid hwl; have LA := Lib.hid hla; have B2 := Lib.hid (B1.out.next b2); clear b2 hla hwl))
  clear R1 B1 HOV
  go_loopw [20] (fun i wr => ∃ k : Nat, k ≤ 2 ∧ i = .int .i64 k ∧ (∃ sl, LogAt B wr ⟨l, tb, sh, ⟨gd, gp, gs⟩⟩ D (openK D.C L k) sl ∧ ∀ j ∈ ob sl, w.heap.size ≤ j) ∧ Onl sh.S w wr) (fun i _ => 2 - (intOf i).toNat)
  case atStart => exact ⟨0, Nat.zero_le _, rfl, ⟨_, LA.out, fun j hj => by simp [ob, Value.ownBlock] at hj⟩, Onl.of_below B2.out⟩
  case round =>
    clear LA B2
    obtain ⟨k, hk, rfl, ⟨sl, hla, hob⟩, hon⟩ := hrel
    have LA := Lib.hid hla
    have HOB := Lib.hid hob
    have ON := Lib.hid hon
    clear hla hob hon
    by_cases hlt : k < 2
    · have hk1 : (k : Int) < 2 := by omega
      have HLKK := Lib.hid (HLK.out wr l tb _ sl k hlt LA.out)
      have HWK : Hid ((lookF D.C L k).which = k) := Lib.hid rfl
      have HNK : Hid ((lookF D.C L k).next ≤ 16) := Lib.hid (lookF_next _ _ _)
      have HOK1 : Hid (openK D.C L (k + 1) = if (openK D.C L k).gen < (lookF D.C L k).gen then lookF D.C L k else openK D.C L k) := Lib.hid rfl
      obtain ⟨V1, hV1⟩ : ∃ V, openK D.C L (k + 1) = V := ⟨_, rfl⟩
      rw [hV1] at HOK1
      have HV1 := Lib.hid hV1
      generalize lookF D.C L k = K at *
      generalize openK D.C L k = V at *
      have H5 : Hid (∀ v, (halfL K v).length = 5) := Lib.hid fun v => HH5.out K v
      have H5V : Hid ((halfL V sl).length = 5) := Lib.hid (HH5.out V sl)
      clear hV1 HLK
      by_cases hgt : V.gen < K.gen
      · have hgtb : decide (V.gen < K.gen) = true := decide_eq_true hgt
        have HE1 : Hid (V1 = K) := Lib.hid (by rw [HOK1.out, if_pos hgt])
        go_wp2_with (first
          | (go_at_call 44; (with_reducible refine HLKK.out.mono ?_); rintro e u3 ⟨⟨q, m, c, rfl, ho⟩, hl3, o3⟩; have OW3 := Lib.hid ho; have L3 := Lib.hid hl3; have O3 : Hid (Onl sh.S w u3) := Lib.hid (ON.out.trans o3); have GO3 : Hid (∀ j, (Value.slice q m c).ownBlock = some j → wr.heap.size ≤ j) := Lib.hid (owns_ge ho); have HWR : Hid (w.heap.size ≤ wr.heap.size) := Lib.hid ON.out.size; clear ho hl3 o3)
          | ((with_reducible refine wpAllocK (w := u3) (hfL 0 0 (.slice none 0 0) 0 false) 60 zero_half ?_ ?_); rfl; intro u4 r4 b4 s4; have R4 := Lib.hid r4; have L4 := Lib.hid (L3.out.step b4); have OW4 := Lib.hid (owns_step OW3.out b4); have O4 := Lib.hid (O3.out.step b4); have GB4 : Hid (∀ j, (Value.slice q m c).ownBlock = some j → j < u3.heap.size) := Lib.hid (fun j hj => (OW3.out.lt j hj).2); clear r4 b4 s4)
          | ((with_reducible refine R4.out.wpStoreK 60 (halfL K (.slice q m c)) fits_half rfl (H5.out _) (halfL_cells _ _ _ _) ?_ ?_); rfl; intro u5 r5 o5 s5; have R5 := Lib.hid r5; have BB5 : Hid (Below u3.heap.size u4 u5) := Lib.hid (o5.below (Nat.le_refl _) (Nat.le_of_lt R4.out.lt)); have L5 := Lib.hid (LogAt.keep L3.out L4.out BB5.out); have OW5 := Lib.hid (owns_only OW4.out o5 (fun j hj => by have := GB4.out j hj; omega)); have O5 : Hid (Onl sh.S w u5) := Lib.hid (O4.out.belowB (BB5.out.mono O3.out.size)); have k1 : u5.cell? ⟨u3.heap.size, 1, none⟩ = some (.int .i64 K.gen) := r5.cell 1; have k2 : u5.cell? ⟨l, 2, none⟩ = some (.int .i64 V.gen) := L5.out.c2; clear r5 o5 s5))
        go_quiet (fail)
        have HD : Hid (Below u5.heap.size u5 (u5.drewN nq)) := Lib.hid ((Below.refl _ _).drewN _)
        have R6 := Lib.hid (R5.out.step HD.out)
        have L6 := Lib.hid (L5.out.step HD.out)
        have OW6 := Lib.hid (owns_step OW5.out HD.out)
        have O6 := Lib.hid (O5.out.step HD.out)
        clear k1 k2 HD R5 L5 OW5 O5
        generalize u5.drewN nq = u6 at *
        have RL6 : Hid (Row u6 l 63 ([.pointer (some ⟨sh.b, 0, none⟩)] ++ halfL V sl ++ [.int .i64 gd, .int .i64 gp, .int .i64 gs, .pointer (some ⟨tb, 0, none⟩)])) := Lib.hid L6.out.row
        go_wp2_with (first
          | ((with_reducible refine R6.out.wpLoadK 60 fits_half (H5.out _) ?_ ?_); rfl)
          | ((with_reducible refine RL6.out.wpStoreMidK 1 rfl 60 (halfL K (.slice q m c)) fits_half H5V.out (H5.out _) (halfL_cells _ _ _ _) ?_ ?_); rfl; intro u7 r7 o7 s7; have R7 : Hid (Row u7 l 63 (logL ⟨l, tb, sh, ⟨gd, gp, gs⟩⟩ K (.slice q m c))) := Lib.hid r7; have O7 := Lib.hid o7; clear r7 o7 s7))
        go_roundw
        case rel =>
          refine ⟨k + 1, by omega, by go_num, ⟨.slice q m c, ?_, fun j hj => Nat.le_trans HWR.out (GO3.out j (mem_ob.1 hj))⟩, O6.out.belowB (O7.out.below HWL.out O6.out.size)⟩
          rw [HV1.out, HE1.out]
          exact L6.out.setHalf R7.out O7.out (own_mono OW6.out (Nat.le_trans HBW.out HWR.out)) (by rw [HWK.out]; exact hlt) HNK.out (fun hj => by
            have h1 := GO3.out _ (mem_ob.1 hj)
            have h2 := LA.out.tab.lt
            have h3 : (⟨l, tb, sh, ⟨gd, gp, gs⟩⟩ : LogD).tb = tb := rfl
            omega)
        case measure => simp [intOf]; omega
      · have hgtb : decide (V.gen < K.gen) = false := decide_eq_false hgt
        have HE1 : Hid (V1 = V) := Lib.hid (by rw [HOK1.out, if_neg hgt])
        go_wp2_with (first
          | (go_at_call 44; (with_reducible refine HLKK.out.mono ?_); rintro e u3 ⟨⟨q, m, c, rfl, ho⟩, hl3, o3⟩; have L3 := Lib.hid hl3; have O3 : Hid (Onl sh.S w u3) := Lib.hid (ON.out.trans o3); clear ho hl3 o3)
          | ((with_reducible refine wpAllocK (w := u3) (hfL 0 0 (.slice none 0 0) 0 false) 60 zero_half ?_ ?_); rfl; intro u4 r4 b4 s4; have R4 := Lib.hid r4; have L4 := Lib.hid (L3.out.step b4); have O4 := Lib.hid (O3.out.step b4); clear r4 b4 s4)
          | ((with_reducible refine R4.out.wpStoreK 60 (halfL K (.slice q m c)) fits_half rfl (H5.out _) (halfL_cells _ _ _ _) ?_ ?_); rfl; intro u5 r5 o5 s5; have BB5 : Hid (Below u3.heap.size u4 u5) := Lib.hid (o5.below (Nat.le_refl _) (Nat.le_of_lt R4.out.lt)); have L5 := Lib.hid (LogAt.keep L3.out L4.out BB5.out); have O5 : Hid (Onl sh.S w u5) := Lib.hid (O4.out.belowB (BB5.out.mono O3.out.size)); have k1 : u5.cell? ⟨u3.heap.size, 1, none⟩ = some (.int .i64 K.gen) := r5.cell 1; have k2 : u5.cell? ⟨l, 2, none⟩ = some (.int .i64 V.gen) := L5.out.c2; clear r5 o5 s5))
        go_quiet (fail)
        have HD : Hid (Below u5.heap.size u5 (u5.drewN nq)) := Lib.hid ((Below.refl _ _).drewN _)
        have L6 := Lib.hid (L5.out.step HD.out)
        have O6 := Lib.hid (O5.out.step HD.out)
        clear k1 k2 HD L5 O5
        generalize u5.drewN nq = u6 at *
        go_wp2
        go_roundw
        case rel => exact ⟨k + 1, by omega, by go_num, ⟨sl, by rw [HV1.out, HE1.out]; exact L6.out, HOB.out⟩, O6.out⟩
        case measure => simp [intOf]; omega
    · have hke : k = 2 := by omega
      have hk2 : ¬ (k : Int) < 2 := by omega
      have LA2 : Hid (LogAt B wr ⟨l, tb, sh, ⟨gd, gp, gs⟩⟩ D (openF D.C L) sl) := Lib.hid (by have := LA.out; rw [hke, openK_two] at this; exact this)
      obtain ⟨V, hV⟩ : ∃ V, openF D.C L = V := ⟨_, rfl⟩
      rw [hV] at LA2
      have HV := Lib.hid hV
      have c2 := LA2.out.c2
      clear LA HLK hke hV
      by_cases hz : V.gen = 0
      · have hz1 : (V.gen == 0) = true := by rw [hz]; rfl
        go_wp2
        go_ret2
        rw [HV.out]
        exact ⟨ON.out, fun _ => ⟨rfl, LA2.out.dev⟩, fun h => absurd hz h⟩
      · have hz1 : (V.gen == 0) = false := beq_eq_false_iff_ne.2 hz
        go_wp2
        go_ret2
        rw [HV.out]
        exact ⟨ON.out, fun h => absurd h hz, fun _ => by first | exact ⟨l, tb, sl, rfl, LA2.out, HWL.out, HOB.out⟩ | exact ⟨l, rfl, tb, sl, LA2.out, HWL.out, HOB.out⟩⟩
end Go.Proofs.YtbnjenbhpaknbaaGreat

/- A record's page; what stands there when a page is programmed on another one (gen_log_j.py). -/
namespace Go.Proofs.YtbnjenbhpaknbaaGreat
open Go.RowKit CrcMath NumMath FlaMath GeoMath
set_option linter.unusedVariables false
set_option maxRecDepth 100000

set_option maxHeartbeats 1000000 in
theorem log_page_any {B : Nat} {w : World} {A : LogD} {D : Dv} {V : LV} {sl : Value} (h : LogAt B w A D V sl) (r : Rc) (n : Nat) (hr : r.fine = true) (hn : n < 65536) :
    Calls Tryz.prog 30 #[.pointer (some ⟨A.l, 0, none⟩), .int .i64 (n : Int), .agg r.cells.toArray] w fun e w' => e = .returned (.string (str (r.page n))) ∧ Below w.heap.size w w' := by
  have HC9 : Hid (∀ u, Below w.heap.size w u → u.cell? ⟨A.l, 9, none⟩ = some (.pointer (some ⟨A.tb, 0, none⟩)) ∧ A.l < u.heap.size) := Lib.hid fun u hb => ⟨(h.step hb).c9, (h.step hb).lt⟩
  have hok := Rc.fine_ok hr hn
  have HPU : Hid (∀ u, Below w.heap.size w u → Calls Tryz.prog 55 #[.pointer (some ⟨A.tb, 0, none⟩), .agg (rcv r.k r.s (n : Int) r.v).toArray] u fun e u' => e = .returned (.tuple #[.string (str (r.page n)), .int .i64 0]) ∧ Below u.heap.size u u') := Lib.hid fun u hb => rec_put_yes A.tb r.k r.s (n : Int) r.v u (h.step hb).tab.tab (h.step hb).tab.lt hok
  generalize A.l = l at *
  generalize A.tb = tb at *
  generalize str (r.page n) = T at *
  obtain ⟨k, s, n0, v⟩ := r
  dsimp only at HPU
  show Calls Tryz.prog 30 #[.pointer (some ⟨l, 0, none⟩), .int .i64 (n : Int), .agg (rcv k s n0 v).toArray] w _
  obtain ⟨V0, hV0⟩ : ∃ V, rcv k s n0 v = V := ⟨_, rfl⟩
  have HS : Hid (V0.set 2 (.int .i64 (n : Int)) = rcv k s (n : Int) v) := Lib.hid (by rw [← hV0]; rfl)
  have HL : Hid (2 < V0.length) := Lib.hid (by rw [← hV0]; show 2 < 4; omega)
  rw [hV0]
  clear h hr hn hok hV0
  go_enter Tryz.func30, Tryz.ntmps30
  go_wp2_with (first
    | ((with_reducible refine wpBoxK (w := w) V0 36 ?_ ?_); rfl; intro u1 r1 b1 s1; have R1 := Lib.hid r1; have B1 := Lib.hid b1; clear r1 b1 s1)
    | ((with_reducible refine R1.out.wpStore1K 2 3 (.int .i64 (n : Int)) finfo_int HL.out (int_cells _ _) (int_one _ _) ?_ ?_); rfl; intro u2 r2 o2 s2; have R2 : Hid (Row u2 w.heap.size 36 (rcv k s (n : Int) v)) := Lib.hid (by rw [← HS.out]; exact r2); have B2 : Hid (Below w.heap.size w u2) := Lib.hid (B1.out.trans (o2.below (Nat.le_refl _) B1.out.size)); clear r2 o2 s2))
  have C92 : Hid (u2.cell? ⟨l, 9, none⟩ = some (.pointer (some ⟨tb, 0, none⟩))) := Lib.hid (HC9.out u2 B2.out).1
  have LT2 : Hid (l < u2.heap.size) := Lib.hid (HC9.out u2 B2.out).2
  refine region_invX [(0, 12), (1, 13), (2, 14), (3, 15), (4, 16), (5, 17), (6, 11), (7, 18), (8, 19), (9, 7), (10, 8)]
    (fun ii => [Is (.pointer (some ⟨l, 0, none⟩)), Is (.pointer (some ⟨l, 0, none⟩)), Is (.pointer (some ⟨l, 9, none⟩)), Is (.pointer (some ⟨tb, 0, none⟩)), Is (.agg ((rcv k s (n : Int) v)).toArray), Is (.tuple #[.string T, .int .i64 0]), Is (.tuple #[.string T, .int .i64 0]), Is (.string T), Is (.int .i64 0), Is (.string T), Is (.int .i64 0)].getD ii (Is undef))
    (fun w' => Below u2.heap.size u2 w') (by kernel_rfl) (by kernel_rfl) (by decide) (by decide) (by kernel_rfl) rfl ?monoP ((Below.refl _ _).drew) ?stepP ?finP
  case monoP =>
    intro i
    match i with
    | 0 | 1 | 2 | 3 | 4 | 5 | 6 | 7 | 8 | 9 | 10 => exact Is.monot _
    | _ + 11 => exact Is.monot _
  case stepP =>
    refine List.forall_mem_cons.2 ⟨?Ps0, List.forall_mem_cons.2 ⟨?Ps1, List.forall_mem_cons.2 ⟨?Ps2, List.forall_mem_cons.2 ⟨?Ps3, List.forall_mem_cons.2 ⟨?Ps4, List.forall_mem_cons.2 ⟨?Ps5, List.forall_mem_cons.2 ⟨?Ps6, List.forall_mem_cons.2 ⟨?Ps7, List.forall_mem_cons.2 ⟨?Ps8, List.forall_mem_cons.2 ⟨?Ps9, List.forall_mem_cons.2 ⟨?Ps10, List.forall_mem_nil _⟩⟩⟩⟩⟩⟩⟩⟩⟩⟩⟩
    case Ps0 =>
      intro u wx hg hC
      clear hC
      refine wpOp_step rfl (fun K hK => ?_)
      simp only [puts, List.foldl]
      go_simp
      exact hK _ _ ⟨rfl, rfl, hg, Below.refl _ _⟩
    case Ps1 =>
      intro u wx hg hC
      have hJ0 : u 0 = (.pointer (some ⟨l, 0, none⟩)) := hC.at 0 (by kernel_rfl)
      clear hC
      refine wpOp_step rfl (fun K hK => ?_)
      simp only [puts, List.foldl]
      go_simp
      exact hK _ _ ⟨rfl, rfl, hg, Below.refl _ _⟩
    case Ps2 =>
      intro u wx hg hC
      have hJ1 : u 1 = (.pointer (some ⟨l, 0, none⟩)) := hC.at 1 (by kernel_rfl)
      clear hC
      refine wpOp_step rfl (fun K hK => ?_)
      simp only [puts, List.foldl]
      go_simp
      exact hK _ _ ⟨rfl, rfl, hg, Below.refl _ _⟩
    case Ps3 =>
      intro u wx hg hC
      have hJ2 : u 2 = (.pointer (some ⟨l, 9, none⟩)) := hC.at 2 (by kernel_rfl)
      clear hC
      have hcl : wx.cell? ⟨l, 9, none⟩ = some (.pointer (some ⟨tb, 0, none⟩)) := (hg.cell (p := ⟨l, 9, none⟩) LT2.out).trans C92.out
      refine wpOp_step rfl (fun K hK => ?_)
      simp only [puts, List.foldl]
      go_simp
      exact hK _ _ ⟨rfl, rfl, hg, Below.refl _ _⟩
    case Ps4 =>
      intro u wx hg hC
      clear hC
      generalize hA : puts [(0, 12), (1, 13), (2, 14), (3, 15), (4, 16), (5, 17), (6, 11), (7, 18), (8, 19), (9, 7), (10, 8)] _ u = A
      have hp : A.tmps.getD 5 undef = (.pointer (some ⟨w.heap.size, 0, none⟩)) := by rw [← hA]; exact (puts_get_out u _ _ 5 (by decide)).trans (by rfl)
      have hsz : 16 < A.tmps.size := by rw [← hA]; exact puts_room u (by kernel_rfl)
      refine wpOp_step rfl (fun K hK => ?_)
      clear hA
      exact opLoadK (φ := Is (.agg ((rcv k s (n : Int) v)).toArray)) ((R2.out.step hg)) _ (fits_rec) (rfl) 16 rfl hsz hK (.tmp 5) rfl hp rfl hg
    case Ps5 =>
      intro u wx hg hC
      have hJ3 : u 3 = (.pointer (some ⟨tb, 0, none⟩)) := hC.at 3 (by kernel_rfl)
      have hJ4 : u 4 = (.agg ((rcv k s (n : Int) v)).toArray) := hC.at 4 (by kernel_rfl)
      clear hC
      refine wpOp_step rfl (fun K hK => ?_)
      simp only [puts, List.foldl]
      go_simp
      refine (HPU.out wx (B2.out.next hg)).mono ?_
      rintro e w' ⟨rfl, hb'⟩
      exact hK _ _ ⟨rfl, rfl, hg.next hb', hb'⟩
    case Ps6 =>
      intro u wx hg hC
      have hJ5 : u 5 = (.tuple #[.string T, .int .i64 0]) := hC.at 5 (by kernel_rfl)
      clear hC
      refine wpOp_step rfl (fun K hK => ?_)
      simp only [puts, List.foldl]
      go_simp
      exact hK _ _ ⟨rfl, rfl, hg, Below.refl _ _⟩
    case Ps7 =>
      intro u wx hg hC
      have hJ6 : u 6 = (.tuple #[.string T, .int .i64 0]) := hC.at 6 (by kernel_rfl)
      clear hC
      refine wpOp_step rfl (fun K hK => ?_)
      simp only [puts, List.foldl]
      go_simp
      exact hK _ _ ⟨rfl, rfl, hg, Below.refl _ _⟩
    case Ps8 =>
      intro u wx hg hC
      have hJ6 : u 6 = (.tuple #[.string T, .int .i64 0]) := hC.at 6 (by kernel_rfl)
      clear hC
      refine wpOp_step rfl (fun K hK => ?_)
      simp only [puts, List.foldl]
      go_simp
      exact hK _ _ ⟨rfl, rfl, hg, Below.refl _ _⟩
    case Ps9 =>
      intro u wx hg hC
      have hJ7 : u 7 = (.string T) := hC.at 7 (by kernel_rfl)
      clear hC
      refine wpOp_step rfl (fun K hK => ?_)
      simp only [puts, List.foldl]
      go_simp
      exact hK _ _ ⟨rfl, rfl, hg, Below.refl _ _⟩
    case Ps10 =>
      intro u wx hg hC
      have hJ8 : u 8 = (.int .i64 0) := hC.at 8 (by kernel_rfl)
      clear hC
      refine wpOp_step rfl (fun K hK => ?_)
      simp only [puts, List.foldl]
      go_simp
      exact hK _ _ ⟨rfl, rfl, hg, Below.refl _ _⟩
  case finP =>
    intro u ux hux hφ
    have e7 : u 9 = .string T := hφ (9, 7) (by decide)
    clear hφ
    simp only [puts, List.foldl]
    rw [e7]
    go_simp
    go_wp2
    go_ret
    exact ⟨rfl, B2.out.next hux⟩

section
variable {P : Program}
theorem Bytes.wpStore1 {ops : Array Oper} {rest : List Oper} {o : Oper} {a : Act} {w : World} {Q : Exit → Act → World → Prop} {g : Nat} {l : List UInt8} (h : Bytes w g l) (i : Nat) (ty : TypeId) (b : UInt8) (hf : (P.info? ty).map (·.size) = some 1) (hi : i < l.length)
    (ho : storeOf o a = some (ty, .pointer (some ⟨g, i, none⟩), .int .u8 (b.toNat : Int)))
    (k : ∀ w', Bytes w' g (l.set i b) → Only g w w' → w'.heap.size = w.heap.size → wpList P ops Q rest (a.put o.dst undef) w') : wpList P ops Q (o :: rest) a w := by
  obtain ⟨hg, x, y, ho, hx, hy⟩ := storeOf_spec ho
  have hc : w.cell? ⟨g, i, none⟩ = some (.int .u8 (l[i].toNat : Int)) := h.cell i hi
  have hr := run_storeCells_cells (P := P) g i [.int .u8 (b.toNat : Int)] 0 w (fun j hj => by
    have : j = 0 := by simpa using hj
    subst this
    simpa using by rw [hc]; rfl) (fun j hj => by
    have : j = 0 := by simpa using hj
    subst this
    simpa using h.frozen i hi) (fun u hu => by
    have : u = .int .u8 (b.toNat : Int) := by simpa using hu
    rw [this]; rfl)
  refine wpList_plain hg fun K hK => ?_
  cases hq : P.info? ty with
  | none => simp [hq] at hf
  | some ie =>
    have hs : ie.size = 1 := by simpa [hq] using hf
    unfold Oper.wp execOp
    simp only [ho, hx, hy, Instr.storeAt, Instr.sureAddr, Sem.run_bind, Sem.run_pure, Result.andThen_ok, storeVar, int_cells, sizeOf, typeInfo]
    simp only [Nat.add_zero, World.setCells] at hr
    simp [hq, hs, hr]
    exact hK _ _ (k _ (h.set i b hi) ((Only.refl g w).setCell ⟨g, i, none⟩ _ (Or.inl rfl)) (by simp [World.setCell]))
end
theorem Bytes.only {w w' : World} {g k : Nat} {l : List UInt8} (h : Bytes w g l) (ho : Only k w w') (hne : g ≠ k) : Bytes w' g l := by
  obtain ⟨cs, T, lo, hi, hh, hf, hc⟩ := h
  exact ⟨cs, T, lo, hi, (ho.2.2.2.2 g (Array.getElem?_eq_some_iff.1 hh).1 hne).trans hh, hf, hc⟩
def bothF (on first : List UInt8) : List UInt8 := prog on 0 first.length (fP first)
set_option maxHeartbeats 1000000 in
theorem log_both_any (on first : ByteArray) (w : World) (h1 : first.size ≤ on.size) (h2 : on.size ≤ 100000) :
    Calls Tryz.prog 59 #[.string on, .string first] w fun e w' => e = .returned (.string (str (bothF on.data.toList first.data.toList))) ∧ Below w.heap.size w w' := by
  obtain ⟨uc, cap, hconv, hby, hbc⟩ := conv_new on w
  obtain ⟨g, hg⟩ : ∃ g, w.heap.size = g := ⟨_, rfl⟩
  obtain ⟨C, hC⟩ : ∃ C, on.data.toList = C := ⟨_, rfl⟩
  have hCl : C.length = on.size := by rw [← hC, size_list]
  obtain ⟨n, hn⟩ : ∃ n, first.size = n := ⟨_, rfl⟩
  have hfl : first.data.toList.length = n := by rw [size_list, hn]
  rw [hC] at hby ⊢
  rw [hg] at hconv hby
  have HBC := Lib.hid hbc
  have HG := Lib.hid hg
  have HPZ : Hid (Bytes uc g (prog C 0 0 (fP first.data.toList))) := Lib.hid (by rw [prog_zero]; exact hby)
  have HCL := Lib.hid hCl
  have HCV : Hid (∀ u, Bytes u g (prog C 0 n (fP first.data.toList)) → (convert 76 9 (.slice (some ⟨g, 0, none⟩) on.size cap)).run Tryz.prog u = .ok (.string (str (prog C 0 n (fP first.data.toList)))) u) := Lib.hid fun u hu => hu.conv (by rw [prog_length, hCl])
  have HFN : Hid (bothF C first.data.toList = prog C 0 n (fP first.data.toList)) := Lib.hid (by unfold bothF; rw [hfl])
  have HGET : Hid (∀ k (hk : k < first.size), first.data.toList.getD k 0 = first[k]) := Lib.hid fun k hk => by
    rw [List.getD_eq_getElem?_getD, List.getElem?_eq_getElem (by rw [size_list]; exact hk)]; rfl
  have hnon : Hid (n ≤ on.size) := Lib.hid (by omega)
  have honI : (on.size : Int) ≤ 100000 := by omega
  have HNN := Lib.hid hn
  clear hbc hby hC hg hCl hfl h1 h2
  go_enter Tryz.func59, Tryz.ntmps59
  go_wp2
  go_loopw [11] (fun i wr => ∃ k : Nat, k ≤ n ∧ i = .int .i64 k ∧ Bytes wr g (prog C 0 k (fP first.data.toList)) ∧ Below w.heap.size w wr) (fun i _ => n - (intOf i).toNat)
  case atStart => exact ⟨0, Nat.zero_le _, rfl, HPZ.out, HBC.out⟩
  case round =>
    clear HPZ HBC hconv
    obtain ⟨k, hk, rfl, hby, hbw⟩ := hrel
    have HBY := Lib.hid hby
    have HBW := Lib.hid hbw
    clear hby hbw
    by_cases hlt : k < n
    · have e1 : (k : Int) < (n : Int) := by omega
      have hks : k < first.size := by rw [HNN.out]; exact hlt
      have hksI : (k : Int) < (first.size : Int) := by omega
      have hkon : (k : Int) < (on.size : Int) := by have := hnon.out; omega
      have hkC : k < C.length := by rw [HCL.out]; have := hnon.out; omega
      have hkP : k < (prog C 0 k (fP first.data.toList)).length := by rw [prog_length]; exact hkC
      have hx0 := HBY.out.cell k hkP
      have hpa : (prog C 0 k (fP first.data.toList))[k] = C[k] := by
        have := prog_at C 0 k (fP first.data.toList) (by omega)
        simpa using this
      rw [hpa] at hx0
      obtain ⟨x, hx⟩ : ∃ x, C[k] = x := ⟨_, rfl⟩
      rw [hx] at hx0
      have hst : (prog C 0 k (fP first.data.toList)).set k (x &&& first[k]) = prog C 0 (k + 1) (fP first.data.toList) := by
        have := prog_step C 0 k (fP first.data.toList) (by omega)
        simp only [Nat.zero_add] at this
        rw [hx, fP, HGET.out k hks] at this
        exact this
      have hor := u8_and x first[k]
      have HST := Lib.hid hst
      have HKP := Lib.hid hkP
      have R0 : Hid (Bytes wr.drew g (prog C 0 k (fP first.data.toList))) := Lib.hid HBY.out.drew
      have B0 : Hid (Below w.heap.size w wr.drew) := Lib.hid (HBW.out.drewN 1)
      clear hpa hx hst hkC hkP HGET
      go_wp2
      go_still_tail 9, (by kernel_rfl)
      change wpList _ _ _ _ _ wr.drew
      generalize wr.drew = wq at *
      go_wp2_with ((with_reducible refine R0.out.wpStore1 k 5 (x &&& first[k]) finfo_byte HKP.out ?_ ?_); rfl; intro w1 r1 o1 s1; have R1 : Hid (Bytes w1 g (prog C 0 (k + 1) (fP first.data.toList))) := Lib.hid (by rw [← HST.out]; exact r1); have B1 : Hid (Below w.heap.size w w1) := Lib.hid (B0.out.trans (o1.below (Nat.le_of_eq HG.out) B0.out.size)); clear r1 o1 s1)
      go_roundw
      case rel => exact ⟨k + 1, by omega, by go_num, R1.out, B1.out⟩
      case measure => simp [intOf]; omega
    · have hke : k = n := by omega
      have hk2 : ¬ (k : Int) < (n : Int) := by omega
      rw [hke] at HBY
      have hcv := HCV.out wr HBY.out
      clear hke HCV
      go_wp2
      go_ret
      exact ⟨ret_str (by rw [HFN.out]), HBW.out⟩
theorem both_blank {P : List UInt8} (h : P.length = 16) : bothF ff P = P := by
  unfold bothF
  apply List.ext_getElem (by rw [prog_length, h]; rfl)
  intro i h1 h2
  rw [prog_get _ _ _ _ _ (by rw [← prog_length]; exact h1), if_pos (by omega)]
  have : ff[i]'(by rw [← prog_length]; exact h1) = 255 := List.getElem_replicate _
  rw [this, fP, Nat.sub_zero, and_full, List.getD_eq_getElem?_getD, List.getElem?_eq_getElem h2]
  rfl
/-- On a blank page there is nothing but what is programmed. -/
theorem log_sound_blank (lp : Option Addr) (T : ByteArray) (w : World) :
    Calls Tryz.prog 58 #[.pointer lp, .string (str ff), .string T] w fun e w' => e = .returned (.bool true) ∧ Below w.heap.size w w' := by
  have HB : Hid (∀ u, Calls Tryz.prog 82 #[.string (str ff)] u fun e w' => e = .returned (.bool true) ∧ Below u.heap.size u w') := Lib.hid fun u => by
    have := rec_blank_any (str ff) u
    rwa [blank_is, str_list, decide_eq_true rfl] at this
  generalize str ff = X at *
  go_enter Tryz.func58, Tryz.ntmps58
  go_wp2_with (go_at_call 82; (with_reducible refine (HB.out w).mono ?_); rintro e u1 ⟨rfl, b1⟩)
  go_ret
  exact ⟨rfl, b1⟩
end Go.Proofs.YtbnjenbhpaknbaaGreat

/- What erases and programs do with pages (mathematics). -/
namespace Go.Proofs.YtbnjenbhpaknbaaGreat
open Go.RowKit CrcMath NumMath FlaMath
set_option linter.unusedVariables false

/-- The page at a place. -/
def pg (C : List UInt8) (x : Nat) : List UInt8 := (C.drop x).take 16
theorem pgs_pg (C : List UInt8) (a i : Nat) : pgs C a i = pg C (a + 16 * i) := rfl
theorem pg_length {C : List UInt8} {x : Nat} (h : x + 16 ≤ C.length) : (pg C x).length = 16 := by unfold pg; rw [List.length_take, List.length_drop]; omega
theorem pg_get {C : List UInt8} {x i : Nat} (h : x + 16 ≤ C.length) (hi : i < 16) : (pg C x)[i]'(by rw [pg_length h]; exact hi) = C[x + i]'(by omega) := by simp [pg]
theorem pg_ext {C C' : List UInt8} {x : Nat} (h : x + 16 ≤ C.length) (h' : x + 16 ≤ C'.length) (he : ∀ i (hi : i < 16), C'[x + i]'(by omega) = C[x + i]'(by omega)) : pg C' x = pg C x := by
  apply List.ext_getElem (by rw [pg_length h, pg_length h'])
  intro i h1 h2
  have hi : i < 16 := by rw [pg_length h] at h2; exact h2
  rw [pg_get h hi, pg_get h' hi, he i hi]
theorem pg_is {C P : List UInt8} {x : Nat} (h : x + 16 ≤ C.length) (hP : P.length = 16) (he : ∀ i (hi : i < 16), C[x + i]'(by omega) = P[i]) : pg C x = P := by
  apply List.ext_getElem (by rw [pg_length h, hP])
  intro i h1 h2
  have hi : i < 16 := by rw [hP] at h2; exact h2
  rw [pg_get h hi, he i hi]
/-- Pages elsewhere stay. -/
theorem pg_work {C : List UInt8} {o n r x : Nat} {f g : Nat → UInt8 → UInt8} (hr : r ≤ n) (h : x + 16 ≤ C.length) (hx : x + 16 ≤ o ∨ o + n ≤ x) : pg (FlaMath.work C o n r f g) x = pg C x :=
  pg_ext h (by rw [work_length]; exact h) fun i hi => by rw [work_get _ _ _ _ _ _ _ (by omega), if_neg (by omega), if_neg (by omega)]
theorem work_all (C : List UInt8) (o n : Nat) (f g : Nat → UInt8 → UInt8) : FlaMath.work C o n n f g = prog C o n f := by unfold FlaMath.work; rw [if_neg (Nat.lt_irrefl n)]
theorem pg_erased {C : List UInt8} {o x : Nat} (h : x + 16 ≤ C.length) (h1 : o ≤ x) (h2 : x + 16 ≤ o + 64) : pg (prog C o 64 fE) x = ff :=
  pg_is (by rw [prog_length]; exact h) rfl fun i hi => by
    rw [prog_get _ _ _ _ _ (by omega), if_pos (by omega), fE]
    exact (List.getElem_replicate _).symm
theorem pg_programmed {C P : List UInt8} {x : Nat} (h : x + 16 ≤ C.length) (hP : P.length = 16) (hb : pg C x = ff) : pg (prog C x 16 (fP P)) x = P :=
  pg_is (by rw [prog_length]; exact h) hP fun i hi => by
    have e : C[x + i]'(by omega) = 255 := by
      rw [← pg_get h hi]
      simp only [hb]
      exact List.getElem_replicate _
    rw [prog_get _ _ _ _ _ (by omega), if_pos (by omega), e, fP, and_full, Nat.add_sub_cancel_left, List.getD_eq_getElem?_getD, List.getElem?_eq_getElem (by omega)]
    rfl
/-- A device that is up, on which nothing is locked, with room for a log from sector L on. -/
structure Fit (D : Dv) (L : Nat) : Prop where
  dn : D.dn = false
  lk : ∀ i, D.L.getD i false = false
  len : D.C.length = 64 * D.L.length
  fit : L + 18 ≤ D.L.length
theorem burned_lit {D : Dv} (h : D.lit = false) : (burned D).lit = false := by unfold burned; rw [h]; exact h
/-- What an operation leaves: it is done; or it is torn, and the device is down. -/
structure Done (D D' : Dv) (C : List UInt8) : Prop where
  dn : D'.dn = false
  c : D'.C = C
  l : D'.L = D.L
  lit : D.lit = false → D'.lit = false
structure Tore (D D' : Dv) (o n : Nat) (f g : Nat → UInt8 → UInt8) : Prop where
  dn : D'.dn = true
  l : D'.L = D.L
  lit : D.lit = true
  c : ∃ r, r ≤ n ∧ D'.C = FlaMath.work D.C o n r f g
theorem Done.fit {D D' : Dv} {C : List UInt8} {L : Nat} (h : Done D D' C) (hf : Fit D L) (hc : C.length = D.C.length) : Fit D' L :=
  ⟨h.dn, by rw [h.l]; exact hf.lk, by rw [h.c, h.l, hc]; exact hf.len, by rw [h.l]; exact hf.fit⟩
theorem work_done (D : Dv) (o n : Nat) (f g : Nat → UInt8 → UInt8) (hb : burnB D = false) : Done D (workD D o n f g) (prog D.C o n f) := by
  refine ⟨?_, ?_, workD_L _ _ _ _ _, fun h => ?_⟩
  · exact hb
  · show FlaMath.work D.C o n (if burnB D then reach D.fb n else n) f g = _
    rw [hb, if_neg (by decide), work_all]
  · exact burned_lit h
theorem work_torn (D : Dv) (o n : Nat) (f g : Nat → UInt8 → UInt8) (hb : burnB D = true) : Tore D (workD D o n f g) o n f g := by
  refine ⟨hb, workD_L _ _ _ _ _, ?_, reach D.fb n, reach_le _ _, ?_⟩
  · unfold burnB at hb; cases h : D.lit with
    | true => rfl
    | false => rw [h] at hb; cases hb
  · show FlaMath.work D.C o n (if burnB D then reach D.fb n else n) f g = _
    rw [hb, if_pos rfl]
theorem era_op {D : Dv} {L : Nat} (h : Fit D L) (i : Nat) (hi : i < D.L.length) :
    (runE [((i : Int), none)] D = 0 ∧ Done D (runD [((i : Int), none)] D) (prog D.C (i * 64) 64 fE)) ∨ (runE [((i : Int), none)] D = 5 ∧ Tore D (runD [((i : Int), none)] D) (i * 64) 64 fE (gE D.fm)) := by
  rw [runE_one, runD_one]
  have hB : eraseB D (i : Int) = true := by unfold eraseB; rw [h.dn, Int.toNat_natCast, h.lk]; simp; exact hi
  have hE : opE ((i : Int), none) D = idl (burnB D) := by
    show eraseE D (i : Int) = _
    unfold eraseE
    rw [h.dn, if_neg (by decide), if_pos (by omega), Int.toNat_natCast, h.lk, if_neg (by decide)]
  have hD : opD ((i : Int), none) D = workD (worn D i) (i * 64) 64 fE (gE D.fm) := by
    show eraseD D (i : Int) = _
    unfold eraseD
    rw [if_pos hB, Int.toNat_natCast]
  rw [hE, hD]
  cases hb : burnB D with
  | false =>
    left
    have := work_done (worn D i) (i * 64) 64 fE (gE D.fm) hb
    exact ⟨rfl, this.dn, this.c, this.l, this.lit⟩
  | true =>
    right
    have := work_torn (worn D i) (i * 64) 64 fE (gE D.fm) hb
    exact ⟨rfl, this.dn, this.l, this.lit, this.c⟩
theorem pro_op {D : Dv} {L : Nat} (h : Fit D L) (x : Nat) (P : List UInt8) (hP : P.length = 16) (hx : x + 16 ≤ D.C.length) (hm : x % 16 = 0) :
    (runE [((x : Int), some P)] D = 0 ∧ Done D (runD [((x : Int), some P)] D) (prog D.C x 16 (fP P))) ∨ (runE [((x : Int), some P)] D = 5 ∧ Tore D (runD [((x : Int), some P)] D) x 16 (fP P) (gP P D.fm)) := by
  rw [runE_one, runD_one]
  have e1 : (decide ((x : Int).tmod 16 ≠ 0 ∨ P.length ≠ 16)) = false := by
    rw [decide_eq_false_iff_not]
    intro hc
    rcases hc with hc | hc
    · apply hc; rw [Int.tmod_eq_emod_of_nonneg (by omega)]; omega
    · exact hc hP
  have e2 : bey D.C.length (x : Int) 16 = false := by unfold bey; rw [decide_eq_false_iff_not]; omega
  have hB : programB D (x : Int) P = true := by
    unfold programB
    rw [h.dn, e1, e2, Int.toNat_natCast, h.lk]
    rfl
  have hE : opE ((x : Int), some P) D = idl (burnB D) := by
    show programE D (x : Int) P = _
    unfold programE
    have e1' : ¬ ((x : Int).tmod 16 ≠ 0 ∨ P.length ≠ 16) := of_decide_eq_false e1
    simp only [h.dn, Bool.false_eq_true, if_false, if_neg e1', e2, Int.toNat_natCast, h.lk]
  have hD : opD ((x : Int), some P) D = workD D x 16 (fP P) (gP P D.fm) := by
    show programD D (x : Int) P = _
    unfold programD
    rw [if_pos hB, Int.toNat_natCast]
  rw [hE, hD]
  cases hb : burnB D with
  | false => exact .inl ⟨rfl, work_done D x 16 _ _ hb⟩
  | true => exact .inr ⟨rfl, work_torn D x 16 _ _ hb⟩

/-! The log's halves. -/
/-- The pages of half h, copy c. -/
def hp (C : List UInt8) (L h c i : Nat) : List UInt8 := pgs C (atF L h c) i
theorem hp_pg (C : List UInt8) (L h c i : Nat) : hp C L h c i = pg C (atF L h c + 16 * i) := rfl
theorem atF_eq (L h c : Nat) : atF L h c = 64 * (L + h * 8 + c * 4) := by unfold atF; omega
theorem hp_room {D : Dv} {L : Nat} (h : Fit D L) {a c i : Nat} (ha : a < 2) (hc : c < 2) (hi : i < 16) : atF L a c + 16 * i + 16 ≤ D.C.length := by
  have h1 := h.len; have h2 := h.fit
  rw [atF_eq]; omega
/-- Behind j erases of half a. -/
structure Wiped (D D' : Dv) (L a j : Nat) : Prop where
  fit : Fit D' L
  l : D'.L = D.L
  lit : D.lit = false → D'.lit = false
  gone : ∀ c i, c < 2 → i < 16 → c * 4 + i / 4 < j → hp D'.C L a c i = ff
  left : ∀ c i, c < 2 → i < 16 → j ≤ c * 4 + i / 4 → hp D'.C L a c i = hp D.C L a c i
  other : ∀ b c i, b < 2 → b ≠ a → c < 2 → i < 16 → hp D'.C L b c i = hp D.C L b c i
theorem Wiped.zero {D : Dv} {L : Nat} (h : Fit D L) (a : Nat) : Wiped D D L a 0 :=
  ⟨h, rfl, id, fun _ _ _ _ h => absurd h (Nat.not_lt_zero _), fun _ _ _ _ _ => rfl, fun _ _ _ _ _ _ _ => rfl⟩
theorem Done.len {D D' : Dv} {o n : Nat} {f : Nat → UInt8 → UInt8} (h : Done D D' (prog D.C o n f)) : D'.C.length = D.C.length := by rw [h.c, prog_length]
theorem Wiped.succ {D D' D2 : Dv} {L a j : Nat} (h : Wiped D D' L a j) (ha : a < 2) (hj : j < 8) (hd : Done D' D2 (prog D'.C ((L + a * 8 + j) * 64) 64 fE)) : Wiped D D2 L a (j + 1) := by
  have hw : ∀ x, x + 16 ≤ D'.C.length → (x + 16 ≤ (L + a * 8 + j) * 64 ∨ (L + a * 8 + j) * 64 + 64 ≤ x) → pg D2.C x = pg D'.C x := fun x h1 h2 => by
    rw [hd.c, ← work_all _ _ _ _ fE]
    exact pg_work (Nat.le_refl _) h1 h2
  refine ⟨hd.fit h.fit (by rw [prog_length]), hd.l.trans h.l, fun hl => hd.lit (h.lit hl), fun c i hc hi hlt => ?_, fun c i hc hi hle => ?_, fun b c i hb hne hc hi => ?_⟩
  · have hr := hp_room h.fit ha hc hi
    by_cases e : c * 4 + i / 4 = j
    · rw [hp_pg, hd.c]
      exact pg_erased hr (by rw [atF_eq]; omega) (by rw [atF_eq]; omega)
    · rw [← h.gone c i hc hi (by omega), hp_pg, hp_pg]
      exact hw _ hr (by rw [atF_eq]; omega)
  · have hr := hp_room h.fit ha hc hi
    rw [← h.left c i hc hi (by omega), hp_pg, hp_pg]
    exact hw _ hr (by rw [atF_eq]; omega)
  · have hr := hp_room h.fit hb hc hi
    rw [← h.other b c i hb hne hc hi, hp_pg, hp_pg]
    exact hw _ hr (by rw [atF_eq]; omega)
theorem wiped_run {D : Dv} {L a : Nat} (h : Fit D L) (ha : a < 2) : ∀ j, j ≤ 8 → runE (seqF j (eraOp L a)) D = 0 → Wiped D (runD (seqF j (eraOp L a)) D) L a j
  | 0, _, _ => Wiped.zero h a
  | j + 1, hj, hz => by
    rw [seqF_succ] at hz ⊢
    obtain ⟨e1, e2⟩ := run_append (seqF j (eraOp L a)) (eraOp L a j) D
    by_cases h0 : runE (seqF j (eraOp L a)) D = 0
    · have ih := wiped_run h ha j (by omega) h0
      rw [e1, if_pos h0] at hz
      rw [e2, if_pos h0]
      rcases era_op ih.fit (L + a * 8 + j) (by have := ih.fit.fit; omega) with ⟨_, g2⟩ | ⟨g1, _⟩
      · exact ih.succ ha (by omega) g2
      · exact absurd (g1.symm.trans (show runE [(((L + a * 8 + j : Nat) : Int), none)] _ = 0 from hz)) (by decide)
    · rw [e1, if_neg h0] at hz; exact absurd hz h0
/-- An unlit device does all. -/
theorem wipe_unlit {D : Dv} {L a : Nat} (h : Fit D L) (hl : D.lit = false) (ha : a < 2) : ∀ j, j ≤ 8 → runE (seqF j (eraOp L a)) D = 0
  | 0, _ => rfl
  | j + 1, hj => by
    have h0 := wipe_unlit h hl ha j (by omega)
    have ih := wiped_run h ha j (by omega) h0
    rw [seqF_succ, (run_append _ _ _).1, if_pos h0]
    rcases era_op ih.fit (L + a * 8 + j) (by have := ih.fit.fit; omega) with ⟨g1, _⟩ | ⟨_, g2⟩
    · exact g1
    · have := g2.lit; rw [ih.lit hl] at this; cases this

/-- Behind a page that was laid in j copies, of half a, page n. -/
structure Laid (D D' : Dv) (L a n : Nat) (P : List UInt8) (j : Nat) : Prop where
  fit : Fit D' L
  l : D'.L = D.L
  lit : D.lit = false → D'.lit = false
  page : ∀ c, c < 2 → c < j → hp D'.C L a c n = P
  left : ∀ c, c < 2 → j ≤ c → hp D'.C L a c n = hp D.C L a c n
  pages : ∀ c i, c < 2 → i < 16 → i ≠ n → hp D'.C L a c i = hp D.C L a c i
  other : ∀ b c i, b < 2 → b ≠ a → c < 2 → i < 16 → hp D'.C L b c i = hp D.C L b c i
theorem Laid.zero {D : Dv} {L : Nat} (h : Fit D L) (a n : Nat) (P : List UInt8) : Laid D D L a n P 0 :=
  ⟨h, rfl, id, fun _ _ h => absurd h (Nat.not_lt_zero _), fun _ _ _ => rfl, fun _ _ _ _ _ => rfl, fun _ _ _ _ _ _ _ => rfl⟩
theorem Laid.succ {D D' D2 : Dv} {L a n j : Nat} {P : List UInt8} (h : Laid D D' L a n P j) (ha : a < 2) (hn : n < 16) (hP : P.length = 16) (hj : j < 2) (hb : hp D.C L a j n = ff) (hd : Done D' D2 (prog D'.C (atF L a j + 16 * n) 16 (fP P))) : Laid D D2 L a n P (j + 1) := by
  have hw : ∀ x, x + 16 ≤ D'.C.length → (x + 16 ≤ atF L a j + 16 * n ∨ atF L a j + 16 * n + 16 ≤ x) → pg D2.C x = pg D'.C x := fun x h1 h2 => by
    rw [hd.c, ← work_all _ _ _ _ fE]
    exact pg_work (Nat.le_refl _) h1 h2
  refine ⟨hd.fit h.fit (by rw [prog_length]), hd.l.trans h.l, fun hl => hd.lit (h.lit hl), fun c hc hlt => ?_, fun c hc hle => ?_, fun c i hc hi hne => ?_, fun b c i hb2 hne hc hi => ?_⟩
  · have hr := hp_room h.fit ha hc hn
    by_cases e : c = j
    · subst e
      rw [hp_pg, hd.c]
      refine pg_programmed hr hP ?_
      rw [← hp_pg, h.left c hc (Nat.le_refl _)]
      exact hb
    · rw [← h.page c hc (by omega), hp_pg, hp_pg]
      exact hw _ hr (by rw [atF_eq, atF_eq]; omega)
  · have hr := hp_room h.fit ha hc hn
    rw [← h.left c hc (by omega), hp_pg, hp_pg]
    exact hw _ hr (by rw [atF_eq, atF_eq]; omega)
  · have hr := hp_room h.fit ha hc hi
    rw [← h.pages c i hc hi hne, hp_pg, hp_pg]
    exact hw _ hr (by rw [atF_eq, atF_eq]; omega)
  · have hr := hp_room h.fit hb2 hc hi
    rw [← h.other b c i hb2 hne hc hi, hp_pg, hp_pg]
    exact hw _ hr (by rw [atF_eq, atF_eq]; omega)
theorem laid_run {D : Dv} {L a n : Nat} {P : List UInt8} (h : Fit D L) (ha : a < 2) (hn : n < 16) (hP : P.length = 16) (hb : ∀ c, c < 2 → hp D.C L a c n = ff) : ∀ j, j ≤ 2 → runE (seqF j (layOp L a n P)) D = 0 → Laid D (runD (seqF j (layOp L a n P)) D) L a n P j
  | 0, _, _ => Laid.zero h a n P
  | j + 1, hj, hz => by
    rw [seqF_succ] at hz ⊢
    obtain ⟨e1, e2⟩ := run_append (seqF j (layOp L a n P)) (layOp L a n P j) D
    by_cases h0 : runE (seqF j (layOp L a n P)) D = 0
    · have ih := laid_run h ha hn hP hb j (by omega) h0
      rw [e1, if_pos h0] at hz
      rw [e2, if_pos h0]
      rcases pro_op ih.fit (atF L a j + 16 * n) P hP (hp_room ih.fit ha (by omega) hn) (by rw [atF_eq]; omega) with ⟨_, g2⟩ | ⟨g1, _⟩
      · exact ih.succ ha hn hP (by omega) (hb j (by omega)) g2
      · exact absurd (g1.symm.trans (show runE [(((atF L a j + 16 * n : Nat) : Int), some P)] _ = 0 from hz)) (by decide)
    · rw [e1, if_neg h0] at hz; exact absurd hz h0
theorem lay_unlit {D : Dv} {L a n : Nat} {P : List UInt8} (h : Fit D L) (hl : D.lit = false) (ha : a < 2) (hn : n < 16) (hP : P.length = 16) (hb : ∀ c, c < 2 → hp D.C L a c n = ff) : ∀ j, j ≤ 2 → runE (seqF j (layOp L a n P)) D = 0
  | 0, _ => rfl
  | j + 1, hj => by
    have h0 := lay_unlit h hl ha hn hP hb j (by omega)
    have ih := laid_run h ha hn hP hb j (by omega) h0
    rw [seqF_succ, (run_append _ _ _).1, if_pos h0]
    rcases pro_op ih.fit (atF L a j + 16 * n) P hP (hp_room ih.fit ha (by omega) hn) (by rw [atF_eq]; omega) with ⟨g1, _⟩ | ⟨_, g2⟩
    · exact g1
    · have := g2.lit; rw [ih.lit hl] at this; cases this

/-- Half a holds just the pages of these records. -/
def HalfIs (C : List UInt8) (L a : Nat) (l : List Rc) : Prop := ∀ c i, c < 2 → i < 16 → hp C L a c i = if h : i < l.length then (l[i]).page i else ff
/-- Behind k pages of a half that was filled. -/
structure Filled (D D' : Dv) (L a : Nat) (l : List Rc) : Prop where
  fit : Fit D' L
  dl : D'.L = D.L
  lit : D.lit = false → D'.lit = false
  half : HalfIs D'.C L a l
  other : ∀ b c i, b < 2 → b ≠ a → c < 2 → i < 16 → hp D'.C L b c i = hp D.C L b c i
theorem Filled.snoc {D D' D2 : Dv} {L a : Nat} {l : List Rc} {r : Rc} (h : Filled D D' L a l) (hl : l.length < 16) (hd : Laid D' D2 L a l.length (r.page l.length) 2) : Filled D D2 L a (l ++ [r]) := by
  refine ⟨hd.fit, hd.l.trans h.dl, fun hl => hd.lit (h.lit hl), fun c i hc hi => ?_, fun b c i hb hne hc hi => (hd.other b c i hb hne hc hi).trans (h.other b c i hb hne hc hi)⟩
  by_cases e : i = l.length
  · subst e
    rw [dif_pos (by simp), hd.page c hc hc]
    simp
  · rw [hd.pages c i hc hi e, h.half c i hc hi]
    by_cases hlt : i < l.length
    · rw [dif_pos hlt, dif_pos (by simp; omega), List.getElem_append_left hlt]
    · rw [dif_neg hlt, dif_neg (by simp; omega)]
theorem Filled.blank {D D' : Dv} {L a : Nat} {l : List Rc} (h : Filled D D' L a l) (hl : l.length < 16) : ∀ c, c < 2 → hp D'.C L a c l.length = ff := fun c hc => by
  rw [h.half c l.length hc hl, dif_neg (Nat.lt_irrefl _)]
theorem filled_run {D : Dv} {L a : Nat} (h : Fit D L) (ha : a < 2) (l : List Rc) (hn : l.length ≤ 16) : ∀ k, k ≤ l.length → runE (wipeF L a ++ seqF k (fillP L a l)) D = 0 → Filled D (runD (wipeF L a ++ seqF k (fillP L a l)) D) L a (l.take k)
  | 0, _, hz => by
    rw [seqF_zero, List.append_nil] at hz ⊢
    have hw := wiped_run h ha 8 (Nat.le_refl _) hz
    refine ⟨hw.fit, hw.l, hw.lit, fun c i hc hi => ?_, hw.other⟩
    rw [List.take_zero, dif_neg (by simp)]
    exact hw.gone c i hc hi (by omega)
  | k + 1, hk, hz => by
    rw [seqF_succ, ← List.append_assoc] at hz ⊢
    obtain ⟨e1, e2⟩ := run_append (wipeF L a ++ seqF k (fillP L a l)) (fillP L a l k) D
    by_cases h0 : runE (wipeF L a ++ seqF k (fillP L a l)) D = 0
    · have ih := filled_run h ha l hn k (by omega) h0
      have hlk : (l.take k).length = k := by rw [List.length_take]; omega
      rw [e1, if_pos h0] at hz
      rw [e2, if_pos h0]
      have hb := ih.blank (by rw [hlk]; omega)
      rw [hlk] at hb
      have hp2 : fillP L a l k = seqF 2 (layOp L a k ((l[k]).page k)) := by
        unfold fillP layP
        rw [List.getD_eq_getElem?_getD, List.getElem?_eq_getElem (by omega)]; rfl
      rw [hp2] at hz ⊢
      have hla := laid_run ih.fit ha (by omega) (Rc.page_length _ _) hb 2 (Nat.le_refl _) hz
      have := ih.snoc (r := l[k]) (by rw [hlk]; omega) (by rw [hlk]; exact hla)
      rwa [← List.take_succ_eq_append_getElem] at this
    · rw [e1, if_neg h0] at hz; exact absurd hz h0
theorem fill_unlit {D : Dv} {L a : Nat} (h : Fit D L) (hl : D.lit = false) (ha : a < 2) (l : List Rc) (hn : l.length ≤ 16) : ∀ k, k ≤ l.length → runE (wipeF L a ++ seqF k (fillP L a l)) D = 0
  | 0, _ => by rw [seqF_zero, List.append_nil]; exact wipe_unlit h hl ha 8 (Nat.le_refl _)
  | k + 1, hk => by
    have h0 := fill_unlit h hl ha l hn k (by omega)
    have ih := filled_run h ha l hn k (by omega) h0
    have hlk : (l.take k).length = k := by rw [List.length_take]; omega
    have hb := ih.blank (by rw [hlk]; omega)
    rw [hlk] at hb
    have hp2 : fillP L a l k = seqF 2 (layOp L a k ((l[k]).page k)) := by
      unfold fillP layP
      rw [List.getD_eq_getElem?_getD, List.getElem?_eq_getElem (by omega)]; rfl
    rw [seqF_succ, ← List.append_assoc, (run_append _ _ _).1, if_pos h0, hp2]
    exact lay_unlit ih.fit (ih.lit hl) ha (by omega) (Rc.page_length _ _) hb 2 (Nat.le_refl _)
/-- A half that was filled. -/
theorem fill_all {D : Dv} {L a : Nat} (h : Fit D L) (ha : a < 2) (l : List Rc) (hn : l.length ≤ 16) (hz : runE (fillF L a l) D = 0) : Filled D (runD (fillF L a l) D) L a l := by
  have := filled_run h ha l hn l.length (Nat.le_refl _) hz
  rwa [List.take_length] at this
theorem HalfIs.stands {C : List UInt8} {L a : Nat} {l : List Rc} (h : HalfIs C L a l) (hl : l.length ≤ 16) : Stands (pgs C (atF L a 0)) (pgs C (atF L a 1)) l :=
  ⟨hl, fun i hi => h 0 i (by omega) hi, fun i hi => h 1 i (by omega) hi⟩
/-- What is read of a half in which a log stands. -/
theorem HalfIs.look {C : List UInt8} {L a : Nat} {g : Int} {base later : List Rc} (h : HalfIs C L a (allR g base later)) (hl : base.length + later.length + 2 ≤ 16) (hg : gOk g) (hb : ∀ r ∈ base, r.may = true) (hm : ∀ r ∈ later, r.may = true) :
    lookF C L a = ⟨a, g, bares (base ++ later), base.length + later.length + 2, true⟩ := (h.stands (by rw [allR_length]; omega)).half hg hb hm a
end Go.Proofs.YtbnjenbhpaknbaaGreat
