import Derived.Test.YtojimgbcghiblaaGreatDoorL8
set_option linter.unusedVariables false
set_option maxRecDepth 100000
set_option maxHeartbeats 8000000
namespace Go.Proofs.YtojimgbcghiblaaGreatDoor
section
open Go.RowKit FlaMath CrcMath GfMath PolyMath RsMath SolMath GeoMath HeadMath NumMath
theorem Row.resultT4 {w : World} {g : Nat} {t : TypeId} {l : List Value} (h : Row w g t l) {fn : Func} {p q q2 q3 : Tmp} {ty : TypeId} (hf : fn.results = #[.cell p ty, .tmp q, .tmp q2, .tmp q3]) (tmps : Array Value) (d : TypeDesc)
  (hp : tmps.getD p undef = .pointer (some ⟨g, 0, none⟩)) (hu : Tryz.prog.underlying ty = some d) (hd : d.isRow = true) (hi : (Tryz.prog.info? ty).map (·.size) = some l.length) :
  (results fn tmps).run Tryz.prog w = .ok (.tuple #[.agg l.toArray, tmps.getD q undef, tmps.getD q2 undef, tmps.getD q3 undef]) w := by
 have hp' : tmps[p]?.getD undef = .pointer (some ⟨g, 0, none⟩) := by simpa using hp
 have := run_loadVar_row (P := Tryz.prog) w g t ty l.toArray (0, 0) d h hu (by cases d <;> simp_all) (by simpa using hi)
 simp [results, hf, hp', asAddr, this]
theorem Glob.onl {w w' : World} {S : List Nat} (h : Glob w) (ho : Onl S w w') (hs : ∀ k ∈ S, 2 < k) : Glob w' := by
 have hb : Below (2 + 1) w w' := ho.below (fun k hk => hs k hk) h.size
 exact ⟨Nat.le_trans h.size hb.size, fun i hi => (hb.cell (p := ⟨1, i, none⟩) (by show 1 < _; omega)).trans (h.first i hi), fun i hi => (hb.cell (p := ⟨2, i, none⟩) (by show 2 < _; omega)).trans (h.roots i hi)⟩
theorem zbot (wB : World) (A : ArD) (w : World) (D : Dv) (h : Are wB A w D) (hu : Up D) (slot : Nat) (hs : slot < 3) (T : ByteArray) (W E : Int) (hT : TxtIs D A slot T W E) (hE : E = 0) (hTz : T.size <= 140737488355328) (V : List Value) (hV : GetIs T.data.toList V 0) (hVl : V.length = 36) (hV1 : V.all (·.oneCell') = true) (nn : Nat) (hV3 : V[3]? = some (.int .i64 (nn : Int))) (hroom : room (gmN A.k A.p A.s) < (nn : Int)) :
  Calls Tryz.prog 14 #[.pointer (some ⟨A.a, 0, none⟩), .int .i64 (slot : Int)] w fun e w' => e = .returned (.tuple #[.agg (hdv 0 0 0 0 (List.replicate 32 0)).toArray, .string ByteArray.empty, .int .i64 0, .int .i64 12]) ∧ (∃ m, Are wB A w' (opsD D m)) ∧ Onl A.sh.S w w' := by
 have HZ : Hid (∀ u, (zeroValue 29).run Tryz.prog u = .ok (.agg (hdv 0 0 0 0 (List.replicate 32 0)).toArray) u) := zh zcc
 have HBZ : Hid (Tryz.prog.built 29 [] = some (hdv 0 0 0 0 (List.replicate 32 0)).toArray) := zh zex
 have LZ : Hid ((hdv 0 0 0 0 (List.replicate 32 0)).length = 36) := zh (zav _ _ _ _ _ (by simp))
 have Z1 : Hid ((hdv 0 0 0 0 (List.replicate 32 0)).all (·.oneCell') = true) := zh (zck _ _ _ _ _)
 have HSL : Hid (∀ k ∈ A.sh.S, k < w.heap.size) := zh h.dev.lt
 have GN : Hid (w.heap.size ∉ A.sh.S) := zh fun hm => by have := HSL.out _ hm; omega
 have HWB : Hid (wB.heap.size <= w.heap.size) := zh h.onl.size
 have HAR : Hid (∀ u, Below w.heap.size w u -> Are wB A u D) := zh fun u hu => h.step hu
 have HTX : Hid (∀ u, Are wB A u D -> Calls Tryz.prog 44 #[.pointer (some ⟨A.a, 0, none⟩), .int .i64 (slot : Int)] u fun e w' => e = .returned (.tuple #[.string T, .int .i64 W, .int .i64 E]) ∧ (∃ m, Are wB A w' (opsD D m)) ∧ Onl A.sh.S u w') := zh fun u h1 => zgs wB A u D h1 hu slot hs T W E hT
 have HA0 : Hid (∀ (u : World) (D' : Dv), Are wB A u D' -> u.cell? ⟨A.a, 0, none⟩ = some (.pointer (some ⟨A.c, 0, none⟩))) := zh fun u D' h1 => h1.a0
 have HAL : Hid (∀ (u : World) (D' : Dv), Are wB A u D' -> A.a < u.heap.size) := zh fun u D' h1 => h1.lt
 have HG : Hid (∀ (u : World) (D' : Dv), Are wB A u D' -> Calls Tryz.prog 46 #[.pointer (some ⟨A.c, 0, none⟩)] u fun e w' => e = .returned (.agg #[.int .i64 (A.k : Int), .int .i64 (A.p : Int), .int .i64 (A.s : Int)]) ∧ Below u.heap.size u w') := zh fun u D' h1 => h1.geoX
 have HRM : Hid (∀ u, Calls Tryz.prog 18 #[.agg #[Value.int .i64 (A.k : Int), .int .i64 (A.p : Int), .int .i64 (A.s : Int)]] u fun e w' => e = .returned (.int .i64 (room (gmN A.k A.p A.s))) ∧ Below u.heap.size u w') := zh fun u => zeo (gmN A.k A.p A.s) u
 obtain ⟨rm, hrm⟩ : ∃ r, room (gmN A.k A.p A.s) = r := ⟨_, rfl⟩
 rw [hrm] at HRM hroom
 obtain ⟨c, hc⟩ : ∃ c, A.c = c := ⟨_, rfl⟩
 obtain ⟨k, hk⟩ : ∃ k, A.k = k := ⟨_, rfl⟩
 obtain ⟨p, hp⟩ : ∃ p, A.p = p := ⟨_, rfl⟩
 obtain ⟨s, hss⟩ : ∃ s, A.s = s := ⟨_, rfl⟩
 rw [hc] at HG HA0
 rw [hk, hp, hss] at HG HRM
 have HGT : Hid (∀ u, Calls Tryz.prog 45 #[.string T] u fun e w' => e = .returned (.tuple #[.agg V.toArray, .int .i64 0]) ∧ Below u.heap.size u w') := zh fun u => zgv T T.data.toList V 0 u rfl hTz hV
 obtain ⟨Z, hZZ⟩ : ∃ Z, hdv 0 0 0 0 (List.replicate 32 0) = Z := ⟨_, rfl⟩
 rw [hZZ] at HZ HBZ LZ Z1 ⊢
 have LV := zh hVl
 have V1 := zh hV1
 have HV3 := zh hV3
 subst hE
 obtain ⟨a, ha⟩ : ∃ a, A.a = a := ⟨_, rfl⟩
 rw [ha] at HTX HA0 HAL ⊢
 clear h hu hs hT ha hc hk hp hss hZZ hV hTz hVl hV1 hV3 hrm
 go_enter Tryz.func14, Tryz.ntmps14
 go_wp2_with (first
  | ((with_reducible refine wpAllocK (w := w) Z 29 HZ.out ?_ ?_); rfl; intro u1 r1 b1 s1; have R1 := zh r1; have B1 := zh b1; clear r1 b1 s1)
  | (go_at_call 44; (with_reducible refine (HTX.out u1 (HAR.out u1 B1.out)).mono ?_); rintro e u2 ⟨rfl, ⟨m, a2⟩, o2⟩; have A2 := zh a2; have O2 := zh ((Onl.of_below B1.out).trans o2); have R2 := zh (R1.out.onl o2 GN.out); clear a2 o2)
  | (go_at_call 45; (with_reducible refine (HGT.out u2).mono ?_); rintro e u3 ⟨rfl, b3⟩; have A3 := zh (A2.out.step b3); have O3 := zh (O2.out.step b3); have R3 := zh (R2.out.step b3); clear b3)
  | ((with_reducible refine wpAllocK (w := u3) Z 29 HZ.out ?_ ?_); rfl; intro u4 r4 b4 s4; have K4 := zh r4; have R4 := zh (R3.out.step b4); have A4 := zh (A3.out.step b4); have O4 := zh (O3.out.step b4); have N4 : Hid (u3.heap.size ∉ A.sh.S) := zh (fun hm => by have := HSL.out _ hm; have := O3.out.size; omega); clear r4 b4 s4)
  | ((with_reducible refine K4.out.wpStoreK 29 V fits_head LZ.out LV.out V1.out ?_ ?_); rfl; intro u5 r5 o5 s5; have K5 := zh r5; have R5 := zh (R4.out.only o5 (by have := R3.out.lt; omega)); have A5 := zh (A4.out.only o5 (Nat.le_trans HWB.out O3.out.size) N4.out); have O5 := zh (O4.out.only o5 (Or.inr O3.out.size)); have NG : Hid (w.heap.size ≠ u3.heap.size) := zh (by have := R3.out.lt; omega); clear r5 o5 s5))
 obtain ⟨g4, hg4⟩ : ∃ g, u3.heap.size = g := ⟨_, rfl⟩
 rw [hg4] at K5 NG ⊢
 have LF5 : Hid (g4 < u5.heap.size) := zh K5.out.lt
 have F53 : Hid (u5.cell? ⟨g4, 3, none⟩ = some (.int .i64 (nn : Int))) := zh ((K5.out.cell 3).trans HV3.out)
 have C5 := zh (HA0.out u5 _ A5.out)
 have LA5 := zh (HAL.out u5 _ A5.out)
 clear hg4 R1 R2 R3 R4 A2 A3 A4 O2 O3 O4 K4 N4 B1
 refine zaj [(0, 33), (1, 34), (2, 35), (3, 36), (4, 37), (5, 38), (6, 39), (7, 40), (8, 41)]
  (fun ii => [Is (.pointer (some ⟨g4, 3, none⟩)), Is (.int .i64 (nn : Int)), Is (.pointer (some ⟨a, 0, none⟩)), Is (.pointer (some ⟨a, 0, none⟩)), Is (.pointer (some ⟨a, 0, none⟩)), Is (.pointer (some ⟨c, 0, none⟩)), Is (.agg #[Value.int .i64 (k : Int), .int .i64 (p : Int), .int .i64 (s : Int)]), Is (.int .i64 rm), Is (.bool true)].getD ii (Is undef))
  (fun w' => Below u5.heap.size u5 w') (by kernel_rfl) (by kernel_rfl) (by decide) (by decide) (by kernel_rfl) rfl ?monoq ((zb).drew) ?stepq ?finq
 case monoq =>
  intro i
  match i with
  | 0 | 1 | 2 | 3 | 4 | 5 | 6 | 7 | 8 => exact Is.monot _
  | _ + 9 => exact Is.monot _
 case stepq =>
  refine zf ⟨?qs0, zf ⟨?qs1, zf ⟨?qs2, zf ⟨?qs3, zf ⟨?qs4, zf ⟨?qs5, zf ⟨?qs6, zf ⟨?qs7, zf ⟨?qs8, List.forall_mem_nil _⟩⟩⟩⟩⟩⟩⟩⟩⟩
  case qs0 | qs2 =>
   intro u wx hg hC; clear hC; refine wpOp_step rfl fun K hK => ?_
   simp only [puts, List.foldl]; go_simp; exact zK hK hg
  case qs1 =>
   intro u wx hg hC; have hJ0 := zj hC 0; clear hC
   have hcl : wx.cell? ⟨g4, 3, none⟩ = some (.int .i64 (nn : Int)) := (hg.cell (p := ⟨g4, 3, none⟩) LF5.out).trans F53.out
   refine wpOp_step rfl fun K hK => ?_
   simp only [puts, List.foldl]; go_simp; exact zK hK hg
  case qs3 =>
   intro u wx hg hC; have hJ2 := zj hC 2; clear hC; refine wpOp_step rfl fun K hK => ?_
   simp only [puts, List.foldl]; go_simp; exact zK hK hg
  case qs4 =>
   intro u wx hg hC; have hJ3 := zj hC 3; clear hC; refine wpOp_step rfl fun K hK => ?_
   simp only [puts, List.foldl]; go_simp; exact zK hK hg
  case qs5 =>
   intro u wx hg hC; have hJ4 := zj hC 4; clear hC
   have hcl : wx.cell? ⟨a, 0, none⟩ = some (.pointer (some ⟨c, 0, none⟩)) := (hg.cell (p := ⟨a, 0, none⟩) LA5.out).trans C5.out
   refine wpOp_step rfl fun K hK => ?_
   simp only [puts, List.foldl]; go_simp; exact zK hK hg
  case qs6 =>
   intro u wx hg hC; have hJ5 := zj hC 5; clear hC; refine wpOp_step rfl fun K hK => ?_
   simp only [puts, List.foldl]; go_simp
   refine (HG.out wx _ (A5.out.step hg)).mono ?_
   rintro e w' ⟨rfl, hb'⟩
   exact hK _ _ ⟨rfl, rfl, hg.next hb', hb'⟩
  case qs7 =>
   intro u wx hg hC; have hJ6 := zj hC 6; clear hC; refine wpOp_step rfl fun K hK => ?_
   simp only [puts, List.foldl]; go_simp
   refine (HRM.out wx).mono ?_
   rintro e w' ⟨rfl, hb'⟩
   exact hK _ _ ⟨rfl, rfl, hg.next hb', hb'⟩
  case qs8 =>
   intro u wx hg hC; have hJ1 := zj hC 1; have hJ7 := zj hC 7; clear hC; refine wpOp_step rfl fun K hK => ?_
   simp only [puts, List.foldl]; go_simp; exact zK hK hg
 case finq =>
  intro u w6 hb6 hφ
  have e41 : u 8 = .bool true := hφ (8, 41) (by decide)
  clear hφ
  simp only [puts, List.foldl]
  rw [e41]
  go_simp
  have A6 := zh (A5.out.step hb6)
  have O6 := zh (O5.out.step hb6)
  have R6 := zh (R5.out.step hb6)
  clear hb6 e41
  go_wp2_with (first
    | ((with_reducible refine wpBuildZeroK Z 29 HBZ.out ?_ ?_); rfl)
    | ((with_reducible refine R6.out.wpStoreK 29 Z fits_head LZ.out LZ.out Z1.out ?_ ?_); rfl; intro u7 r7 o7 s7; have R7 := zh r7; have O7 := zh (O6.out.only o7 (Or.inr (Nat.le_refl _))); have A7 := zh (A6.out.only o7 HWB.out GN.out); clear r7 o7 s7))
  exact bodyPost_ret (R7.out.resultT4 rfl _ _ rfl Tryz.underlying29 rfl (by rw [LZ.out]; exact fits_head.size)) rfl ⟨rfl, ⟨_, A7.out⟩, O7.out⟩
theorem zbou (wB : World) (A : ArD) (w : World) (D : Dv) (h : Are wB A w D) (hu : Up D) (slot : Nat) (hs : slot < 3) (T : ByteArray) (W E : Int) (hT : TxtIs D A slot T W E) (hE : E = 0) (hTz : T.size <= 140737488355328) (V : List Value) (hV : GetIs T.data.toList V 0) (hVl : V.length = 36) (hV1 : V.all (·.oneCell') = true) (nn : Nat) (hV3 : V[3]? = some (.int .i64 (nn : Int))) (hroom : (nn : Int) <= room (gmN A.k A.p A.s)) (X R : ByteArray) (hX : T.extract 48 T.size = X) (hR : X.extract 0 nn = R) (h48 : 48 <= T.size) (hXn : nn <= X.size) (hg : Glob w) (hgs : ∀ k ∈ A.sh.S, 2 < k) (hm : ∀ u, Glob u -> Calls Tryz.prog 47 #[.agg V.toArray, .string R] u fun e w' => e = .returned (.bool false) ∧ Below u.heap.size u w') :
  Calls Tryz.prog 14 #[.pointer (some ⟨A.a, 0, none⟩), .int .i64 (slot : Int)] w fun e w' => e = .returned (.tuple #[.agg (hdv 0 0 0 0 (List.replicate 32 0)).toArray, .string ByteArray.empty, .int .i64 0, .int .i64 7]) ∧ (∃ m, Are wB A w' (opsD D m)) ∧ Onl A.sh.S w w' := by
 have HMT := zh hm
 have HZ : Hid (∀ u, (zeroValue 29).run Tryz.prog u = .ok (.agg (hdv 0 0 0 0 (List.replicate 32 0)).toArray) u) := zh zcc
 have HBZ : Hid (Tryz.prog.built 29 [] = some (hdv 0 0 0 0 (List.replicate 32 0)).toArray) := zh zex
 have LZ : Hid ((hdv 0 0 0 0 (List.replicate 32 0)).length = 36) := zh (zav _ _ _ _ _ (by simp))
 have Z1 : Hid ((hdv 0 0 0 0 (List.replicate 32 0)).all (·.oneCell') = true) := zh (zck _ _ _ _ _)
 have HSL : Hid (∀ k ∈ A.sh.S, k < w.heap.size) := zh h.dev.lt
 have GN : Hid (w.heap.size ∉ A.sh.S) := zh fun hm => by have := HSL.out _ hm; omega
 have HWB : Hid (wB.heap.size <= w.heap.size) := zh h.onl.size
 have HAR : Hid (∀ u, Below w.heap.size w u -> Are wB A u D) := zh fun u hu => h.step hu
 have HTX : Hid (∀ u, Are wB A u D -> Calls Tryz.prog 44 #[.pointer (some ⟨A.a, 0, none⟩), .int .i64 (slot : Int)] u fun e w' => e = .returned (.tuple #[.string T, .int .i64 W, .int .i64 E]) ∧ (∃ m, Are wB A w' (opsD D m)) ∧ Onl A.sh.S u w') := zh fun u h1 => zgs wB A u D h1 hu slot hs T W E hT
 have HA0 : Hid (∀ (u : World) (D' : Dv), Are wB A u D' -> u.cell? ⟨A.a, 0, none⟩ = some (.pointer (some ⟨A.c, 0, none⟩))) := zh fun u D' h1 => h1.a0
 have HAL : Hid (∀ (u : World) (D' : Dv), Are wB A u D' -> A.a < u.heap.size) := zh fun u D' h1 => h1.lt
 have HG : Hid (∀ (u : World) (D' : Dv), Are wB A u D' -> Calls Tryz.prog 46 #[.pointer (some ⟨A.c, 0, none⟩)] u fun e w' => e = .returned (.agg #[.int .i64 (A.k : Int), .int .i64 (A.p : Int), .int .i64 (A.s : Int)]) ∧ Below u.heap.size u w') := zh fun u D' h1 => h1.geoX
 have HRM : Hid (∀ u, Calls Tryz.prog 18 #[.agg #[Value.int .i64 (A.k : Int), .int .i64 (A.p : Int), .int .i64 (A.s : Int)]] u fun e w' => e = .returned (.int .i64 (room (gmN A.k A.p A.s))) ∧ Below u.heap.size u w') := zh fun u => zeo (gmN A.k A.p A.s) u
 obtain ⟨rm, hrm⟩ : ∃ r, room (gmN A.k A.p A.s) = r := ⟨_, rfl⟩
 rw [hrm] at HRM hroom
 obtain ⟨c, hc⟩ : ∃ c, A.c = c := ⟨_, rfl⟩
 obtain ⟨k, hk⟩ : ∃ k, A.k = k := ⟨_, rfl⟩
 obtain ⟨p, hp⟩ : ∃ p, A.p = p := ⟨_, rfl⟩
 obtain ⟨s, hss⟩ : ∃ s, A.s = s := ⟨_, rfl⟩
 rw [hc] at HG HA0
 rw [hk, hp, hss] at HG HRM
 have HGT : Hid (∀ u, Calls Tryz.prog 45 #[.string T] u fun e w' => e = .returned (.tuple #[.agg V.toArray, .int .i64 0]) ∧ Below u.heap.size u w') := zh fun u => zgv T T.data.toList V 0 u rfl hTz hV
 obtain ⟨Z, hZZ⟩ : ∃ Z, hdv 0 0 0 0 (List.replicate 32 0) = Z := ⟨_, rfl⟩
 rw [hZZ] at HZ HBZ LZ Z1 ⊢
 have LV := zh hVl
 have V1 := zh hV1
 have HV3 := zh hV3
 subst hE
 obtain ⟨a, ha⟩ : ∃ a, A.a = a := ⟨_, rfl⟩
 rw [ha] at HTX HA0 HAL ⊢
 have hnr : ¬ rm < (nn : Int) := by omega
 have hnr2 : decide (rm < (nn : Int)) = false := decide_eq_false hnr
 have HX := zh hX
 have HR := zh hR
 have H48 := zh h48
 have HXN := zh hXn
 have HGL : Hid (∀ u, Onl A.sh.S w u -> Glob u) := zh fun u ho => hg.onl ho hgs
 clear h hu hs hT ha hc hk hp hss hZZ hV hTz hVl hV1 hV3 hrm hroom hX hR h48 hXn hg hgs
 go_enter Tryz.func14, Tryz.ntmps14
 go_wp2_with (first
  | ((with_reducible refine wpAllocK (w := w) Z 29 HZ.out ?_ ?_); rfl; intro u1 r1 b1 s1; have R1 := zh r1; have B1 := zh b1; clear r1 b1 s1)
  | (go_at_call 44; (with_reducible refine (HTX.out u1 (HAR.out u1 B1.out)).mono ?_); rintro e u2 ⟨rfl, ⟨m, a2⟩, o2⟩; have A2 := zh a2; have O2 := zh ((Onl.of_below B1.out).trans o2); have R2 := zh (R1.out.onl o2 GN.out); clear a2 o2)
  | (go_at_call 45; (with_reducible refine (HGT.out u2).mono ?_); rintro e u3 ⟨rfl, b3⟩; have A3 := zh (A2.out.step b3); have O3 := zh (O2.out.step b3); have R3 := zh (R2.out.step b3); clear b3)
  | ((with_reducible refine wpAllocK (w := u3) Z 29 HZ.out ?_ ?_); rfl; intro u4 r4 b4 s4; have K4 := zh r4; have R4 := zh (R3.out.step b4); have A4 := zh (A3.out.step b4); have O4 := zh (O3.out.step b4); have N4 : Hid (u3.heap.size ∉ A.sh.S) := zh (fun hm => by have := HSL.out _ hm; have := O3.out.size; omega); clear r4 b4 s4)
  | ((with_reducible refine K4.out.wpStoreK 29 V fits_head LZ.out LV.out V1.out ?_ ?_); rfl; intro u5 r5 o5 s5; have K5 := zh r5; have R5 := zh (R4.out.only o5 (by have := R3.out.lt; omega)); have A5 := zh (A4.out.only o5 (Nat.le_trans HWB.out O3.out.size) N4.out); have O5 := zh (O4.out.only o5 (Or.inr O3.out.size)); have NG : Hid (w.heap.size ≠ u3.heap.size) := zh (by have := R3.out.lt; omega); clear r5 o5 s5))
 obtain ⟨g4, hg4⟩ : ∃ g, u3.heap.size = g := ⟨_, rfl⟩
 rw [hg4] at K5 NG ⊢
 have LF5 : Hid (g4 < u5.heap.size) := zh K5.out.lt
 have F53 : Hid (u5.cell? ⟨g4, 3, none⟩ = some (.int .i64 (nn : Int))) := zh ((K5.out.cell 3).trans HV3.out)
 have C5 := zh (HA0.out u5 _ A5.out)
 have LA5 := zh (HAL.out u5 _ A5.out)
 clear hg4 R1 R2 R3 R4 A2 A3 A4 O2 O3 O4 K4 N4 B1
 refine zaj [(0, 33), (1, 34), (2, 35), (3, 36), (4, 37), (5, 38), (6, 39), (7, 40), (8, 41)]
  (fun ii => [Is (.pointer (some ⟨g4, 3, none⟩)), Is (.int .i64 (nn : Int)), Is (.pointer (some ⟨a, 0, none⟩)), Is (.pointer (some ⟨a, 0, none⟩)), Is (.pointer (some ⟨a, 0, none⟩)), Is (.pointer (some ⟨c, 0, none⟩)), Is (.agg #[Value.int .i64 (k : Int), .int .i64 (p : Int), .int .i64 (s : Int)]), Is (.int .i64 rm), Is (.bool false)].getD ii (Is undef))
  (fun w' => Below u5.heap.size u5 w') (by kernel_rfl) (by kernel_rfl) (by decide) (by decide) (by kernel_rfl) rfl ?monoq ((zb).drew) ?stepq ?finq
 case monoq =>
  intro i
  match i with
  | 0 | 1 | 2 | 3 | 4 | 5 | 6 | 7 | 8 => exact Is.monot _
  | _ + 9 => exact Is.monot _
 case stepq =>
  refine zf ⟨?qs0, zf ⟨?qs1, zf ⟨?qs2, zf ⟨?qs3, zf ⟨?qs4, zf ⟨?qs5, zf ⟨?qs6, zf ⟨?qs7, zf ⟨?qs8, List.forall_mem_nil _⟩⟩⟩⟩⟩⟩⟩⟩⟩
  case qs0 | qs2 =>
   intro u wx hg hC; clear hC; refine wpOp_step rfl fun K hK => ?_
   simp only [puts, List.foldl]; go_simp; exact zK hK hg
  case qs1 =>
   intro u wx hg hC; have hJ0 := zj hC 0; clear hC
   have hcl : wx.cell? ⟨g4, 3, none⟩ = some (.int .i64 (nn : Int)) := (hg.cell (p := ⟨g4, 3, none⟩) LF5.out).trans F53.out
   refine wpOp_step rfl fun K hK => ?_
   simp only [puts, List.foldl]; go_simp; exact zK hK hg
  case qs3 =>
   intro u wx hg hC; have hJ2 := zj hC 2; clear hC; refine wpOp_step rfl fun K hK => ?_
   simp only [puts, List.foldl]; go_simp; exact zK hK hg
  case qs4 =>
   intro u wx hg hC; have hJ3 := zj hC 3; clear hC; refine wpOp_step rfl fun K hK => ?_
   simp only [puts, List.foldl]; go_simp; exact zK hK hg
  case qs5 =>
   intro u wx hg hC; have hJ4 := zj hC 4; clear hC
   have hcl : wx.cell? ⟨a, 0, none⟩ = some (.pointer (some ⟨c, 0, none⟩)) := (hg.cell (p := ⟨a, 0, none⟩) LA5.out).trans C5.out
   refine wpOp_step rfl fun K hK => ?_
   simp only [puts, List.foldl]; go_simp; exact zK hK hg
  case qs6 =>
   intro u wx hg hC; have hJ5 := zj hC 5; clear hC; refine wpOp_step rfl fun K hK => ?_
   simp only [puts, List.foldl]; go_simp
   refine (HG.out wx _ (A5.out.step hg)).mono ?_
   rintro e w' ⟨rfl, hb'⟩
   exact hK _ _ ⟨rfl, rfl, hg.next hb', hb'⟩
  case qs7 =>
   intro u wx hg hC; have hJ6 := zj hC 6; clear hC; refine wpOp_step rfl fun K hK => ?_
   simp only [puts, List.foldl]; go_simp
   refine (HRM.out wx).mono ?_
   rintro e w' ⟨rfl, hb'⟩
   exact hK _ _ ⟨rfl, rfl, hg.next hb', hb'⟩
  case qs8 =>
   intro u wx hg hC; have hJ1 := zj hC 1; have hJ7 := zj hC 7; clear hC; refine wpOp_step rfl fun K hK => ?_
   simp only [puts, List.foldl]; go_simp; exact zK hK hg
 case finq =>
  intro u w6 hb6 hφ
  have e41 : u 8 = .bool false := hφ (8, 41) (by decide)
  clear hφ
  simp only [puts, List.foldl]
  rw [e41]
  go_simp
  have A6 := zh (A5.out.step hb6)
  have O6 := zh (O5.out.step hb6)
  have R6 := zh (R5.out.step hb6)
  have K6 := zh (K5.out.step hb6)
  have LF6 : Hid (g4 < w6.heap.size) := zh K6.out.lt
  have F63 : Hid (w6.cell? ⟨g4, 3, none⟩ = some (.int .i64 (nn : Int))) := zh ((K6.out.cell 3).trans HV3.out)
  clear hb6 e41
  go_wp2
  refine zaj [(0, 43), (1, 44), (2, 45), (3, 46), (4, 47), (5, 12)]
   (fun ii => [Is (.string T), Is (.string X), Is (.pointer (some ⟨g4, 3, none⟩)), Is (.int .i64 (nn : Int)), Is (.string R), Is (.string R)].getD ii (Is undef))
   (fun w' => Below w6.heap.size w6 w') (by kernel_rfl) (by kernel_rfl) (by decide) (by decide) (by kernel_rfl) rfl ?monor ((zb).drew) ?stepr ?finr
  case monor =>
   intro i
   match i with
   | 0 | 1 | 2 | 3 | 4 | 5 => exact Is.monot _
   | _ + 6 => exact Is.monot _
  case stepr =>
   refine zf ⟨?rs0, zf ⟨?rs1, zf ⟨?rs2, zf ⟨?rs3, zf ⟨?rs4, zf ⟨?rs5, List.forall_mem_nil _⟩⟩⟩⟩⟩⟩
   case rs0 | rs2 =>
    intro u wx hg hC; clear hC; refine wpOp_step rfl fun K hK => ?_
    simp only [puts, List.foldl]; go_simp; exact zK hK hg
   case rs1 =>
    intro u wx hg hC; have hJ0 := zj hC 0; clear hC
    have hy : T.extract 48 T.size = X := HX.out
    have h1 : (48 : Int) <= (T.size : Int) := by have hs := H48.out; omega
    have h2 : 48 <= T.size := H48.out
    refine wpOp_step rfl fun K hK => ?_
    simp only [puts, List.foldl]; go_simp; exact zK hK hg
   case rs3 =>
    intro u wx hg hC; have hJ2 := zj hC 2; clear hC
    have hcl : wx.cell? ⟨g4, 3, none⟩ = some (.int .i64 (nn : Int)) := (hg.cell (p := ⟨g4, 3, none⟩) LF6.out).trans F63.out
    refine wpOp_step rfl fun K hK => ?_
    simp only [puts, List.foldl]; go_simp; exact zK hK hg
   case rs4 =>
    intro u wx hg hC; have hJ1 := zj hC 1; have hJ3 := zj hC 3; clear hC
    have hz : X.extract 0 nn = R := HR.out
    have h1 : (nn : Int) <= (X.size : Int) := by have hs := HXN.out; omega
    have h2 : nn <= X.size := HXN.out
    refine wpOp_step rfl fun K hK => ?_
    simp only [puts, List.foldl]; go_simp; exact zK hK hg
   case rs5 =>
    intro u wx hg hC; have hJ4 := zj hC 4; clear hC; refine wpOp_step rfl fun K hK => ?_
    simp only [puts, List.foldl]; go_simp; exact zK hK hg
  case finr =>
   intro u' w7 hb7 hφ
   have e12 : u' 5 = .string R := hφ (5, 12) (by decide)
   clear hφ; simp only [puts, List.foldl]; rw [e12]; go_simp; have A7 := zh (A6.out.step hb7); have O7 := zh (O6.out.step hb7); have R7 := zh (R6.out.step hb7); have K7 := zh (K6.out.step hb7); have G7 := zh (HGL.out w7 O7.out); clear hb7 e12
   go_wp2_with (first
     | ((with_reducible refine K7.out.wpLoadK 29 fits_head LV.out ?_ ?_); rfl)
     | (go_at_call 47; (with_reducible refine (HMT.out w7 G7.out).mono ?_); rintro e u8 ⟨rfl, b8⟩; have K8 := zh (K7.out.step b8); have R8 := zh (R7.out.step b8); have A8 := zh (A7.out.step b8); have O8 := zh (O7.out.step b8); clear b8)
     | ((with_reducible refine wpBuildZeroK Z 29 HBZ.out ?_ ?_); rfl)
     | ((with_reducible refine R8.out.wpStoreK 29 Z fits_head LZ.out LZ.out Z1.out ?_ ?_); rfl; intro u9 r9 o9 s9; have R9 := zh r9; have O9 := zh (O8.out.only o9 (Or.inr (Nat.le_refl _))); have A9 := zh (A8.out.only o9 HWB.out GN.out); clear r9 o9 s9))
   exact bodyPost_ret (R9.out.resultT4 rfl _ _ rfl Tryz.underlying29 rfl (by rw [LZ.out]; exact fits_head.size)) rfl ⟨rfl, ⟨_, A9.out⟩, O9.out⟩
theorem zws (wB : World) (A : ArD) (w : World) (D : Dv) (h : Are wB A w D) (hu : Up D) (slot : Nat) (hs : slot < 3) (T : ByteArray) (W E : Int) (hT : TxtIs D A slot T W E) (hE : E = 0) (hTz : T.size <= 140737488355328) (V : List Value) (hV : GetIs T.data.toList V 0) (hVl : V.length = 36) (hV1 : V.all (·.oneCell') = true) (nn : Nat) (hV3 : V[3]? = some (.int .i64 (nn : Int))) (hroom : (nn : Int) <= room (gmN A.k A.p A.s)) (X R : ByteArray) (hX : T.extract 48 T.size = X) (hR : X.extract 0 nn = R) (h48 : 48 <= T.size) (hXn : nn <= X.size) (hg : Glob w) (hgs : ∀ k ∈ A.sh.S, 2 < k) (hm : ∀ u, Glob u -> Calls Tryz.prog 47 #[.agg V.toArray, .string R] u fun e w' => e = .returned (.bool true) ∧ Below u.heap.size u w') :
  Calls Tryz.prog 14 #[.pointer (some ⟨A.a, 0, none⟩), .int .i64 (slot : Int)] w fun e w' => e = .returned (.tuple #[.agg V.toArray, .string R, .int .i64 W, .int .i64 0]) ∧ (∃ m, Are wB A w' (opsD D m)) ∧ Onl A.sh.S w w' := by
 have HMT := zh hm
 have HZ : Hid (∀ u, (zeroValue 29).run Tryz.prog u = .ok (.agg (hdv 0 0 0 0 (List.replicate 32 0)).toArray) u) := zh zcc
 have HBZ : Hid (Tryz.prog.built 29 [] = some (hdv 0 0 0 0 (List.replicate 32 0)).toArray) := zh zex
 have LZ : Hid ((hdv 0 0 0 0 (List.replicate 32 0)).length = 36) := zh (zav _ _ _ _ _ (by simp))
 have Z1 : Hid ((hdv 0 0 0 0 (List.replicate 32 0)).all (·.oneCell') = true) := zh (zck _ _ _ _ _)
 have HSL : Hid (∀ k ∈ A.sh.S, k < w.heap.size) := zh h.dev.lt
 have GN : Hid (w.heap.size ∉ A.sh.S) := zh fun hm => by have := HSL.out _ hm; omega
 have HWB : Hid (wB.heap.size <= w.heap.size) := zh h.onl.size
 have HAR : Hid (∀ u, Below w.heap.size w u -> Are wB A u D) := zh fun u hu => h.step hu
 have HTX : Hid (∀ u, Are wB A u D -> Calls Tryz.prog 44 #[.pointer (some ⟨A.a, 0, none⟩), .int .i64 (slot : Int)] u fun e w' => e = .returned (.tuple #[.string T, .int .i64 W, .int .i64 E]) ∧ (∃ m, Are wB A w' (opsD D m)) ∧ Onl A.sh.S u w') := zh fun u h1 => zgs wB A u D h1 hu slot hs T W E hT
 have HA0 : Hid (∀ (u : World) (D' : Dv), Are wB A u D' -> u.cell? ⟨A.a, 0, none⟩ = some (.pointer (some ⟨A.c, 0, none⟩))) := zh fun u D' h1 => h1.a0
 have HAL : Hid (∀ (u : World) (D' : Dv), Are wB A u D' -> A.a < u.heap.size) := zh fun u D' h1 => h1.lt
 have HG : Hid (∀ (u : World) (D' : Dv), Are wB A u D' -> Calls Tryz.prog 46 #[.pointer (some ⟨A.c, 0, none⟩)] u fun e w' => e = .returned (.agg #[.int .i64 (A.k : Int), .int .i64 (A.p : Int), .int .i64 (A.s : Int)]) ∧ Below u.heap.size u w') := zh fun u D' h1 => h1.geoX
 have HRM : Hid (∀ u, Calls Tryz.prog 18 #[.agg #[Value.int .i64 (A.k : Int), .int .i64 (A.p : Int), .int .i64 (A.s : Int)]] u fun e w' => e = .returned (.int .i64 (room (gmN A.k A.p A.s))) ∧ Below u.heap.size u w') := zh fun u => zeo (gmN A.k A.p A.s) u
 obtain ⟨rm, hrm⟩ : ∃ r, room (gmN A.k A.p A.s) = r := ⟨_, rfl⟩
 rw [hrm] at HRM hroom
 obtain ⟨c, hc⟩ : ∃ c, A.c = c := ⟨_, rfl⟩
 obtain ⟨k, hk⟩ : ∃ k, A.k = k := ⟨_, rfl⟩
 obtain ⟨p, hp⟩ : ∃ p, A.p = p := ⟨_, rfl⟩
 obtain ⟨s, hss⟩ : ∃ s, A.s = s := ⟨_, rfl⟩
 rw [hc] at HG HA0
 rw [hk, hp, hss] at HG HRM
 have HGT : Hid (∀ u, Calls Tryz.prog 45 #[.string T] u fun e w' => e = .returned (.tuple #[.agg V.toArray, .int .i64 0]) ∧ Below u.heap.size u w') := zh fun u => zgv T T.data.toList V 0 u rfl hTz hV
 obtain ⟨Z, hZZ⟩ : ∃ Z, hdv 0 0 0 0 (List.replicate 32 0) = Z := ⟨_, rfl⟩
 rw [hZZ] at HZ HBZ LZ Z1
 have LV := zh hVl
 have V1 := zh hV1
 have HV3 := zh hV3
 subst hE
 obtain ⟨a, ha⟩ : ∃ a, A.a = a := ⟨_, rfl⟩
 rw [ha] at HTX HA0 HAL ⊢
 have hnr : ¬ rm < (nn : Int) := by omega
 have hnr2 : decide (rm < (nn : Int)) = false := decide_eq_false hnr
 have HX := zh hX
 have HR := zh hR
 have H48 := zh h48
 have HXN := zh hXn
 have HGL : Hid (∀ u, Onl A.sh.S w u -> Glob u) := zh fun u ho => hg.onl ho hgs
 clear h hu hs hT ha hc hk hp hss hZZ hV hTz hVl hV1 hV3 hrm hroom hX hR h48 hXn hg hgs
 go_enter Tryz.func14, Tryz.ntmps14
 go_wp2_with (first
  | ((with_reducible refine wpAllocK (w := w) Z 29 HZ.out ?_ ?_); rfl; intro u1 r1 b1 s1; have R1 := zh r1; have B1 := zh b1; clear r1 b1 s1)
  | (go_at_call 44; (with_reducible refine (HTX.out u1 (HAR.out u1 B1.out)).mono ?_); rintro e u2 ⟨rfl, ⟨m, a2⟩, o2⟩; have A2 := zh a2; have O2 := zh ((Onl.of_below B1.out).trans o2); have R2 := zh (R1.out.onl o2 GN.out); clear a2 o2)
  | (go_at_call 45; (with_reducible refine (HGT.out u2).mono ?_); rintro e u3 ⟨rfl, b3⟩; have A3 := zh (A2.out.step b3); have O3 := zh (O2.out.step b3); have R3 := zh (R2.out.step b3); clear b3)
  | ((with_reducible refine wpAllocK (w := u3) Z 29 HZ.out ?_ ?_); rfl; intro u4 r4 b4 s4; have K4 := zh r4; have R4 := zh (R3.out.step b4); have A4 := zh (A3.out.step b4); have O4 := zh (O3.out.step b4); have N4 : Hid (u3.heap.size ∉ A.sh.S) := zh (fun hm => by have := HSL.out _ hm; have := O3.out.size; omega); clear r4 b4 s4)
  | ((with_reducible refine K4.out.wpStoreK 29 V fits_head LZ.out LV.out V1.out ?_ ?_); rfl; intro u5 r5 o5 s5; have K5 := zh r5; have R5 := zh (R4.out.only o5 (by have := R3.out.lt; omega)); have A5 := zh (A4.out.only o5 (Nat.le_trans HWB.out O3.out.size) N4.out); have O5 := zh (O4.out.only o5 (Or.inr O3.out.size)); have NG : Hid (w.heap.size ≠ u3.heap.size) := zh (by have := R3.out.lt; omega); clear r5 o5 s5))
 obtain ⟨g4, hg4⟩ : ∃ g, u3.heap.size = g := ⟨_, rfl⟩
 rw [hg4] at K5 NG ⊢
 have LF5 : Hid (g4 < u5.heap.size) := zh K5.out.lt
 have F53 : Hid (u5.cell? ⟨g4, 3, none⟩ = some (.int .i64 (nn : Int))) := zh ((K5.out.cell 3).trans HV3.out)
 have C5 := zh (HA0.out u5 _ A5.out)
 have LA5 := zh (HAL.out u5 _ A5.out)
 clear hg4 R1 R2 R3 R4 A2 A3 A4 O2 O3 O4 K4 N4 B1
 refine zaj [(0, 33), (1, 34), (2, 35), (3, 36), (4, 37), (5, 38), (6, 39), (7, 40), (8, 41)]
  (fun ii => [Is (.pointer (some ⟨g4, 3, none⟩)), Is (.int .i64 (nn : Int)), Is (.pointer (some ⟨a, 0, none⟩)), Is (.pointer (some ⟨a, 0, none⟩)), Is (.pointer (some ⟨a, 0, none⟩)), Is (.pointer (some ⟨c, 0, none⟩)), Is (.agg #[Value.int .i64 (k : Int), .int .i64 (p : Int), .int .i64 (s : Int)]), Is (.int .i64 rm), Is (.bool false)].getD ii (Is undef))
  (fun w' => Below u5.heap.size u5 w') (by kernel_rfl) (by kernel_rfl) (by decide) (by decide) (by kernel_rfl) rfl ?monoq ((zb).drew) ?stepq ?finq
 case monoq =>
  intro i
  match i with
  | 0 | 1 | 2 | 3 | 4 | 5 | 6 | 7 | 8 => exact Is.monot _
  | _ + 9 => exact Is.monot _
 case stepq =>
  refine zf ⟨?qs0, zf ⟨?qs1, zf ⟨?qs2, zf ⟨?qs3, zf ⟨?qs4, zf ⟨?qs5, zf ⟨?qs6, zf ⟨?qs7, zf ⟨?qs8, List.forall_mem_nil _⟩⟩⟩⟩⟩⟩⟩⟩⟩
  case qs0 | qs2 =>
   intro u wx hg hC; clear hC; refine wpOp_step rfl fun K hK => ?_
   simp only [puts, List.foldl]; go_simp; exact zK hK hg
  case qs1 =>
   intro u wx hg hC; have hJ0 := zj hC 0; clear hC
   have hcl : wx.cell? ⟨g4, 3, none⟩ = some (.int .i64 (nn : Int)) := (hg.cell (p := ⟨g4, 3, none⟩) LF5.out).trans F53.out
   refine wpOp_step rfl fun K hK => ?_
   simp only [puts, List.foldl]; go_simp; exact zK hK hg
  case qs3 =>
   intro u wx hg hC; have hJ2 := zj hC 2; clear hC; refine wpOp_step rfl fun K hK => ?_
   simp only [puts, List.foldl]; go_simp; exact zK hK hg
  case qs4 =>
   intro u wx hg hC; have hJ3 := zj hC 3; clear hC; refine wpOp_step rfl fun K hK => ?_
   simp only [puts, List.foldl]; go_simp; exact zK hK hg
  case qs5 =>
   intro u wx hg hC; have hJ4 := zj hC 4; clear hC
   have hcl : wx.cell? ⟨a, 0, none⟩ = some (.pointer (some ⟨c, 0, none⟩)) := (hg.cell (p := ⟨a, 0, none⟩) LA5.out).trans C5.out
   refine wpOp_step rfl fun K hK => ?_
   simp only [puts, List.foldl]; go_simp; exact zK hK hg
  case qs6 =>
   intro u wx hg hC; have hJ5 := zj hC 5; clear hC; refine wpOp_step rfl fun K hK => ?_
   simp only [puts, List.foldl]; go_simp
   refine (HG.out wx _ (A5.out.step hg)).mono ?_
   rintro e w' ⟨rfl, hb'⟩
   exact hK _ _ ⟨rfl, rfl, hg.next hb', hb'⟩
  case qs7 =>
   intro u wx hg hC; have hJ6 := zj hC 6; clear hC; refine wpOp_step rfl fun K hK => ?_
   simp only [puts, List.foldl]; go_simp
   refine (HRM.out wx).mono ?_
   rintro e w' ⟨rfl, hb'⟩
   exact hK _ _ ⟨rfl, rfl, hg.next hb', hb'⟩
  case qs8 =>
   intro u wx hg hC; have hJ1 := zj hC 1; have hJ7 := zj hC 7; clear hC; refine wpOp_step rfl fun K hK => ?_
   simp only [puts, List.foldl]; go_simp; exact zK hK hg
 case finq =>
  intro u w6 hb6 hφ
  have e41 : u 8 = .bool false := hφ (8, 41) (by decide)
  clear hφ
  simp only [puts, List.foldl]
  rw [e41]
  go_simp
  have A6 := zh (A5.out.step hb6)
  have O6 := zh (O5.out.step hb6)
  have R6 := zh (R5.out.step hb6)
  have K6 := zh (K5.out.step hb6)
  have LF6 : Hid (g4 < w6.heap.size) := zh K6.out.lt
  have F63 : Hid (w6.cell? ⟨g4, 3, none⟩ = some (.int .i64 (nn : Int))) := zh ((K6.out.cell 3).trans HV3.out)
  clear hb6 e41
  go_wp2
  refine zaj [(0, 43), (1, 44), (2, 45), (3, 46), (4, 47), (5, 12)]
   (fun ii => [Is (.string T), Is (.string X), Is (.pointer (some ⟨g4, 3, none⟩)), Is (.int .i64 (nn : Int)), Is (.string R), Is (.string R)].getD ii (Is undef))
   (fun w' => Below w6.heap.size w6 w') (by kernel_rfl) (by kernel_rfl) (by decide) (by decide) (by kernel_rfl) rfl ?monor ((zb).drew) ?stepr ?finr
  case monor =>
   intro i
   match i with
   | 0 | 1 | 2 | 3 | 4 | 5 => exact Is.monot _
   | _ + 6 => exact Is.monot _
  case stepr =>
   refine zf ⟨?rs0, zf ⟨?rs1, zf ⟨?rs2, zf ⟨?rs3, zf ⟨?rs4, zf ⟨?rs5, List.forall_mem_nil _⟩⟩⟩⟩⟩⟩
   case rs0 | rs2 =>
    intro u wx hg hC; clear hC; refine wpOp_step rfl fun K hK => ?_
    simp only [puts, List.foldl]; go_simp; exact zK hK hg
   case rs1 =>
    intro u wx hg hC; have hJ0 := zj hC 0; clear hC
    have hy : T.extract 48 T.size = X := HX.out
    have h1 : (48 : Int) <= (T.size : Int) := by have hs := H48.out; omega
    have h2 : 48 <= T.size := H48.out
    refine wpOp_step rfl fun K hK => ?_
    simp only [puts, List.foldl]; go_simp; exact zK hK hg
   case rs3 =>
    intro u wx hg hC; have hJ2 := zj hC 2; clear hC
    have hcl : wx.cell? ⟨g4, 3, none⟩ = some (.int .i64 (nn : Int)) := (hg.cell (p := ⟨g4, 3, none⟩) LF6.out).trans F63.out
    refine wpOp_step rfl fun K hK => ?_
    simp only [puts, List.foldl]; go_simp; exact zK hK hg
   case rs4 =>
    intro u wx hg hC; have hJ1 := zj hC 1; have hJ3 := zj hC 3; clear hC
    have hz : X.extract 0 nn = R := HR.out
    have h1 : (nn : Int) <= (X.size : Int) := by have hs := HXN.out; omega
    have h2 : nn <= X.size := HXN.out
    refine wpOp_step rfl fun K hK => ?_
    simp only [puts, List.foldl]; go_simp; exact zK hK hg
   case rs5 =>
    intro u wx hg hC; have hJ4 := zj hC 4; clear hC; refine wpOp_step rfl fun K hK => ?_
    simp only [puts, List.foldl]; go_simp; exact zK hK hg
  case finr =>
   intro u' w7 hb7 hφ
   have e12 : u' 5 = .string R := hφ (5, 12) (by decide)
   clear hφ; simp only [puts, List.foldl]; rw [e12]; go_simp; have A7 := zh (A6.out.step hb7); have O7 := zh (O6.out.step hb7); have R7 := zh (R6.out.step hb7); have K7 := zh (K6.out.step hb7); have G7 := zh (HGL.out w7 O7.out); clear hb7 e12
   go_wp2_with (first
     | ((with_reducible refine K7.out.wpLoadK 29 fits_head LV.out ?_ ?_); rfl)
     | (go_at_call 47; (with_reducible refine (HMT.out w7 G7.out).mono ?_); rintro e u8 ⟨rfl, b8⟩; have K8 := zh (K7.out.step b8); have R8 := zh (R7.out.step b8); have A8 := zh (A7.out.step b8); have O8 := zh (O7.out.step b8); clear b8)
     | ((with_reducible refine K8.out.wpLoadK 29 fits_head LV.out ?_ ?_); rfl)
     | ((with_reducible refine R8.out.wpStoreK 29 V fits_head LZ.out LV.out V1.out ?_ ?_); rfl; intro u9 r9 o9 s9; have R9 := zh r9; have O9 := zh (O8.out.only o9 (Or.inr (Nat.le_refl _))); have A9 := zh (A8.out.only o9 HWB.out GN.out); clear r9 o9 s9))
   exact bodyPost_ret (R9.out.resultT4 rfl _ _ rfl Tryz.underlying29 rfl (by rw [LV.out]; exact fits_head.size)) rfl ⟨rfl, ⟨_, A9.out⟩, O9.out⟩
theorem zon {U V : Nat -> Nat} : ∀ {s : Nat}, (∀ t, t < s -> U t = V t) -> cntN U s = cntN V s
 | 0, _ => rfl
 | s + 1, h => by rw [cntN, cntN, zon (s := s) fun t ht => h t (by omega), h s (by omega)]
theorem zkq {U : Nat -> Nat} : ∀ {s : Nat}, (∀ t, t < s -> U t = 0) -> cntN U s = 0
 | 0, _ => rfl
 | s + 1, h => by rw [cntN, zkq (s := s) fun t ht => h t (by omega), h s (by omega)]
def wrongN (D : Dv) (A : ArD) (slot : Nat) (f : Fb) (t : Nat) : Nat := (badL (stS D A slot t) (wholeF (stF f A.k t) A.k A.p) A.n).length
def GoodA (D : Dv) (A : ArD) (slot : Nat) (f : Fb) : Prop := ∀ t, t < A.s -> GoodS A.k A.p (stF f A.k t) (stS D A slot t)
theorem zbih {D : Dv} {A : ArD} {slot : Nat} {T : List UInt8} (hk : 1 <= A.k) (hk8 : A.k <= 8) (hp : 2 <= A.p) (hp6 : A.p <= 6) (hl : T.length <= 60 * (A.k * A.s)) (h : GoodA D A slot (blF (A.k * A.s) T)) :
  TxtIs D A slot (str (T ++ List.replicate (60 * (A.k * A.s) - T.length) 0)) (cntN (wrongN D A slot (blF (A.k * A.s) T)) A.s : Nat) 0 := by
 refine .inl ⟨fun t ht => (zkw hk hk8 hp hp6 (h t ht)).1, ?_, ?_, rfl⟩
 .congr 1
  have h1 : grid (A.k * A.s) (glF (fun t => mdS A.n A.p (stS D A slot t)) A.k) = grid (A.k * A.s) (blF (A.k * A.s) T) := by
   refine zbod hk fun t ht i hi b hb => ?_
   have h2 := (zkw hk hk8 hp hp6 (h t ht)).2.1; have h3 := congrArg (fun l => l[i * 60 + b]?) h2
   simp only [zzd _ _ i b (by omega : i < A.k + A.p) hb, Option.some.injEq] at h3
   rw [show mdS A.n A.p (stS D A slot t) i b = mdS (A.k + A.p) A.p (stS D A slot t) i b from rfl, h3]
   exact zeh _ _ _ _ _ _ hi
  rw [h1, <- zto, zmz, List.take_of_length_le (by omega)]
 .congr 1
  exact zon fun t ht => by
   have h2 := (zkw hk hk8 hp hp6 (h t ht)).2.2
   show (badL _ _ _).length = _
   rw [show unS A.n A.p (stS D A slot t) = _ from h2]; rfl
theorem zbjw {k p s : Nat} (h : right (gmN k p s) = true) (hk : 1 <= k) (hs : 1 <= s) : room (gmN k p s) = (60 * ((k * s : Nat) : Int) - 48) := by
 unfold room
 rw [if_pos h]
 show max 0 (60 * (k : Int) * s - 48) = _
 have h1 : 1 * 1 <= k * s := Nat.mul_le_mul hk hs
 rw [Int.mul_assoc, show (k : Int) * s = ((k * s : Nat) : Int) from by push_cast; rfl]
 omega
theorem zik (wB : World) (A : ArD) (w : World) (D : Dv) (h : Are wB A w D) (hu : Up D) (slot : Nat) (hs : slot < 3) (va vb vc : Int) (H : List UInt8) (im : ByteArray) (hH : H = ShaMath.sha im.data.toList) (hok : hOk va vb vc (im.size : Int) = true) (hroom : (im.size : Int) <= room (gmN A.k A.p A.s))
  (hgd : GoodA D A slot (blF (A.k * A.s) (headB va vb vc (im.size : Int) H ++ im.data.toList))) (hg : Glob w) (hgs : ∀ k ∈ A.sh.S, 2 < k) :
  Calls Tryz.prog 14 #[.pointer (some ⟨A.a, 0, none⟩), .int .i64 (slot : Int)] w fun e w' => e = .returned (.tuple #[.agg (hdv va vb vc (im.size : Int) H).toArray, .string im, .int .i64 (cntN (wrongN D A slot (blF (A.k * A.s) (headB va vb vc (im.size : Int) H ++ im.data.toList))) A.s : Nat), .int .i64 0]) ∧ (∃ m, Are wB A w' (opsD D m)) ∧ Onl A.sh.S w w' := by
 have hrm := zbjw h.right h.k1 h.s1
 have hl : H.length = 32 := by rw [hH, ShaMath.sha_length]
 have hk8 := h.k8
 have hs8 := h.s8
 have hks : A.k * A.s <= 64 := by
  have h1 : A.k * A.s <= 8 * A.s := Nat.mul_le_mul_right _ hk8
  omega
 have hTl : (headB va vb vc (im.size : Int) H ++ im.data.toList).length <= 60 * (A.k * A.s) := by
  rw [List.length_append, zde _ _ _ _ _ hl, zak]; omega
 have hT := zbih h.k1 h.k8 h.p2 h.p6 hTl hgd
 have him0 : im.size <= 4000 := by omega
 obtain ⟨Z, hZ⟩ : ∃ Z, List.replicate (60 * (A.k * A.s) - (headB va vb vc (im.size : Int) H ++ im.data.toList).length) (0 : UInt8) = Z := ⟨_, rfl⟩
 rw [hZ] at hT
 have hsz : (str (headB va vb vc (im.size : Int) H ++ im.data.toList ++ Z)).size = 60 * (A.k * A.s) := by
  rw [zbl, List.length_append, <- hZ, List.length_replicate]; omega
 have hbk := zrp va vb vc (im.size : Int) H (im.data.toList ++ Z) hok hl
 have hX : (str (headB va vb vc (im.size : Int) H ++ im.data.toList ++ Z)).extract 48 (str (headB va vb vc (im.size : Int) H ++ im.data.toList ++ Z)).size = str (im.data.toList ++ Z) := by
  rw [zfp, hsz]
  congr 1
  have e1 : (headB va vb vc (im.size : Int) H ++ im.data.toList ++ Z).drop 48 = im.data.toList ++ Z := by
   rw [List.append_assoc]; exact List.drop_left' (zde _ _ _ _ _ hl)
  rw [e1]
  refine List.take_of_length_le ?_
  have e2 : (headB va vb vc (im.size : Int) H ++ im.data.toList).length = 48 + im.size := by rw [List.length_append, zde _ _ _ _ _ hl, zak]
  rw [List.length_append, <- hZ, List.length_replicate, e2, zak]
  omega
 have hR : (str (im.data.toList ++ Z)).extract 0 im.size = im := by
  rw [zfp, List.drop_zero, Nat.sub_zero, List.take_left' (zak im), zfu]
 refine zws wB A w D h hu slot hs _ _ 0 hT rfl (by rw [hsz]; omega) (hdv va vb vc (im.size : Int) H) (.inr (.inl ⟨?_, ?_, ?_, rfl⟩)) (zav _ _ _ _ _ hl) (zck _ _ _ _ _) im.size rfl hroom _ im hX hR (by rw [hsz]; omega) (by rw [zbl, List.length_append, zak]; omega) hg hgs ?_
 .rw [zca, List.length_append, List.length_append, zde _ _ _ _ _ hl]; omega
 .rw [zca, List.append_assoc]; exact zbiq _ _ _ _ _ _ hok hl
 .rw [zca, List.append_assoc, hbk.1, hbk.2.1, hbk.2.2.1, hbk.2.2.2.1, hbk.2.2.2.2.1]
 .intro u hgu
  have him : im.size <= 1000000 := by omega
  exact znl va vb vc (im.size : Int) H im H true u hl hH.symm hgu him (by simp)
theorem zble {n : Nat} (h1 : 1 <= n) (h2 : n <= 512) : Up (D0 n) := ⟨rfl, rfl, ⟨by simp [D0]; omega, by simp [D0]; omega, by simp [D0]; omega, by simp [D0]⟩⟩
theorem zoz (n : Nat) : (D0 n).L.length = n := by simp [D0]
theorem zzb (N n s slot : Nat) : Free (D0 N) n s slot := fun j _ _ => by
 simp only [D0, List.getD_eq_getElem?_getD, List.getElem?_replicate]
 split <;> rfl
theorem zrd {k p s : Nat} (hk8 : k <= 8) (hp6 : p <= 6) (hs8 : s <= 8) : 3 * ((k + p) * s) + 18 <= 512 := by
 have h1 : (k + p) * s <= 14 * s := Nat.mul_le_mul_right _ (by omega)
 omega
theorem zih (k p s : Nat) (w : World) (hk : 1 <= k) (hk8 : k <= 8) (hp : 2 <= p) (hp6 : p <= 6) (hs : 1 <= s) (hs8 : s <= 8) :
  Calls Tryz.prog 10 #[geoV (gmN k p s)] w fun e w' => (∃ a c cc b sb sh, e = .returned (.tuple #[.pointer (some ⟨a, 0, none⟩), .pointer (some ⟨sh.b, 0, none⟩)]) ∧ Are w' ⟨a, c, cc, b, sb, k, p, s, sh⟩ w' (D0 (3 * ((k + p) * s) + 18)) ∧ (∀ q ∈ sh.S, w.heap.size <= q)) ∧ Below w.heap.size w w' := by
 have hr := zft hk hk8 hp hp6 hs hs8
 have ha := zyp hr
 have hN := zrd hk8 hp6 hs8
 have HA : Hid (∀ u, Calls Tryz.prog 32 #[.agg [Value.int .i64 (k : Int), .int .i64 (p : Int), .int .i64 (s : Int)].toArray] u fun e w' => e = .returned (.int .i64 ((3 * ((k + p) * s) + 18 : Nat) : Int)) ∧ Below u.heap.size u w') := zh fun u => by rw [<- ha]; exact zyo (gmN k p s) u
 have HSN : Hid (∀ u, Calls Tryz.prog 33 #[.agg [Value.int .i64 (k : Int), .int .i64 (p : Int), .int .i64 (s : Int)].toArray] u fun e w' => (∃ c cc b sb, e = .returned (.tuple #[.pointer (some ⟨c, 0, none⟩), .int .i64 0]) ∧ Cdr w' c cc b sb k p s) ∧ Below u.heap.size u w') := zh fun u => zyd k p s u hk hk8 hp hp6 hs hs8
 obtain ⟨N, hNN⟩ : ∃ N, 3 * ((k + p) * s) + 18 = N := ⟨_, rfl⟩
 have hN1 : 1 <= N := by omega
 rw [hNN] at HA hN ⊢
 have HFN : Hid (∀ u, Calls Tryz.prog 31 #[.int .i64 (N : Int)] u fun e w' => ∃ s : Sh, e = .returned (.tuple #[.pointer (some ⟨s.b, 0, none⟩), .int .i64 0]) ∧ Dev w' s (D0 N) ∧ (∀ k ∈ s.S, u.heap.size <= k) ∧ Below u.heap.size u w') := zh fun u => zbek N u hN1 hN
 have HNW : Hid (∀ u c cc b sb sh, Cdr u c cc b sb k p s -> Dev u sh (D0 N) -> Calls Tryz.prog 34 #[.pointer (some ⟨sh.b, 0, none⟩), .pointer (some ⟨c, 0, none⟩)] u fun e w' => (∃ a, e = .returned (.tuple #[.pointer (some ⟨a, 0, none⟩), .int .i64 0]) ∧ Are w' ⟨a, c, cc, b, sb, k, p, s, sh⟩ w' (D0 N)) ∧ Below u.heap.size u w') := zh fun u c cc b sb sh h1 h2 =>
  zti c cc b sb k p s sh (D0 N) u h1 h2 (fun x hx => (List.mem_replicate.1 hx).2) hs hs8 (by rw [zoz, hNN]; exact Nat.le_refl _)
 show Calls Tryz.prog 10 #[.agg [Value.int .i64 (k : Int), .int .i64 (p : Int), .int .i64 (s : Int)].toArray] w _
 clear hk hk8 hp hp6 hs hs8 hr ha hN hNN hN1
 go_enter Tryz.func10, Tryz.ntmps10
 go_wp2_with (first
  | ((with_reducible refine wpBoxK (w := w) [Value.int .i64 (k : Int), .int .i64 (p : Int), .int .i64 (s : Int)] 23 ?_ ?_); rfl; intro u1 r1 b1 s1; have R1 := zh r1; have B1 := zh b1; clear r1 b1 s1)
  | ((with_reducible refine R1.out.wpLoadK 23 fits_geo rfl ?_ ?_); rfl)
  | (go_at_call 32; (with_reducible refine (HA.out u1).mono ?_); rintro e u2 ⟨rfl, b2⟩; have B2 := zh (B1.out.next b2); have R2 := zh (R1.out.step b2); clear b2)
  | (go_at_call 31; (with_reducible refine (HFN.out u2).mono ?_); rintro e u3 ⟨sh, rfl, d3, q3, b3⟩; have B3 := zh (B2.out.next b3); have R3 := zh (R2.out.step b3); have D3 := zh d3; have Q3 : Hid (∀ q ∈ sh.S, w.heap.size <= q) := zh (fun q hq => Nat.le_trans B2.out.size (q3 q hq)); clear b3 d3 q3)
  | ((with_reducible refine R3.out.wpLoadK 23 fits_geo rfl ?_ ?_); rfl)
  | (go_at_call 33; (with_reducible refine (HSN.out u3).mono ?_); rintro e u4 ⟨⟨c, cc, b, sb, rfl, c4⟩, b4⟩; have B4 := zh (B3.out.next b4); have D4 := zh (D3.out.step b4); have C4 := zh c4; clear b4 c4)
  | (go_at_call 34; (with_reducible refine (HNW.out u4 _ _ _ _ _ C4.out D4.out).mono ?_); rintro e u5 ⟨⟨a, rfl, a5⟩, b5⟩; have B5 := zh (B4.out.next b5); have A5 := zh a5; clear b5 a5))
 go_ret2
 exact ⟨⟨a, c, cc, b, sb, sh, rfl, A5.out, Q3.out⟩, B5.out⟩
def Wrote (D : Dv) (A : ArD) (slot : Nat) (f : Fb) : Prop := ∀ t, t < A.s -> ∀ i, i < A.n -> sec D.C (plF A.n A.s slot t i) = wrS A.k A.p (stF f A.k t) i
theorem Wrote.good {D : Dv} {A : ArD} {slot : Nat} {f : Fb} (h : Wrote D A slot f) : GoodA D A slot f ∧ ∀ t, t < A.s -> wrongN D A slot f t = 0 := by
 have h1 : ∀ t, t < A.s -> ∀ i, i < A.k + A.p -> (stS D A slot t).getD i [] = wrS A.k A.p (stF f A.k t) i := fun t ht i hi => by
  unfold stS
  have hi' : i < A.n := hi
  rw [zbkh _ _ _ _ _ _ hi']
  exact h t ht i hi
 refine ⟨fun t ht => (zkx (h1 t ht)).1, fun t ht => ?_⟩
 have := (zkx (h1 t ht)).2
 unfold wrongN
 rw [show badL (stS D A slot t) (wholeF (stF f A.k t) A.k A.p) A.n = [] from this]; rfl
theorem filled {D : Dv} (hu : Up D) (A : ArD) {slot : Nat} (f : Fb) (hs : slot < 3) (hL : 3 * (A.n * A.s) <= D.L.length) (hf : Free D A.n A.s slot) :
  runE (fillF A.n A.s slot fun t => wrS A.k A.p (stF f A.k t)) D = 0 ∧ Aft D (slotS (sec D.C) A.n A.s slot (fun t => wrS A.k A.p (stF f A.k t)) A.s) (runD (fillF A.n A.s slot fun t => wrS A.k A.p (stF f A.k t)) D) ∧
  Wrote (runD (fillF A.n A.s slot fun t => wrS A.k A.p (stF f A.k t)) D) A slot f := by
 obtain ⟨h1, h2⟩ := zbia hu (X := fun t => wrS A.k A.p (stF f A.k t)) hs (fun t i _ _ => zps _ _ _ _) hL hf
 refine ⟨h1, h2, fun t ht i hi => ?_⟩
 rw [h2.at_ _ (by have := zpb hs ht hi; omega), zny _ _ ht hi, if_pos ht]
theorem zbad : Tryz.prog.built 25 [] = some [Value.int .i64 0, .int .i64 0, .int .i64 0].toArray := by kernel_rfl
theorem zig (w : World) (hg : Glob w) :
  Calls Tryz.prog 6 #[] w fun e w' => e = .returned (.bool true) ∧ Below w.heap.size w w' := by
 obtain ⟨im, him⟩ : ∃ im : ByteArray, im = { data := #[97, 98, 99] } := ⟨_, rfl⟩
 have hsz : im.size = 3 := by rw [him]; rfl
 obtain ⟨H, hH⟩ : ∃ H, ShaMath.sha im.data.toList = H := ⟨_, rfl⟩
 have hlH : H.length = 32 := by rw [<- hH, ShaMath.sha_length]
 have HFR : Hid (Calls Tryz.prog 10 #[.agg #[.int .i64 2, .int .i64 2, .int .i64 1]] w fun e w' => (∃ a c cc b sb sh, e = .returned (.tuple #[.pointer (some ⟨a, 0, none⟩), .pointer (some ⟨sh.b, 0, none⟩)]) ∧ Are w' ⟨a, c, cc, b, sb, 2, 2, 1, sh⟩ w' (D0 30) ∧ (∀ q ∈ sh.S, w.heap.size <= q)) ∧ Below w.heap.size w w') := zh (zih 2 2 1 w (by omega) (by omega) (by omega) (by omega) (by omega) (by omega))
 have HOF : Hid (∀ u, Glob u -> Calls Tryz.prog 21 #[.agg #[.int .i64 0, .int .i64 0, .int .i64 0], .string im] u fun e w' => e = .returned (.agg (hdv 0 0 0 3 H).toArray) ∧ Below u.heap.size u w') := zh fun u hu => by
  have h1 := zhx 0 0 0 im H u hH hu (by omega)
  rwa [hsz] at h1
 have hok : hOk 0 0 0 (im.size : Int) = true := by rw [hsz]; decide
 have hrm : (im.size : Int) <= room (gmN 2 2 1) := by rw [hsz]; decide
 have HFL : Hid (∀ (wB u : World) (a c cc b sb : Nat) (sh : Sh), Are wB ⟨a, c, cc, b, sb, 2, 2, 1, sh⟩ u (D0 30) -> Calls Tryz.prog 20 #[.pointer (some ⟨a, 0, none⟩), .int .i64 1, .agg (hdv 0 0 0 3 H).toArray, .string im] u fun e w' => e = .returned (.int .i64 0) ∧ (∃ D, Up D ∧ Wrote D ⟨a, c, cc, b, sb, 2, 2, 1, sh⟩ 1 (blF (2 * 1) (headB 0 0 0 3 H ++ im.data.toList)) ∧ Are wB ⟨a, c, cc, b, sb, 2, 2, 1, sh⟩ w' D) ∧ Onl sh.S u w') := zh fun wB u a c cc b sb sh h1 => by
  have h2 := zfx wB _ u (D0 30) h1 1 (by omega) 0 0 0 (im.size : Int) H im hlH hok rfl hrm
  obtain ⟨h3, h4, h5⟩ := filled (zble (n := 30) (by omega) (by omega)) ⟨a, c, cc, b, sb, 2, 2, 1, sh⟩ (slot := 1) (blF (2 * 1) (headB 0 0 0 (im.size : Int) H ++ im.data.toList)) (by omega) (by rw [zoz]; show 3 * ((2 + 2) * 1) <= 30; decide) (zzb _ _ _ _)
  rw [hsz] at h2 h3 h4 h5
  refine h2.mono ?_
  rintro e w' ⟨rfl, q2, q3⟩
  exact ⟨congrArg (fun z => Ending.returned (.int .i64 z)) h3, ⟨_, h4.up, h5, q2⟩, q3⟩
 have HLD : Hid (∀ (wB u : World) (a c cc b sb : Nat) (sh : Sh) (D : Dv), Are wB ⟨a, c, cc, b, sb, 2, 2, 1, sh⟩ u D -> Up D -> Wrote D ⟨a, c, cc, b, sb, 2, 2, 1, sh⟩ 1 (blF (2 * 1) (headB 0 0 0 3 H ++ im.data.toList)) -> Glob u -> (∀ k ∈ sh.S, 2 < k) -> Calls Tryz.prog 14 #[.pointer (some ⟨a, 0, none⟩), .int .i64 1] u fun e w' => e = .returned (.tuple #[.agg (hdv 0 0 0 3 H).toArray, .string im, .int .i64 0, .int .i64 0]) ∧ Onl sh.S u w') := zh fun wB u a c cc b sb sh D h1 hu hw hgu hgs => by
  obtain ⟨h2, h3⟩ := hw.good
  have h4 := zik wB _ u D h1 hu 1 (by omega) 0 0 0 H im hH.symm hok hrm (by rw [hsz]; exact h2) hgu hgs
  rw [hsz] at h4
  refine h4.mono ?_
  rintro e w' ⟨rfl, _, q3⟩
  exact ⟨congrArg (fun c : Nat => Ending.returned (.tuple #[.agg (hdv 0 0 0 3 H).toArray, .string im, .int .i64 (c : Int), .int .i64 0])) (zkq h3), q3⟩
 have HGS : Hid (∀ (sh : Sh), (∀ q ∈ sh.S, w.heap.size <= q) -> ∀ k ∈ sh.S, 2 < k) := zh fun sh h k hk => by have := h k hk; have := hg.size; omega
 have HG := zh hg
 have LV : Hid ((hdv 0 0 0 3 H).length = 36) := zh (zav _ _ _ _ _ hlH)
 have V1 := zh (zck 0 0 0 3 H)
 have HZ : Hid (∀ u, (zeroValue 29).run Tryz.prog u = .ok (.agg (hdv 0 0 0 0 (List.replicate 32 0)).toArray) u) := zh zcc
 have LZ : Hid ((hdv 0 0 0 0 (List.replicate 32 0)).length = 36) := zh (zav _ _ _ _ _ (by simp))
 have HBV := zh zbad
 obtain ⟨Z, hZ⟩ : ∃ Z, hdv 0 0 0 0 (List.replicate 32 0) = Z := ⟨_, rfl⟩
 obtain ⟨V, hV⟩ : ∃ V, hdv 0 0 0 3 H = V := ⟨_, rfl⟩
 rw [hZ] at HZ LZ
 rw [hV] at HOF HFL HLD LV V1
 obtain ⟨f, hf⟩ : ∃ f, blF (2 * 1) (headB 0 0 0 3 H ++ im.data.toList) = f := ⟨_, rfl⟩
 rw [hf] at HFL HLD
 clear hok hrm hlH hH hsz hg hZ hV hf
 subst him
 go_enter Tryz.func6, Tryz.ntmps6
 go_wp2_with (first
  | (go_at_call 10; (with_reducible refine HFR.out.mono ?_); rintro e w1 ⟨⟨a, c, cc, b, sb, sh, rfl, a1, q1⟩, b1⟩; have A1 := zh a1; have Q1 := zh q1; have B1 := zh b1; have G1 := zh (HG.out.step b1); clear a1 q1 b1)
  | (go_at_call 21; (with_reducible refine (HOF.out w1 G1.out).mono ?_); rintro e w2 ⟨rfl, b2⟩; have A2 := zh (A1.out.step b2); have B2 := zh (B1.out.next b2); have G2 := zh (G1.out.step b2); clear b2)
  | (go_at_call 20; (with_reducible refine (HFL.out _ w2 _ _ _ _ _ _ A2.out).mono ?_); rintro e w3 ⟨rfl, ⟨D3, u3, x3, a3⟩, o3⟩; have A3 := zh a3; have U3 := zh u3; have X3 := zh x3; have G3 := zh (G2.out.onl o3 (HGS.out sh Q1.out)); have B3 := zh (B2.out.trans (o3.below Q1.out B2.out.size)); clear a3 u3 x3 o3)
  | (go_at_call 14; (with_reducible refine (HLD.out _ w3 _ _ _ _ _ _ _ A3.out U3.out X3.out G3.out (HGS.out sh Q1.out)).mono ?_); rintro e w4 ⟨rfl, o4⟩; have B4 := zh (B3.out.trans (o4.below Q1.out B3.out.size)); clear o4)
  | ((with_reducible refine wpAllocK (w := w4) Z 29 HZ.out ?_ ?_); rfl; intro w5 r5 b5 s5; have R5 := zh r5; have B5 := zh (B4.out.next b5); clear r5 b5 s5)
  | ((with_reducible refine R5.out.wpStoreK 29 V fits_head LZ.out LV.out V1.out ?_ ?_); rfl; intro w6 r6 o6 s6; have B6 := zh (B5.out.trans (o6.below B4.out.size B5.out.size)); clear r6 o6 s6))
 go_ret
 exact ⟨rfl, B6.out⟩
end
section
open Go.RowKit FlaMath CrcMath GfMath PolyMath RsMath SolMath GeoMath
theorem Are.slotN {wB w : World} {A : ArD} {D : Dv} (h : Are wB A w D) (u : World) : Calls Tryz.prog 50 #[geoV (gmN A.k A.p A.s)] u fun e w' => e = .returned (.int .i64 ((A.n * A.s : Nat) : Int)) ∧ Below u.heap.size u w' := by
 have := zjq (gmN A.k A.p A.s) u
 rw [zjr ((zbj _).1 h.right)] at this
 rwa [show ((gmN A.k A.p A.s).d + (gmN A.k A.p A.s).p) * (gmN A.k A.p A.s).s = ((A.n * A.s : Nat) : Int) from by
  show ((A.k : Int) + (A.p : Int)) * (A.s : Int) = (((A.k + A.p) * A.s : Nat) : Int)
  push_cast; rfl] at this
theorem zbaa {q : Nat} (h : q <= 100000) : wrap64 (q : Int) = (q : Int) := by unfold wrap64; omega
def slV (b i : Nat) : Value := .int .i64 ((b + i : Nat) : Int)
theorem zsi (wB : World) (A : ArD) (w : World) (D : Dv) (h : Are wB A w D) (slot : Nat) (hs : slot < 3) :
  Calls Tryz.prog 48 #[.pointer (some ⟨A.a, 0, none⟩), .int .i64 (slot : Int)] w fun e w' => (∃ g, e = .returned (.tuple #[.slice (some ⟨g, 0, none⟩) (A.n * A.s) (A.n * A.s), .int .i64 0]) ∧ w.heap.size <= g ∧ Row w' g 3 ((List.range (A.n * A.s)).map (slV (slot * (A.n * A.s))))) ∧ Below w.heap.size w w' := by
 have hs1 := h.s1
 have hM : A.n * A.s <= 112 := by
  have h1 : A.n <= 14 := by have := h.k8; have := h.p6; unfold ArD.n; omega
  have h2 : A.n * A.s <= 14 * A.s := Nat.mul_le_mul_right _ h1
  have := h.s8; omega
 have HASK : Hid (Calls Tryz.prog 78 #[.pointer (some ⟨A.a, 0, none⟩), .slice (some ⟨w.heap.size, 0, none⟩) 1 1] (w.alloc (.cells #[.int .i64 (slot : Int)] 3)) fun e w' => e = .returned (.int .i64 0) ∧ Below (w.alloc (.cells #[.int .i64 (slot : Int)] 3)).heap.size (w.alloc (.cells #[.int .i64 (slot : Int)] 3)) w') := zh (by
  have h2 : Are wB A (w.alloc (.cells #[.int .i64 (slot : Int)] 3)) D := h.step ((zb).alloc (Nat.le_refl _) _)
  have h3 := zkl wB A _ D h2 (some ⟨w.heap.size, 0, none⟩) 1 1 [(slot : Int)] rfl (by omega) (Lies.new [Value.int .i64 (slot : Int)] w 3)
  rwa [if_pos (by unfold askL; simp; omega)] at h3)
 have HG : Hid (∀ u, Below w.heap.size w u -> Calls Tryz.prog 46 #[.pointer (some ⟨A.c, 0, none⟩)] u fun e w' => e = .returned (geoV (gmN A.k A.p A.s)) ∧ Below u.heap.size u w') := zh fun u hu => (h.step hu).geo
 have HS0 : Hid (∀ u, Calls Tryz.prog 66 #[geoV (gmN A.k A.p A.s), .int .i64 (slot : Int), .int .i64 0, .int .i64 0] u fun e w' => e = .returned (.tuple #[.int .i64 ((slot * (A.n * A.s) : Nat) : Int), .int .i64 0]) ∧ Below u.heap.size u w') := zh fun u => by
  have h1 := h.sector (t := 0) (i := 0) hs (by omega) (by have := h.k1; unfold ArD.n; omega) u
  rwa [show plF A.n A.s slot 0 0 = slot * (A.n * A.s) from by unfold plF; omega] at h1
 have HSL := zh h.slotN
 have HA0 : Hid (∀ u, Below w.heap.size w u -> u.cell? ⟨A.a, 0, none⟩ = some (.pointer (some ⟨A.c, 0, none⟩))) := zh fun u hu => (h.step hu).a0
 have HIS := zh zii
 have HIS2 := zh zij
 have HZC : Hid ((Value.int .i64 0).cells = #[.int .i64 0]) := zh rfl
 obtain ⟨V, hV⟩ : ∃ V, geoV (gmN A.k A.p A.s) = V := ⟨_, rfl⟩
 rw [hV] at HG HS0 HSL
 have hb : slot * (A.n * A.s) <= 224 := by
  have : slot = 0 ∨ slot = 1 ∨ slot = 2 := by omega
  rcases this with rfl | rfl | rfl <;> omega
 obtain ⟨m, hm⟩ : ∃ m, A.n * A.s = m := ⟨_, rfl⟩
 rw [hm] at HS0 HSL hM hb ⊢
 obtain ⟨b, hbb⟩ : ∃ b, slot * m = b := ⟨_, rfl⟩
 rw [hbb] at HS0 hb ⊢
 have HNM : Hid (m <= 1000000) := zh (by omega)
 have HBB := zh hb
 have HMM := zh hM
 have hmi : (m : Int) <= 112 := by omega
 have HP : Hid (List.replicate m (.int .i64 0) = pvT m (slV b) (.int .i64 0) 0) := zh (zns _ _ _)
 have HF : Hid (pvT m (slV b) (.int .i64 0) m = (List.range m).map (slV b)) := zh (znq _ _ _)
 have HX : Hid (∀ i, i < m -> (pvT m (slV b) (.int .i64 0) i).set i (.int .i64 ((b + i : Nat) : Int)) = pvT m (slV b) (.int .i64 0) (i + 1)) := zh fun i hi => znr m (slV b) _ i hi
 have HLN : Hid (∀ i, (pvT m (slV b) (.int .i64 0) i).length = m) := zh fun i => zdl _ _ _ _
 obtain ⟨a, ha⟩ : ∃ a, A.a = a := ⟨_, rfl⟩
 obtain ⟨c, hc⟩ : ∃ c, A.c = c := ⟨_, rfl⟩
 rw [ha] at HASK HA0 ⊢
 rw [hc] at HG HA0
 clear h hs hs1 hM hV hb hm hbb ha hc
 go_enter Tryz.func48, Tryz.ntmps48
 go_wp2_with (first
  | (go_at_call 78; (with_reducible refine HASK.out.mono ?_); rintro e w1 ⟨rfl, b1⟩; have B1 : Hid (Below w.heap.size w w1) := zh (((zb).alloc (Nat.le_refl _) _).next b1); have c1 := HA0.out w1 B1.out; clear b1)
  | (go_at_call 46; (with_reducible refine (HG.out w1 B1.out).mono ?_); rintro e w2 ⟨rfl, b2⟩; have B2 := zh (B1.out.next b2); clear b2)
  | (go_at_call 66; (with_reducible refine (HS0.out w2).mono ?_); rintro e w3 ⟨rfl, b3⟩; have B3 := zh (B2.out.next b3); have c3 := HA0.out w3 B3.out; clear b3)
  | (go_at_call 46; (with_reducible refine (HG.out w3 B3.out).mono ?_); rintro e w4 ⟨rfl, b4⟩; have B4 := zh (B3.out.next b4); clear b4)
  | (go_at_call 50; (with_reducible refine (HSL.out w4).mono ?_); rintro e w5 ⟨rfl, b5⟩; have B5 := zh (B4.out.next b5); clear b5)
  | ((with_reducible refine wpMake1 47 3 (.int .i64 0) m Tryz.underlying47 HIS.out HZC.out HIS2.out HNM.out ?_ ?_); rfl; intro w6 r6 b6 s6; rw [HP.out] at r6; have R6 := zh r6; have B6 := zh (B5.out.next b6); clear r6 b6 s6))
 have HGS : Hid (w.heap.size <= w5.heap.size) := zh B5.out.size
 obtain ⟨g, hg⟩ : ∃ g, w5.heap.size = g := ⟨_, rfl⟩
 rw [hg] at R6 HGS ⊢
 clear hg B1 B2 B3 B4 B5
 go_loopw [37] (fun x wr => ∃ i : Nat, i <= m ∧ x = .int .i64 i ∧ Row wr g 3 (pvT m (slV b) (.int .i64 0) i) ∧ Below w.heap.size w wr) (fun x _ => m - (intOf x).toNat)
 case atStart => exact ⟨0, Nat.zero_le _, rfl, R6.out, B6.out⟩
 case round =>
  clear R6 B6
  obtain ⟨i, hi, rfl, hrr, hbw⟩ := hrel
  by_cases hlt : i < m
  .have hii : (i : Int) < (m : Int) := by omega
   have HXI := zh (HX.out i hlt)
   have HLI : Hid (i < (pvT m (slV b) (.int .i64 0) i).length) := zh (by rw [HLN.out]; exact hlt)
   have HR := zh hrr; have HBW := zh hbw; obtain ⟨q, hq⟩ : ∃ q, b + i = q := ⟨_, rfl⟩
   have hwq : wrap64 ((b : Int) + (i : Int)) = (q : Int) := by
    have h1 : (b : Int) + (i : Int) = (q : Int) := by omega
    rw [h1]; exact zbaa (by have := HBB.out; have := HMM.out; omega)
   rw [hq] at HXI; clear hrr hbw hlt hq
   go_wp2_with ((with_reducible refine HR.out.wpStore1K i 3 (.int .i64 (q : Int)) zcx HLI.out (zbw _ _) (zcs _ _) ?_ ?_); (first | rfl | (simp only [storeOf, Act.eval]; exact congrArg (fun z => some (_, _, Value.int .i64 z)) hwq)); intro u3 r3 o3 s3; rw [HXI.out] at r3; have R3 := zh r3; have B3 := zh (HBW.out.trans (o3.below HGS.out HBW.out.size)); clear r3 o3 s3)
   go_roundw
   case rel => exact ⟨i + 1, by omega, by go_num, R3.out, B3.out⟩
   case measure => simp [intOf]; omega
  .obtain rfl : i = m := by omega
   rw [HF.out] at hrr; have HR := zh hrr; have HBW := zh hbw; clear hrr hbw hlt hi; go_wp2; go_ret2; exact ⟨⟨g, rfl, HGS.out, HR.out⟩, HBW.out⟩
def wipeF (n s slot : Nat) : List Fop := seqF (n * s) fun i => eraF (slot * (n * s) + i)
theorem zsj (wB : World) (A : ArD) (w : World) (D : Dv) (h : Are wB A w D) (slot : Nat) (hs : slot < 3) :
  Calls Tryz.prog 15 #[.pointer (some ⟨A.a, 0, none⟩), .int .i64 (slot : Int)] w fun e w' => e = .returned (.int .i64 (runE (wipeF A.n A.s slot) D)) ∧ Are wB A w' (runD (wipeF A.n A.s slot) D) ∧ Onl A.sh.S w w' := by
 have hM : A.n * A.s <= 112 := by
  have h1 : A.n <= 14 := by have := h.k8; have := h.p6; unfold ArD.n; omega
  have h2 : A.n * A.s <= 14 * A.s := Nat.mul_le_mul_right _ h1
  have := h.s8; omega
 have HS := zh (zsi wB A w D h slot hs)
 have HSL : Hid (∀ k ∈ A.sh.S, k < w.heap.size) := zh h.dev.lt
 have HAR : Hid (∀ u, Below w.heap.size w u -> Are wB A u D) := zh fun u hu => h.step hu
 have HA1 : Hid (∀ (u : World) (D' : Dv), Are wB A u D' -> u.cell? ⟨A.a, 1, none⟩ = some (.pointer (some ⟨A.sh.b, 0, none⟩))) := zh fun u D' h1 => h1.a1
 have HER : Hid (∀ (u : World) (D' : Dv) (n : Nat), Are wB A u D' -> Calls Tryz.prog 49 #[.pointer (some ⟨A.sh.b, 0, none⟩), .int .i64 (n : Int)] u fun e w' => e = .returned (.int .i64 (runE (eraF n) D')) ∧ Are wB A w' (runD (eraF n) D') ∧ Onl A.sh.S u w') := zh fun u D' n h1 => by
  refine (zoi A.sh D' n u h1.dev).mono ?_
  rintro e w' ⟨rfl, h2, h3⟩
  exact ⟨rfl, h1.go h3 h2 (zzn h1.dev.ok h2), h3⟩
 unfold wipeF
 obtain ⟨m, hm⟩ : ∃ m, A.n * A.s = m := ⟨_, rfl⟩
 rw [hm] at HS hM ⊢
 obtain ⟨b, hb⟩ : ∃ b, slot * m = b := ⟨_, rfl⟩
 rw [hb] at HS ⊢
 have hmi : (m : Int) <= 112 := by omega
 obtain ⟨W, hW⟩ : ∃ W : Nat -> List Fop, (fun i => eraF (b + i)) = W := ⟨_, rfl⟩
 have HWW : Hid (∀ i, eraF (b + i) = W i) := zh fun i => congrFun hW i
 rw [hW]
 obtain ⟨a, ha⟩ : ∃ a, A.a = a := ⟨_, rfl⟩
 obtain ⟨d, hd⟩ : ∃ d, A.sh.b = d := ⟨_, rfl⟩
 rw [ha] at HS HA1 ⊢
 rw [hd] at HA1 HER
 clear h hs hM hm hb hW ha hd
 go_enter Tryz.func15, Tryz.ntmps15
 go_wp2_with (go_at_call 48; (with_reducible refine HS.out.mono ?_); rintro e w1 ⟨⟨g1, rfl, q1, r1⟩, b1⟩; have R1 := zh r1; have B1 := zh b1; have N1 : Hid (g1 ∉ A.sh.S) := zh (fun hm => by have := HSL.out _ hm; omega); clear b1 q1 r1)
 have HA2 := zh (HAR.out w1 B1.out)
 go_loopw [21] (fun x wr => ∃ i : Nat, i <= m ∧ x = .int .i64 i ∧ runE (seqF i W) D = 0 ∧ Are wB A wr (runD (seqF i W) D) ∧ Onl A.sh.S w1 wr) (fun x _ => m - (intOf x).toNat)
 case atStart => exact ⟨0, Nat.zero_le _, rfl, rfl, HA2.out, Onl.refl _ _⟩
 case round =>
  obtain ⟨i, hi, rfl, hrz, hav, hon⟩ := hrel
  by_cases hlt : i < m
  .have hii : (i : Int) < (m : Int) := by omega
   have k1 : wr.cell? ⟨g1, i, none⟩ = some (.int .i64 ((b + i : Nat) : Int)) := ((R1.out.onl hon N1.out).cell i).trans (by simp [slV, hlt])
   have cr := HA1.out wr _ hav; have HLI := zh (HER.out wr _ (b + i) hav); rw [HWW.out] at HLI; obtain ⟨E, hE⟩ : ∃ E, runE (W i) (runD (seqF i W) D) = E := ⟨_, rfl⟩
   have HST : Hid (¬ E = 0 -> runE (seqF m W) D = E ∧ runD (seqF m W) D = runD (W i) (runD (seqF i W) D)) := zh fun hne => by
    have h1 := zjp (f := W) hlt hrz (by rw [hE]; exact hne)
    exact ⟨h1.1.trans hE, h1.2⟩
   have HGO : Hid (E = 0 -> runE (seqF (i + 1) W) D = 0 ∧ runD (seqF (i + 1) W) D = runD (W i) (runD (seqF i W) D)) := zh fun he => zlj (n := m) hrz (by rw [hE]; exact he)
   rw [hE] at HLI; obtain ⟨DI, hDI⟩ : ∃ D', runD (W i) (runD (seqF i W) D) = D' := ⟨_, rfl⟩; rw [hDI] at HLI HST HGO; obtain ⟨q, hq⟩ : ∃ q, ((b + i : Nat) : Int) = q := ⟨_, rfl⟩; rw [hq] at k1 HLI; have HON := zh hon; clear hrz hav hon hlt hE hDI hq
   cases hez : decide (E = 0)
   .have hne : ¬ E = 0 := of_decide_eq_false hez
    have hn1 : (E != 0) = true := bne_iff_ne.2 hne
    have hn2 : (E == 0) = false := beq_eq_false_iff_ne.2 hne
    have HSTOP := zh (HST.out hne); clear hez hne HGO HST
    go_wp2_with (go_at_call 49; (with_reducible refine HLI.out.mono ?_); rintro e u1 ⟨rfl, a1, o1⟩; have A1 := zh a1; have O1 := zh (HON.out.trans o1); clear a1 o1)
    go_ret; rw [HSTOP.out.1, HSTOP.out.2]; exact ⟨rfl, A1.out, (Onl.of_below B1.out).trans O1.out⟩
   .have hne : E = 0 := of_decide_eq_true hez
    have HGO1 := zh (HGO.out hne); rw [hne] at HLI; clear hez hne HGO HST
    go_wp2_with (go_at_call 49; (with_reducible refine HLI.out.mono ?_); rintro e u1 ⟨rfl, a1, o1⟩; have A1 := zh a1; have O1 := zh (HON.out.trans o1); clear a1 o1)
    go_roundw
    case rel => exact ⟨i + 1, by omega, by go_num, HGO1.out.1, HGO1.out.2 ▸ A1.out, O1.out⟩
    case measure => simp [intOf]; omega
  .obtain rfl : i = m := by omega
   have HRZ := zh hrz; have A1 := zh hav; have O1 := zh hon; clear hrz hav hon hlt hi; go_wp2; go_ret; rw [HRZ.out]; exact ⟨rfl, A1.out, (Onl.of_below B1.out).trans O1.out⟩
end
section
open Go.RowKit FlaMath CrcMath GfMath PolyMath RsMath SolMath GeoMath HeadMath NumMath
theorem zpz {B : Nat} {a b c : World} (h : Below B a b) (k : Below b.heap.size b c) (hB : B <= a.heap.size) : Below B a c := h.trans ⟨k.os, k.tape, k.output, k.size, fun q hq => k.block q (Nat.lt_of_lt_of_le hq (Nat.le_trans hB h.size))⟩
theorem zpa (L : List Bool) (a b j : Nat) : (lockF L a b).getD j false = if a <= j ∧ j < b ∧ j < L.length then true else L.getD j false := by
 rw [List.getD_eq_getElem?_getD, List.getD_eq_getElem?_getD]
 by_cases h : j < L.length
 .rw [List.getElem?_eq_getElem (by rw [zbr]; exact h), List.getElem?_eq_getElem h]
  simp only [lockF, List.getElem_mapIdx, Option.getD_some]
  by_cases h2 : a <= j ∧ j < b
  .rw [if_pos h2, if_pos ⟨h2.1, h2.2, h⟩]
  .rw [if_neg h2, if_neg fun hh => h2 ⟨hh.1, hh.2.1⟩]
 .rw [List.getElem?_eq_none (by rw [zbr]; omega), List.getElem?_eq_none (by omega), if_neg (by omega)]
structure Lkd (D : Dv) (m : Nat) : Prop where
 up : Up D
 yes : ∀ j, j < m -> D.L.getD j false = true
 no : ∀ j, m <= j -> D.L.getD j false = false
theorem zbml {D : Dv} (h : Up D) {m : Nat} (hm : m <= D.L.length) (hn : ∀ j, D.L.getD j false = false) : lockE D.L.length 0 m = 0 ∧ Lkd (D.lock 0 m) m ∧ (D.lock 0 m).C = D.C ∧ (D.lock 0 m).L.length = D.L.length := by
 have h0 : ¬ ((0 : Int) < 0 ∨ (m : Int) < 0 ∨ (D.L.length : Int) < m) := by omega
 refine ⟨by rw [lockE, if_neg h0], ?_, by rw [Dv.lock, if_neg h0], by rw [Dv.lock, if_neg h0]; exact zbr _ _ _⟩
 rw [Dv.lock, if_neg h0]
 refine ⟨⟨h.dn, h.lit, ⟨?_, ?_, ?_, ?_⟩⟩, fun j hj => ?_, fun j hj => ?_⟩
 .show 1 <= (lockF D.L _ _).length; rw [zbr]; exact h.ok.one
 .show (lockF D.L _ _).length <= 512; rw [zbr]; exact h.ok.top
 .show D.C.length = 64 * (lockF D.L _ _).length; rw [zbr]; exact h.ok.cells
 .show D.E.length = (lockF D.L _ _).length; rw [zbr]; exact h.ok.worn
 .show (lockF D.L _ _).getD j false = true
  rw [zpa, if_pos (by simp; omega)]
 .show (lockF D.L _ _).getD j false = false
  rw [zpa, if_neg (by simp; omega)]; exact hn j
theorem zyi {D : Dv} (h : Up D) {n s slot : Nat} (hm : 0 < n * s) (hp : slot * (n * s) < D.L.length) (hl : D.L.getD (slot * (n * s)) false = true) : runE (wipeF n s slot) D = 4 ∧ runD (wipeF n s slot) D = D := by
 obtain ⟨h1, h2⟩ := zop h hp hl
 obtain ⟨h3, h4⟩ := zli hm (fun i => eraF (slot * (n * s) + i)) (D := D) (by show runE (eraF (slot * (n * s) + 0)) D ≠ 0; rw [Nat.add_zero, h1]; decide)
 refine ⟨h3.trans ?_, h4.trans ?_⟩
 .show runE (eraF (slot * (n * s) + 0)) D = 4; rw [Nat.add_zero]; exact h1
 .show runD (eraF (slot * (n * s) + 0)) D = D; rw [Nat.add_zero]; exact h2
theorem Wrote.other {D D' : Dv} {A : ArD} {slot slot2 t : Nat} {f : Fb} {X : Nat -> List UInt8} (h : Wrote D A slot f) (h2 : Aft D (putsS (sec D.C) (plF A.n A.s slot2 t) X A.n) D') (hne : slot ≠ slot2) (hs : slot < 3) (ht : t < A.s) (hL : 3 * (A.n * A.s) <= D.L.length) : Wrote D' A slot f := fun t' ht' i hi => by
 rw [h2.at_ _ (by have := zpb hs ht' hi; omega), zev _ fun j hj e => hne (pl_slot ht hj ht' hi e).1.symm]
 exact h t' ht' i hi
def sameF (L : List UInt8) : Fb := fun _ c => L.getD c 0
theorem zbkd (L : List UInt8) (hL : L.length = 60) (i : Nat) : bkF (sameF L) i = L := by
 refine List.ext_getElem? fun c => ?_
 by_cases hc : c < 60
 .rw [zfd _ _ _ hc, sameF, List.getD_eq_getElem?_getD, List.getElem?_eq_getElem (by omega), Option.getD_some]
 .rw [List.getElem?_eq_none (by rw [zba]; omega), List.getElem?_eq_none (by omega)]
theorem zbbu (L : List UInt8) (hL : L.length = 60) (i : Nat) : bytes (grid (i + 1) (sameF L)) = bytes (grid i (sameF L)) ++ [bytes L].flatten := by
 rw [zho, zbkd L hL, zai]; simp
theorem zgr (g : Gm) (im : ByteArray) (L : List UInt8) (w : World) (hg : Glob w) (hL : L.length = 60) (hz : im.size <= 140737488355328) (hb : right g = false ∨ (right g = true ∧ (room g < (im.size : Int) ∨ 1000 < im.size))) :
  Calls Tryz.prog 5 #[geoV g, .string im, .agg (bytes L).toArray] w fun e w' => e = .returned (.bool true) ∧ Below w.heap.size w w' := by
 have HAW : Hid (∀ u, Glob u -> Calls Tryz.prog 6 #[] u fun e w' => e = .returned (.bool true) ∧ Below u.heap.size u w') := zh fun u hu => zig u hu
 have HG := zh hg
 obtain ⟨rt, hrt⟩ : ∃ b, right g = b := ⟨_, rfl⟩
 have HRT : Hid (∀ u, Calls Tryz.prog 9 #[geoV g] u fun e w' => e = .returned (.bool rt) ∧ Below u.heap.size u w') := zh fun u => by rw [<- hrt]; exact zrn g u
 obtain ⟨rm, hrm⟩ : ∃ r, room g = r := ⟨_, rfl⟩
 have HRM : Hid (∀ u, Calls Tryz.prog 18 #[geoV g] u fun e w' => e = .returned (.int .i64 rm) ∧ Below u.heap.size u w') := zh fun u => by rw [<- hrm]; exact zeo g u
 rw [hrt, hrm] at hb
 have LM : Hid ((bytes L).length = 60) := zh (by rw [zaa, hL])
 obtain ⟨M, hM⟩ : ∃ M, bytes L = M := ⟨_, rfl⟩
 rw [hM] at LM ⊢
 obtain ⟨d, p, s⟩ := g
 dsimp only [geoV] at HRT HRM ⊢
 clear hg hrt hrm hM hL hz
 show Calls Tryz.prog 5 #[.agg [Value.int .i64 d, .int .i64 p, .int .i64 s].toArray, .string im, .agg M.toArray] w _
 rcases hb with rfl | ⟨rfl, h1⟩
 .go_enter Tryz.func5, Tryz.ntmps5
  go_wp2_with (first
   | ((with_reducible refine wpBoxK (w := w) [Value.int .i64 d, .int .i64 p, .int .i64 s] 23 ?_ ?_); rfl; intro u1 r1 b1 s1; have RG1 := zh r1; have B1 := zh b1; clear r1 b1 s1)
   | ((with_reducible refine wpBoxK (w := u1) M 40 ?_ ?_); rfl; intro u2 r2 b2 s2; have RG2 := zh (RG1.out.step b2); have B2 := zh (B1.out.next b2); have G2 := zh (HG.out.step (B1.out.next b2)); clear r2 b2 s2)
   | (go_at_call 6; (with_reducible refine (HAW.out u2 G2.out).mono ?_); rintro e u3 ⟨rfl, b3⟩; have RG3 := zh (RG2.out.step b3); have B3 := zh (B2.out.next b3); clear b3)
   | ((with_reducible refine RG3.out.wpLoadK 23 fits_geo rfl ?_ ?_); rfl)
   | (go_at_call 9; (with_reducible refine (HRT.out u3).mono ?_); rintro e u4 ⟨rfl, b4⟩; have RG4 := zh (RG3.out.step b4); have B4 := zh (B3.out.next b4); clear b4))
  go_ret
  exact ⟨rfl, B4.out⟩
 .have h2 : rm < (im.size : Int) ∨ (¬ rm < (im.size : Int) ∧ (1000 : Int) < (im.size : Int)) := by omega
  clear h1
  rcases h2 with h2 | ⟨h2, h3⟩
  all_goals
   go_enter Tryz.func5, Tryz.ntmps5
   go_wp2_with (first
    | ((with_reducible refine wpBoxK (w := w) [Value.int .i64 d, .int .i64 p, .int .i64 s] 23 ?_ ?_); rfl; intro u1 r1 b1 s1; have RG1 := zh r1; have B1 := zh b1; clear r1 b1 s1)
    | ((with_reducible refine wpBoxK (w := u1) M 40 ?_ ?_); rfl; intro u2 r2 b2 s2; have RG2 := zh (RG1.out.step b2); have B2 := zh (B1.out.next b2); have G2 := zh (HG.out.step (B1.out.next b2)); clear r2 b2 s2)
    | (go_at_call 6; (with_reducible refine (HAW.out u2 G2.out).mono ?_); rintro e u3 ⟨rfl, b3⟩; have RG3 := zh (RG2.out.step b3); have B3 := zh (B2.out.next b3); clear b3)
    | ((with_reducible refine RG3.out.wpLoadK 23 fits_geo rfl ?_ ?_); rfl)
    | (go_at_call 9; (with_reducible refine (HRT.out u3).mono ?_); rintro e u4 ⟨rfl, b4⟩; have RG4 := zh (RG3.out.step b4); have B4 := zh (B3.out.next b4); clear b4)
    | ((with_reducible refine RG4.out.wpLoadG 23 fits_geo rfl ?_ ?_); rfl)
    | (go_at_call 18; (with_reducible refine (HRM.out u4).mono ?_); rintro e u5 ⟨rfl, b5⟩; have B5 := zh (B4.out.next b5); clear b5))
   go_ret; exact ⟨rfl, B5.out⟩
structure LkSt (wB : World) (A : ArD) (N : Nat) (f : Fb) (u : World) (D : Dv) : Prop where
 are : Are wB A u D
 lk : Lkd D (A.n * A.s)
 wr : Wrote D A 0 f
 len : D.L.length = N
theorem LkSt.step {wB u u' : World} {A : ArD} {N : Nat} {f : Fb} {D : Dv} (h : LkSt wB A N f u D) (hb : Below u.heap.size u u') : LkSt wB A N f u' D := ⟨h.are.step hb, h.lk, h.wr, h.len⟩
theorem zoh (k p s : Nat) (hk : 1 <= k) (hk8 : k <= 8) (hp : 2 <= p) (hp6 : p <= 6) (hs : 1 <= s) (hs8 : s <= 8) (im : ByteArray) (L : List UInt8) (w : World) (hg : Glob w) (hL : L.length = 60) (hroom : (im.size : Int) <= room (gmN k p s)) (hz : im.size <= 1000) :
  Calls Tryz.prog 5 #[geoV (gmN k p s), .string im, .agg (bytes L).toArray] w fun e w' => e = .returned (.bool true) ∧ Below w.heap.size w w' := by
 have hr := zft hk hk8 hp hp6 hs hs8
 obtain ⟨H, hH⟩ : ∃ H, ShaMath.sha im.data.toList = H := ⟨_, rfl⟩
 have hlH : H.length = 32 := by rw [<- hH, ShaMath.sha_length]
 obtain ⟨H0, hH0⟩ : ∃ H, ShaMath.sha ({ data := #[] } : ByteArray).data.toList = H := ⟨_, rfl⟩
 have hlH0 : H0.length = 32 := by rw [<- hH0, ShaMath.sha_length]
 have hok : hOk 0 0 0 (im.size : Int) = true := zuq ⟨by omega, by omega, by omega, by omega⟩
 have hN := zrd hk8 hp6 hs8
 have HAW : Hid (∀ u, Glob u -> Calls Tryz.prog 6 #[] u fun e w' => e = .returned (.bool true) ∧ Below u.heap.size u w') := zh fun u hu => zig u hu
 have HG := zh hg
 have HRT : Hid (∀ u, Calls Tryz.prog 9 #[geoV (gmN k p s)] u fun e w' => e = .returned (.bool true) ∧ Below u.heap.size u w') := zh fun u => by rw [<- hr]; exact zrn _ u
 have HRM : Hid (∀ u, Calls Tryz.prog 18 #[geoV (gmN k p s)] u fun e w' => e = .returned (.int .i64 (room (gmN k p s))) ∧ Below u.heap.size u w') := zh fun u => zeo _ u
 have HFR : Hid (∀ u, Calls Tryz.prog 10 #[geoV (gmN k p s)] u fun e w' => (∃ a c cc b sb sh, e = .returned (.tuple #[.pointer (some ⟨a, 0, none⟩), .pointer (some ⟨sh.b, 0, none⟩)]) ∧ Are w' ⟨a, c, cc, b, sb, k, p, s, sh⟩ w' (D0 (3 * ((k + p) * s) + 18)) ∧ (∀ q ∈ sh.S, u.heap.size <= q)) ∧ Below u.heap.size u w') := zh fun u => zih k p s u hk hk8 hp hp6 hs hs8
 have HGD : Hid (∀ u, Calls Tryz.prog 19 #[geoV (gmN k p s)] u fun e w' => e = .returned (.tuple #[.int .i64 0, .int .i64 (((k + p) * s : Nat) : Int)]) ∧ Below u.heap.size u w') := zh fun u => by
  have h1 := zbav (gmN k p s) u
  rwa [zjr ((zbj _).1 hr), show ((gmN k p s).d + (gmN k p s).p) * (gmN k p s).s = (((k + p) * s : Nat) : Int) from by show ((k : Int) + (p : Int)) * (s : Int) = _; push_cast; rfl] at h1
 have HOF : Hid (∀ u, Glob u -> Calls Tryz.prog 21 #[.agg #[.int .i64 0, .int .i64 0, .int .i64 0], .string im] u fun e w' => e = .returned (.agg (hdv 0 0 0 (im.size : Int) H).toArray) ∧ Below u.heap.size u w') := zh fun u hu => zhx 0 0 0 im H u hH hu (by omega)
 have HOE : Hid (∀ u, Glob u -> Calls Tryz.prog 21 #[.agg #[.int .i64 0, .int .i64 0, .int .i64 0], .string { data := #[] }] u fun e w' => e = .returned (.agg (hdv 0 0 0 0 H0).toArray) ∧ Below u.heap.size u w') := zh fun u hu => zhx 0 0 0 { data := #[] } H0 u hH0 hu (by decide)
 have hMN : 3 * ((k + p) * s) <= 3 * ((k + p) * s) + 18 := by omega
 have hM0 : 0 < (k + p) * s := Nat.mul_pos (by omega) (by omega)
 have HFL : Hid (∀ (wB u : World) (a c cc b sb : Nat) (sh : Sh), Are wB ⟨a, c, cc, b, sb, k, p, s, sh⟩ u (D0 (3 * ((k + p) * s) + 18)) -> Calls Tryz.prog 20 #[.pointer (some ⟨a, 0, none⟩), .int .i64 0, .agg (hdv 0 0 0 (im.size : Int) H).toArray, .string im] u fun e w' => e = .returned (.int .i64 0) ∧ (∃ D, Up D ∧ Wrote D ⟨a, c, cc, b, sb, k, p, s, sh⟩ 0 (blF (k * s) (headB 0 0 0 (im.size : Int) H ++ im.data.toList)) ∧ (∀ j, D.L.getD j false = false) ∧ D.L.length = 3 * ((k + p) * s) + 18 ∧ Are wB ⟨a, c, cc, b, sb, k, p, s, sh⟩ w' D) ∧ Onl sh.S u w') := zh fun wB u a c cc b sb sh h1 => by
  have h2 := zfx wB _ u _ h1 0 (by omega) 0 0 0 (im.size : Int) H im hlH hok rfl hroom
  obtain ⟨h3, h4, h5⟩ := filled (zble (n := 3 * ((k + p) * s) + 18) (by omega) hN) ⟨a, c, cc, b, sb, k, p, s, sh⟩ (slot := 0) (blF (k * s) (headB 0 0 0 (im.size : Int) H ++ im.data.toList)) (by omega) (by rw [zoz]; exact hMN) (zzb _ _ _ _)
  refine h2.mono ?_
  rintro e w' ⟨rfl, q2, q3⟩
  refine ⟨congrArg (fun z => Ending.returned (.int .i64 z)) h3, ⟨_, h4.up, h5, fun j => ?_, ?_, q2⟩, q3⟩
  .rw [h4.l]
   simp only [D0, List.getD_eq_getElem?_getD, List.getElem?_replicate]
   split <;> rfl
  .rw [h4.l, zoz]
 have HLK : Hid (∀ (wB u : World) (a c cc b sb : Nat) (sh : Sh) (D : Dv), Are wB ⟨a, c, cc, b, sb, k, p, s, sh⟩ u D -> Up D -> Wrote D ⟨a, c, cc, b, sb, k, p, s, sh⟩ 0 (blF (k * s) (headB 0 0 0 (im.size : Int) H ++ im.data.toList)) -> (∀ j, D.L.getD j false = false) -> D.L.length = 3 * ((k + p) * s) + 18 -> Calls Tryz.prog 22 #[.pointer (some ⟨sh.b, 0, none⟩), .int .i64 0, .int .i64 (((k + p) * s : Nat) : Int)] u fun e w' => e = .returned (.int .i64 0) ∧ (∃ D', LkSt wB ⟨a, c, cc, b, sb, k, p, s, sh⟩ (3 * ((k + p) * s) + 18) (blF (k * s) (headB 0 0 0 (im.size : Int) H ++ im.data.toList)) w' D') ∧ Onl sh.S u w') := zh fun wB u a c cc b sb sh D h1 h2 h3 h4 h5 => by
  obtain ⟨q1, q2, q3, q4⟩ := zbml h2 (m := (k + p) * s) (by omega) h4
  refine (zbiv sh D 0 (((k + p) * s : Nat) : Int) u h1.dev).mono ?_
  rintro e w' ⟨rfl, r2, r3⟩
  exact ⟨congrArg (fun z => Ending.returned (.int .i64 z)) q1, ⟨_, h1.go r3 r2 (by rw [q3]), q2, fun t ht i hi => by rw [q3]; exact h3 t ht i hi, q4.trans h5⟩, r3⟩
 have HF2 : Hid (∀ (wB u : World) (a c cc b sb : Nat) (sh : Sh) (D : Dv) (f : Fb), LkSt wB ⟨a, c, cc, b, sb, k, p, s, sh⟩ (3 * ((k + p) * s) + 18) f u D -> Calls Tryz.prog 20 #[.pointer (some ⟨a, 0, none⟩), .int .i64 0, .agg (hdv 0 0 0 0 H0).toArray, .string { data := #[] }] u fun e w' => e = .returned (.int .i64 4) ∧ LkSt wB ⟨a, c, cc, b, sb, k, p, s, sh⟩ (3 * ((k + p) * s) + 18) f w' D ∧ Onl sh.S u w') := zh fun wB u a c cc b sb sh D f h1 => by
  have h2 := zfx wB _ u _ h1.are 0 (by omega) 0 0 0 0 H0 { data := #[] } hlH0 (by decide) rfl (Int.le_trans (by omega) hroom)
  have hl0 : D.L.getD (plF (k + p) s 0 0 0) false = true := h1.lk.yes _ (by show 0 * ((k + p) * s) + 0 * s + 0 < (k + p) * s; omega)
  obtain ⟨q1, q2⟩ := zxa h1.lk.up (n := k + p) (s := s) (slot := 0) (fun t => wrS k p (stF (blF (k * s) (headB 0 0 0 0 H0 ++ ({ data := #[] } : ByteArray).data.toList)) k t)) (by omega) (by omega) (by rw [h1.len]; show 0 * ((k + p) * s) + 0 * s + 0 < _; omega) hl0
  refine h2.mono ?_
  rintro e w' ⟨rfl, r2, r3⟩
  refine ⟨congrArg (fun z => Ending.returned (.int .i64 z)) q1, ⟨?_, h1.lk, h1.wr, h1.len⟩, r3⟩
  have r4 : Are wB ⟨a, c, cc, b, sb, k, p, s, sh⟩ w' (runD (fillF (k + p) s 0 fun t => wrS k p (stF (blF (k * s) (headB 0 0 0 0 H0 ++ ({ data := #[] } : ByteArray).data.toList)) k t)) D) := r2
  rwa [q2] at r4
 have HWP : Hid (∀ (wB u : World) (a c cc b sb : Nat) (sh : Sh) (D : Dv) (f : Fb), LkSt wB ⟨a, c, cc, b, sb, k, p, s, sh⟩ (3 * ((k + p) * s) + 18) f u D -> Calls Tryz.prog 15 #[.pointer (some ⟨a, 0, none⟩), .int .i64 0] u fun e w' => e = .returned (.int .i64 4) ∧ LkSt wB ⟨a, c, cc, b, sb, k, p, s, sh⟩ (3 * ((k + p) * s) + 18) f w' D ∧ Onl sh.S u w') := zh fun wB u a c cc b sb sh D f h1 => by
  have h2 := zsj wB _ u _ h1.are 0 (by omega)
  obtain ⟨q1, q2⟩ := zyi h1.lk.up (n := k + p) (s := s) (slot := 0) hM0 (by rw [h1.len]; omega) (h1.lk.yes _ (by show 0 * ((k + p) * s) < (k + p) * s; omega))
  refine h2.mono ?_
  rintro e w' ⟨rfl, r2, r3⟩
  refine ⟨congrArg (fun z => Ending.returned (.int .i64 z)) q1, ⟨?_, h1.lk, h1.wr, h1.len⟩, r3⟩
  have r4 : Are wB ⟨a, c, cc, b, sb, k, p, s, sh⟩ w' (runD (wipeF (k + p) s 0) D) := r2
  rwa [q2] at r4
 have HW0 : Hid (∀ (wB u : World) (a c cc b sb : Nat) (sh : Sh) (D : Dv) (f : Fb) (la : Option Addr) (cap : Nat), LkSt wB ⟨a, c, cc, b, sb, k, p, s, sh⟩ (3 * ((k + p) * s) + 18) f u D -> Lies u u.heap.size la (bytes (grid k (sameF L))) -> Calls Tryz.prog 12 #[.pointer (some ⟨a, 0, none⟩), .int .i64 0, .int .i64 0, .slice la k cap] u fun e w' => e = .returned (.int .i64 4) ∧ LkSt wB ⟨a, c, cc, b, sb, k, p, s, sh⟩ (3 * ((k + p) * s) + 18) f w' D ∧ Onl sh.S u w') := zh fun wB u a c cc b sb sh D f la cap h1 hla => by
  have h2 := zfc wB ⟨a, c, cc, b, sb, k, p, s, sh⟩ u _ h1.are 0 0 (by omega) (by show 0 < s; omega) la cap (sameF L) hla
  have hl0 : D.L.getD (plF (k + p) s 0 0 0) false = true := h1.lk.yes _ (by show 0 * ((k + p) * s) + 0 * s + 0 < (k + p) * s; omega)
  obtain ⟨q1, q2⟩ := zlt h1.lk.up (n := k + p) (s := s) (slot := 0) (t := 0) (wrS k p (sameF L)) (by omega) (by rw [h1.len]; show 0 * ((k + p) * s) + 0 * s + 0 < _; omega) hl0
  refine h2.mono ?_
  rintro e w' ⟨rfl, r2, r3⟩
  refine ⟨congrArg (fun z => Ending.returned (.int .i64 z)) q1, ⟨?_, h1.lk, h1.wr, h1.len⟩, r3⟩
  have r4 : Are wB ⟨a, c, cc, b, sb, k, p, s, sh⟩ w' (runD (writeF (k + p) s 0 0 (wrS k p (sameF L))) D) := r2
  rwa [q2] at r4
 have HW1 : Hid (∀ (wB u : World) (a c cc b sb : Nat) (sh : Sh) (D : Dv) (f : Fb) (la : Option Addr) (cap : Nat), LkSt wB ⟨a, c, cc, b, sb, k, p, s, sh⟩ (3 * ((k + p) * s) + 18) f u D -> Lies u u.heap.size la (bytes (grid k (sameF L))) -> Calls Tryz.prog 12 #[.pointer (some ⟨a, 0, none⟩), .int .i64 1, .int .i64 0, .slice la k cap] u fun e w' => e = .returned (.int .i64 0) ∧ (∃ D', Up D' ∧ Wrote D' ⟨a, c, cc, b, sb, k, p, s, sh⟩ 0 f ∧ Are wB ⟨a, c, cc, b, sb, k, p, s, sh⟩ w' D') ∧ Onl sh.S u w') := zh fun wB u a c cc b sb sh D f la cap h1 hla => by
  have h2 := zfc wB ⟨a, c, cc, b, sb, k, p, s, sh⟩ u _ h1.are 1 0 (by omega) (by show 0 < s; omega) la cap (sameF L) hla
  obtain ⟨q1, q2⟩ := zwn h1.lk.up (n := k + p) (s := s) (slot := 1) (t := 0) (X := wrS k p (sameF L)) (by omega) (by omega) (fun i _ => zps _ _ _ _) (by rw [h1.len]; omega) (fun j hj _ => h1.lk.no j (by show (k + p) * s <= j; omega))
  refine h2.mono ?_
  rintro e w' ⟨rfl, r2, r3⟩
  exact ⟨congrArg (fun z => Ending.returned (.int .i64 z)) q1, ⟨_, q2.up, h1.wr.other q2 (by omega) (by omega) (by show 0 < s; omega) (by rw [h1.len]; exact hMN), r2⟩, r3⟩
 have HLD : Hid (∀ (wB u : World) (a c cc b sb : Nat) (sh : Sh) (D : Dv), Are wB ⟨a, c, cc, b, sb, k, p, s, sh⟩ u D -> Up D -> Wrote D ⟨a, c, cc, b, sb, k, p, s, sh⟩ 0 (blF (k * s) (headB 0 0 0 (im.size : Int) H ++ im.data.toList)) -> Glob u -> (∀ k ∈ sh.S, 2 < k) -> Calls Tryz.prog 14 #[.pointer (some ⟨a, 0, none⟩), .int .i64 0] u fun e w' => e = .returned (.tuple #[.agg (hdv 0 0 0 (im.size : Int) H).toArray, .string im, .int .i64 0, .int .i64 0]) ∧ Onl sh.S u w') := zh fun wB u a c cc b sb sh D h1 hu hw hgu hgs => by
  obtain ⟨h2, h3⟩ := hw.good
  have h4 := zik wB _ u D h1 hu 0 (by omega) 0 0 0 H im hH.symm hok hroom h2 hgu hgs
  refine h4.mono ?_
  rintro e w' ⟨rfl, _, q3⟩
  exact ⟨congrArg (fun c : Nat => Ending.returned (.tuple #[.agg (hdv 0 0 0 (im.size : Int) H).toArray, .string im, .int .i64 (c : Int), .int .i64 0])) (zkq h3), q3⟩
 have HGS : Hid (∀ (u : World) (sh : Sh), Below w.heap.size w u -> (∀ q ∈ sh.S, u.heap.size <= q) -> ∀ k ∈ sh.S, 2 < k) := zh fun u sh hu h k hk => by have := h k hk; have := hg.size; have := hu.size; omega
 have LV : Hid ((hdv 0 0 0 (im.size : Int) H).length = 36) := zh (zav _ _ _ _ _ hlH)
 have V1 := zh (zck 0 0 0 (im.size : Int) H)
 have HZ : Hid (∀ u, (zeroValue 29).run Tryz.prog u = .ok (.agg (hdv 0 0 0 0 (List.replicate 32 0)).toArray) u) := zh zcc
 have LZ : Hid ((hdv 0 0 0 0 (List.replicate 32 0)).length = 36) := zh (zav _ _ _ _ _ (by simp))
 have HTB : Hid (∀ u, Calls Tryz.prog 24 #[.agg (bytes L).toArray] u fun e w' => e = .returned (.string (str L)) ∧ Below u.heap.size u w') := zh fun u => zxw L u hL
 have HBB : Hid (∀ u, Calls Tryz.prog 23 #[.string (str L)] u fun e w' => e = .returned (.agg (bytes L).toArray) ∧ Below u.heap.size u w') := zh fun u => by
  have h1 := zvq (str L) u (by rw [zbl]; omega)
  rwa [zca, zbhh L hL] at h1
 have LM : Hid ((bytes L).length = 60) := zh (by rw [zaa, hL])
 have HNX : Hid (∀ i, bytes (grid (i + 1) (sameF L)) = bytes (grid i (sameF L)) ++ [bytes L].flatten) := zh (zbbu L hL)
 have HNL : Hid (([bytes L] : List (List Value)).flatten.length = 1 * 60) := zh (by simp [zaa, hL])
 have HM1 : Hid (([bytes L] : List (List Value)).flatten.all (·.oneCell') = true) := zh (by simpa using zbo L)
 have HVS : Hid (∀ l ∈ ([bytes L] : List (List Value)), l.length = 60) := zh fun l hl => by
  rcases List.mem_cons.1 hl with rfl | hl
  .rw [zaa, hL]
  .cases hl
 have HIB := zh zxi
 have HP0 : Hid (0 < 60) := zh (by omega)
 obtain ⟨Z, hZ⟩ : ∃ Z, hdv 0 0 0 0 (List.replicate 32 0) = Z := ⟨_, rfl⟩
 rw [hZ] at HZ LZ
 obtain ⟨V, hV⟩ : ∃ V, hdv 0 0 0 (im.size : Int) H = V := ⟨_, rfl⟩
 rw [hV] at HOF HFL HLD LV V1
 obtain ⟨V0, hV0⟩ : ∃ V, hdv 0 0 0 0 H0 = V := ⟨_, rfl⟩
 rw [hV0] at HOE HF2
 obtain ⟨f, hf⟩ : ∃ f, blF (k * s) (headB 0 0 0 (im.size : Int) H ++ im.data.toList) = f := ⟨_, rfl⟩
 rw [hf] at HFL HLK HLD
 obtain ⟨rm, hrm⟩ : ∃ r, room (gmN k p s) = r := ⟨_, rfl⟩
 rw [hrm] at HRM hroom
 obtain ⟨N, hNN⟩ : ∃ N, 3 * ((k + p) * s) + 18 = N := ⟨_, rfl⟩
 rw [hNN] at HFR HFL HLK HF2 HWP HW0 HW1
 obtain ⟨MM, hMM⟩ : ∃ M, (((k + p) * s : Nat) : Int) = M := ⟨_, rfl⟩
 rw [hMM] at HGD HLK
 obtain ⟨M, hM⟩ : ∃ M, bytes L = M := ⟨_, rfl⟩
 rw [hM] at HTB HBB LM HNX HNL HM1 HVS ⊢
 obtain ⟨LS, hLS⟩ : ∃ M, str L = M := ⟨_, rfl⟩
 rw [hLS] at HTB HBB
 obtain ⟨GB, hGB⟩ : ∃ G : Nat -> List Value, (fun i => bytes (grid i (sameF L))) = G := ⟨_, rfl⟩
 have HGB : Hid (∀ i, bytes (grid i (sameF L)) = GB i) := zh fun i => congrFun hGB i
 have HG0 : Hid (GB 0 = []) := zh (by rw [<- hGB]; rfl)
 simp only [HGB.out] at HNX HW0 HW1
 have HVL : Hid (0 < ([M] : List (List Value)).length) := zh (by show 0 < 1; omega)
 have HVM : Hid (([M] : List (List Value)).length * 60 <= 2 ^ 24) := zh (by show 1 * 60 <= 2 ^ 24; omega)
 have hnr : ¬ rm < (im.size : Int) := by omega
 have hnz : ¬ (1000 : Int) < (im.size : Int) := by omega
 have hki : (k : Int) <= 8 := by omega
 have hkp : (0 : Int) <= (k : Int) := by omega
 dsimp only [geoV, gmN] at HRT HRM HFR HGD ⊢
 clear hr hH hlH hH0 hlH0 hok hN hMN hM0 hg hL hroom hz hZ hV hV0 hf hrm hNN hMM hM hLS hGB hk hk8 hp hp6 hs hs8
 show Calls Tryz.prog 5 #[.agg [Value.int .i64 (k : Int), .int .i64 (p : Int), .int .i64 (s : Int)].toArray, .string im, .agg M.toArray] w _
 go_enter Tryz.func5, Tryz.ntmps5
 go_wp2_with (first
  | ((with_reducible refine wpBoxK (w := w) [Value.int .i64 (k : Int), .int .i64 (p : Int), .int .i64 (s : Int)] 23 ?_ ?_); rfl; intro u1 r1 b1 s1; have RG1 := zh r1; have B1 := zh b1; clear r1 b1 s1)
  | ((with_reducible refine wpBoxK (w := u1) M 40 ?_ ?_); rfl; intro u2 r2 b2 s2; have RB2 := zh r2; have RG2 := zh (RG1.out.step b2); have B2 := zh (B1.out.next b2); have G2 := zh (HG.out.step (B1.out.next b2)); clear r2 b2 s2)
  | (go_at_call 6; (with_reducible refine (HAW.out u2 G2.out).mono ?_); rintro e u3 ⟨rfl, b3⟩; have RB3 := zh (RB2.out.step b3); have RG3 := zh (RG2.out.step b3); have B3 := zh (B2.out.next b3); clear b3)
  | ((with_reducible refine RG3.out.wpLoadK 23 fits_geo rfl ?_ ?_); rfl)
  | (go_at_call 9; (with_reducible refine (HRT.out u3).mono ?_); rintro e u4 ⟨rfl, b4⟩; have RB4 := zh (RB3.out.step b4); have RG4 := zh (RG3.out.step b4); have B4 := zh (B3.out.next b4); clear b4)
  | ((with_reducible refine RG4.out.wpLoadG 23 fits_geo rfl ?_ ?_); rfl)
  | (go_at_call 18; (with_reducible refine (HRM.out u4).mono ?_); rintro e u5 ⟨rfl, b5⟩; have RB5 := zh (RB4.out.step b5); have RG5 := zh (RG4.out.step b5); have B5 := zh (B4.out.next b5); clear b5)
  | ((with_reducible refine RG5.out.wpLoadK 23 fits_geo rfl ?_ ?_); rfl)
  | (go_at_call 10; (with_reducible refine (HFR.out u5).mono ?_); rintro e u6 ⟨⟨a, c, cc, b, sb, sh, rfl, a6, q6⟩, b6⟩; have A6 := zh a6; have Q6 := zh q6; have B6 := zh (B5.out.next b6); have RB6 := zh (RB5.out.step b6); have RG6 := zh (RG5.out.step b6); have G6 := zh (HG.out.step B6.out); have QG : Hid (∀ k ∈ sh.S, 2 < k) := zh (HGS.out u5 sh B5.out q6); have NG : Hid (w.heap.size ∉ sh.S) := zh (fun hm => by have := q6 _ hm; have := RG5.out.lt; omega); have NB : Hid (u1.heap.size ∉ sh.S) := zh (fun hm => by have := q6 _ hm; have := RB5.out.lt; omega); have QW : Hid (∀ q ∈ sh.S, w.heap.size <= q) := zh (fun q hq => Nat.le_trans B5.out.size (q6 q hq)); clear a6 q6 b6)
  | ((with_reducible refine RG6.out.wpLoadK 23 fits_geo rfl ?_ ?_); rfl)
  | (go_at_call 19; (with_reducible refine (HGD.out u6).mono ?_); rintro e u7 ⟨rfl, b7⟩; have A7 := zh (A6.out.step b7); have RB7 := zh (RB6.out.step b7); have RG7 := zh (RG6.out.step b7); have B7 := zh (B6.out.next b7); have G7 := zh (G6.out.step b7); clear b7)
  | (go_at_call 21; (with_reducible refine (HOF.out u7 G7.out).mono ?_); rintro e u8 ⟨rfl, b8⟩; have A8 := zh (A7.out.step b8); have RB8 := zh (RB7.out.step b8); have RG8 := zh (RG7.out.step b8); have B8 := zh (B7.out.next b8); have G8 := zh (G7.out.step b8); clear b8)
  | (go_at_call 20; (with_reducible refine (HFL.out _ u8 _ _ _ _ _ _ A8.out).mono ?_); rintro e u9 ⟨rfl, ⟨D9, p9, x9, l9, n9, a9⟩, o9⟩; have A9 := zh a9; have P9 := zh p9; have X9 := zh x9; have L9 := zh l9; have N9 := zh n9; have RB9 := zh (RB8.out.onl o9 NB.out); have RG9 := zh (RG8.out.onl o9 NG.out); have G9 := zh (G8.out.onl o9 QG.out); have B9 := zh (B8.out.trans (o9.below QW.out B8.out.size)); clear a9 p9 x9 l9 n9 o9)
  | (go_at_call 22; (with_reducible refine (HLK.out _ u9 _ _ _ _ _ _ _ A9.out P9.out X9.out L9.out N9.out).mono ?_); rintro e v0 ⟨rfl, ⟨DD, y0⟩, o0⟩; have Y0 := zh y0; have SB0 := zh (RB9.out.onl o0 NB.out); have SG0 := zh (RG9.out.onl o0 NG.out); have J0 := zh (G9.out.onl o0 QG.out); have C0 := zh (B9.out.trans (o0.below QW.out B9.out.size)); clear y0 o0))
 obtain ⟨bq, hbq⟩ : ∃ q, v0.heap.size = q := ⟨_, rfl⟩
 have HQ0 : Hid (bq <= v0.heap.size) := zh (by omega)
 have HQW : Hid (w.heap.size <= bq) := zh (by rw [<- hbq]; exact C0.out.size)
 have HQS : Hid (∀ q ∈ sh.S, q < bq) := zh fun q hq => by rw [<- hbq]; exact Y0.out.are.dev.lt q hq
 have HST : Hid (∀ u, Below bq v0 u -> LkSt _ _ N f u DD ∧ Row u w.heap.size 23 [Value.int .i64 (k : Int), .int .i64 (p : Int), .int .i64 (s : Int)] ∧ Row u u1.heap.size 40 M ∧ Glob u ∧ Below w.heap.size w u) := zh fun u hu => by
  rw [<- hbq] at hu
  exact ⟨Y0.out.step hu, SG0.out.step hu, SB0.out.step hu, J0.out.step hu, C0.out.next hu⟩
 clear Y0 SG0 SB0 J0 C0 hbq RG1 RG2 RG3 RG4 RG5 RG6 RG7 RG8 RG9 RB2 RB3 RB4 RB5 RB6 RB7 RB8 RB9 A6 A7 A8 A9 G2 G6 G7 G8 G9 B1 B2 B3 B4 B5 B6 B7 B8 B9 HAW HRT HRM HFR HGD HOF HFL HLK HGS P9 X9 L9 N9 HG Q6
 go_loopw [11, 12] (fun v x wr => ∃ i : Nat, i <= k ∧ x = .int .i64 i ∧ wr.ownsRow bq 40 60 v i (GB i) ∧ Below bq v0 wr) (fun _ x _ => k - (intOf x).toNat)
 case atStart => exact ⟨0, Nat.zero_le _, rfl, ⟨by rw [HG0.out]; rfl, .inl ⟨rfl, rfl⟩⟩, zb⟩
 case round =>
  obtain ⟨i, hi, rfl, hown, hbd⟩ := hrel
  obtain ⟨av, cv, rfl, hlv⟩ := zfs hown
  obtain ⟨y1, y2, y3, y4, y5⟩ := HST.out wr hbd
  have f0 := y2.cell 0
  simp only [List.getElem?_cons_zero] at f0
  by_cases hlt : i < k
  .have hii : (i : Int) < (k : Int) := by omega
   have HBG : Big (i + 1 <= 1099511627776) := ⟨by omega⟩
   have HOWN := zh hown; have HBD := zh hbd; have HNXI := zh (HNX.out i); have RB := zh y3; clear hown hbd hlv y1 y2 y3 y4 y5 hlt
   go_wp2_with (first
    | ((with_reducible refine RB.out.wpLoadK 40 fits_block LM.out ?_ ?_); rfl)
    | (go_at_call 24; (with_reducible refine (HTB.out wr).mono ?_); rintro e z1 ⟨rfl, b1⟩; have D1 := zh (zpz HBD.out b1 HQ0.out); have O1 := zh (zbi HOWN.out b1); clear b1)
    | (go_at_call 23; (with_reducible refine (HBB.out z1).mono ?_); rintro e z2 ⟨rfl, b2⟩; have D2 := zh (zpz D1.out b2 HQ0.out); have O2 := zh (zbi O1.out b2); clear b2)
    | ((with_reducible refine wpBuildBK (w := z2) [M] 60 31 40 Tryz.underlying31 HIB.out HP0.out HVS.out HVL.out HVM.out ?_ ?_); rfl; intro z3 r3 b3 s3; have L3 := zh (zbk r3); have D3 := zh (zpz D2.out b3 HQ0.out); have O3 := zh (zbi O2.out b3); have Z3 : Hid (bq <= z3.heap.size) := zh (Nat.le_trans HQ0.out D3.out.size); clear r3 b3 s3)
    | ((with_reducible refine wpAppendM 1 O3.out Tryz.underlying31 zgi L3.out HNL.out Nat.one_pos HP0.out HM1.out HBG Z3.out ?_ ?_); rfl; intro v7 z4 g1 g2 g8; have O4 := zh g1; have D4 : Hid (Below bq v0 z4) := zh (D3.out.grown g2 Z3.out (fun q hq => (O3.out.lt q hq).1)); clear g1 g2 g8))
   go_roundw
   case rel => exact ⟨i + 1, by omega, by go_num, by rw [HNXI.out]; exact O4.out, D4.out⟩
   case measure => simp [intOf]; omega
  .obtain rfl : i = k := by omega
   have Y := zh y1; have J := zh y4; have C := zh y5; have HOWN := zh hown
   have HLI : Hid (∀ u, Onl sh.S wr u -> Lies u u.heap.size av (GB i)) := zh fun u hu => by
    obtain ⟨a', c', e', h2⟩ := zfs (zfj hown hu HQS.out)
    injection e' with e1 e2 e3
    rw [e1]; exact h2
   clear hown hbd hlv y1 y2 y3 y4 y5 hlt hi
   go_wp2_with (first
    | (go_at_call 21; (with_reducible refine (HOE.out wr J.out).mono ?_); rintro e z1 ⟨rfl, b1⟩; have Y1 := zh (Y.out.step b1); have N1 := zh (Onl.of_below (S := sh.S) b1); have J1 := zh (J.out.step b1); have C1 := zh (C.out.next b1); clear b1)
    | (go_at_call 20; (with_reducible refine (HF2.out _ z1 _ _ _ _ _ _ _ _ Y1.out).mono ?_); rintro e z2 ⟨rfl, y2, o2⟩; have Y2 := zh y2; have N2 := zh (N1.out.trans o2); have J2 := zh (J1.out.onl o2 QG.out); have C2 := zh (C1.out.trans (o2.below QW.out C1.out.size)); clear y2 o2)
    | (go_at_call 15; (with_reducible refine (HWP.out _ z2 _ _ _ _ _ _ _ _ Y2.out).mono ?_); rintro e z3 ⟨rfl, y3, o3⟩; have Y3 := zh y3; have N3 := zh (N2.out.trans o3); have J3 := zh (J2.out.onl o3 QG.out); have C3 := zh (C2.out.trans (o3.below QW.out C2.out.size)); clear y3 o3)
    | (go_at_call 12; (with_reducible refine (HW0.out _ z3 _ _ _ _ _ _ _ _ _ _ Y3.out (HLI.out z3 N3.out)).mono ?_); rintro e z4 ⟨rfl, y4, o4⟩; have Y4 := zh y4; have N4 := zh (N3.out.trans o4); have J4 := zh (J3.out.onl o4 QG.out); have C4 := zh (C3.out.trans (o4.below QW.out C3.out.size)); clear y4 o4)
    | (go_at_call 12; (with_reducible refine (HW1.out _ z4 _ _ _ _ _ _ _ _ _ _ Y4.out (HLI.out z4 N4.out)).mono ?_); rintro e z5 ⟨rfl, ⟨D5, p5, x5, a5⟩, o5⟩; have P5 := zh p5; have X5 := zh x5; have A5 := zh a5; have J5 := zh (J4.out.onl o5 QG.out); have C5 := zh (C4.out.trans (o5.below QW.out C4.out.size)); clear p5 x5 a5 o5)
    | (go_at_call 14; (with_reducible refine (HLD.out _ z5 _ _ _ _ _ _ _ A5.out P5.out X5.out J5.out QG.out).mono ?_); rintro e z6 ⟨rfl, o6⟩; have C6 := zh (C5.out.trans (o6.below QW.out C5.out.size)); clear o6)
    | ((with_reducible refine wpAllocK (w := z6) Z 29 HZ.out ?_ ?_); rfl; intro z7 r7 b7 s7; have R7 := zh r7; have C7 := zh (C6.out.next b7); clear r7 b7 s7)
    | ((with_reducible refine R7.out.wpStoreK 29 V fits_head LZ.out LV.out V1.out ?_ ?_); rfl; intro z8 r8 o8 s8; have C8 := zh (C7.out.trans (o8.below C6.out.size C7.out.size)); clear r8 o8 s8))
   go_ret; exact ⟨by simp, C8.out⟩
end
section
open Go.RowKit
def TG : Open.Ty := .pair (.int .i64) (.pair (.int .i64) (.pair (.int .i64) .unit))
theorem reads_geo {w : World} {cs : List Value} {x : TG.den} (h : Open.Reads w TG cs x) : ∃ d p s : Int, cs = [.int .i64 d, .int .i64 p, .int .i64 s] := by
 have hl : cs.length = 3 := h.length
 match cs, hl with
 | [a, b, c], _ =>
  obtain ⟨⟨h1, g1⟩, ⟨h2, g2⟩, ⟨h3, g3⟩, _⟩ := h
  have e1 : a = .int .i64 x.1 := by simpa [Open.Ty.size] using h1
  have e2 : b = .int .i64 x.2.1 := by simpa [Open.Ty.size] using h2
  have e3 : c = .int .i64 x.2.2.1 := by simpa [Open.Ty.size] using h3
  exact ⟨_, _, _, by rw [e1, e2, e3]⟩
end
section
open Go.RowKit FlaMath CrcMath GfMath PolyMath RsMath SolMath GeoMath HeadMath NumMath
theorem areaLocked_walk (d p s : Int) (im : ByteArray) (L : List UInt8) (w : World) (hg : Glob w) (hL : L.length = 60) (hz : im.size <= 140737488355328) :
  Calls Tryz.prog 5 #[geoV ⟨d, p, s⟩, .string im, .agg (bytes L).toArray] w fun e w' => e = .returned (.bool true) ∧ Below w.heap.size w w' := by
 cases hr : right ⟨d, p, s⟩ with
 | false => exact zgr _ im L w hg hL hz (.inl hr)
 | true =>
  by_cases h1 : room ⟨d, p, s⟩ < (im.size : Int) ∨ 1000 < im.size
  .exact zgr _ im L w hg hL hz (.inr ⟨hr, h1⟩)
  .obtain ⟨k, q, t, e, h2, h3, h4, h5, h6, h7⟩ := zbjv hr
   rw [e] at h1 ⊢; exact zoh k q t h2 h3 h4 h5 h6 h7 im L w hg hL (by omega) (by omega)
end
end Go.Proofs.YtojimgbcghiblaaGreatDoor