import Derived.Test.YtojimgbcghiblaaGreatDoorR8
set_option linter.unusedVariables false
set_option maxRecDepth 100000
set_option maxHeartbeats 8000000
namespace Go.Proofs.YtojimgbcghiblaaGreatDoor
section
open Go.RowKit FlaMath CrcMath GfMath PolyMath RsMath SolMath GeoMath HeadMath NumMath
theorem Row.resultT4 {w : World} {g : Nat} {t : TypeId} {l : List Value} (h : Row w g t l) {fn : Func} {p q q2 q3 : Tmp} {ty : TypeId} (hf : fn.results = #[.cell p ty, .tmp q, .tmp q2, .tmp q3]) (tmps : Array Value) (d : TypeDesc)
  (hp : tmps.getD p undef = .pointer (some ⟨g, 0, none⟩)) (hu : Tryz.prog.underlying ty = some d) (hd : d.isRow = true) (hi : (Tryz.prog.info? ty).map (·.size) = some l.length) :
  (results fn tmps).run Tryz.prog w = .ok (.tuple #[.agg l.toArray, tmps.getD q undef, tmps.getD q2 undef, tmps.getD q3 undef]) w := by
 have hp' : tmps[p]?.getD undef = .pointer (some ⟨g, 0, none⟩) := by simpa using hp
 have := run_loadVar_row (P := Tryz.prog) w g t ty l.toArray (0, 0) d h hu (by cases d <;> simp_all) (by simpa using hi)
 simp [results, hf, hp', asAddr, this]
theorem Glob.onl {w w' : World} {S : List Nat} (h : Glob w) (ho : Onl S w w') (hs : ∀ k ∈ S, 2 < k) : Glob w' := by
 have hb : Below (2 + 1) w w' := ho.below (fun k hk => hs k hk) h.size
 exact ⟨Nat.le_trans h.size hb.size, fun i hi => (hb.cell (p := ⟨1, i, none⟩) (by show 1 < _; omega)).trans (h.first i hi), fun i hi => (hb.cell (p := ⟨2, i, none⟩) (by show 2 < _; omega)).trans (h.roots i hi)⟩
theorem zboo (wB : World) (A : ArD) (w : World) (D : Dv) (h : Are wB A w D) (hu : Up D) (slot : Nat) (hs : slot < 3) (T : ByteArray) (W E : Int) (hT : TxtIs D A slot T W E) (hE : E = 0) (hTz : T.size <= 140737488355328) (V : List Value) (hV : GetIs T.data.toList V 0) (hVl : V.length = 36) (hV1 : V.all (·.oneCell') = true) (nn : Nat) (hV3 : V[3]? = some (.int .i64 (nn : Int))) (hroom : room (gmN A.k A.p A.s) < (nn : Int)) :
  Calls Tryz.prog 14 #[.pointer (some ⟨A.a, 0, none⟩), .int .i64 (slot : Int)] w fun e w' => e = .returned (.tuple #[.agg (hdv 0 0 0 0 (List.replicate 32 0)).toArray, .string ByteArray.empty, .int .i64 0, .int .i64 12]) ∧ (∃ m, Are wB A w' (opsD D m)) ∧ Onl A.sh.S w w' := by
 have HZ : Hid (∀ u, (zeroValue 29).run Tryz.prog u = .ok (.agg (hdv 0 0 0 0 (List.replicate 32 0)).toArray) u) := zh zcn
 have HBZ : Hid (Tryz.prog.built 29 [] = some (hdv 0 0 0 0 (List.replicate 32 0)).toArray) := zh zfc
 have LZ : Hid ((hdv 0 0 0 0 (List.replicate 32 0)).length = 36) := zh (zam _ _ _ _ _ (by simp))
 have Z1 : Hid ((hdv 0 0 0 0 (List.replicate 32 0)).all (·.oneCell') = true) := zh (zcd _ _ _ _ _)
 have HSL : Hid (∀ k ∈ A.sh.S, k < w.heap.size) := zh h.dev.lt
 have GN : Hid (w.heap.size ∉ A.sh.S) := zh fun hm => by have := HSL.out _ hm; omega
 have HWB : Hid (wB.heap.size <= w.heap.size) := zh h.onl.size
 have HAR : Hid (∀ u, Below w.heap.size w u -> Are wB A u D) := zh fun u hu => h.step hu
 have HTX : Hid (∀ u, Are wB A u D -> Calls Tryz.prog 44 #[.pointer (some ⟨A.a, 0, none⟩), .int .i64 (slot : Int)] u fun e w' => e = .returned (.tuple #[.string T, .int .i64 W, .int .i64 E]) ∧ (∃ m, Are wB A w' (opsD D m)) ∧ Onl A.sh.S u w') := zh fun u h1 => zgu wB A u D h1 hu slot hs T W E hT
 have HA0 : Hid (∀ (u : World) (D' : Dv), Are wB A u D' -> u.cell? ⟨A.a, 0, none⟩ = some (.pointer (some ⟨A.c, 0, none⟩))) := zh fun u D' h1 => h1.a0
 have HAL : Hid (∀ (u : World) (D' : Dv), Are wB A u D' -> A.a < u.heap.size) := zh fun u D' h1 => h1.lt
 have HG : Hid (∀ (u : World) (D' : Dv), Are wB A u D' -> Calls Tryz.prog 46 #[.pointer (some ⟨A.c, 0, none⟩)] u fun e w' => e = .returned (.agg #[.int .i64 (A.k : Int), .int .i64 (A.p : Int), .int .i64 (A.s : Int)]) ∧ Below u.heap.size u w') := zh fun u D' h1 => h1.geoX
 have HRM : Hid (∀ u, Calls Tryz.prog 18 #[.agg #[Value.int .i64 (A.k : Int), .int .i64 (A.p : Int), .int .i64 (A.s : Int)]] u fun e w' => e = .returned (.int .i64 (room (gmN A.k A.p A.s))) ∧ Below u.heap.size u w') := zh fun u => zhb (gmN A.k A.p A.s) u
 obtain ⟨rm, hrm⟩ : ∃ r, room (gmN A.k A.p A.s) = r := ⟨_, rfl⟩
 rw [hrm] at HRM hroom
 obtain ⟨c, hc⟩ : ∃ c, A.c = c := ⟨_, rfl⟩
 obtain ⟨k, hk⟩ : ∃ k, A.k = k := ⟨_, rfl⟩
 obtain ⟨p, hp⟩ : ∃ p, A.p = p := ⟨_, rfl⟩
 obtain ⟨s, hss⟩ : ∃ s, A.s = s := ⟨_, rfl⟩
 rw [hc] at HG HA0
 rw [hk, hp, hss] at HG HRM
 have HGT : Hid (∀ u, Calls Tryz.prog 45 #[.string T] u fun e w' => e = .returned (.tuple #[.agg V.toArray, .int .i64 0]) ∧ Below u.heap.size u w') := zh fun u => zgx T T.data.toList V 0 u rfl hTz hV
 obtain ⟨Z, hZZ⟩ : ∃ Z, hdv 0 0 0 0 (List.replicate 32 0) = Z := ⟨_, rfl⟩
 rw [hZZ] at HZ HBZ LZ Z1 ⊢
 have LV := zh hVl
 have V1 := zh hV1
 have HV3 := zh hV3
 subst hE
 obtain ⟨a, ha⟩ : ∃ a, A.a = a := ⟨_, rfl⟩
 rw [ha] at HTX HA0 HAL ⊢
 clear h hu hs hT ha hc hk hp hss hZZ hV hTz hVl hV1 hV3 hrm
 go_enter Tryz.func14, Tryz.ntmps14
 go_wp2_with (first
  | ((with_reducible refine wpAllocK (w := w) Z 29 HZ.out ?_ ?_); rfl; intro u1 r1 b1 s1; have R1 := zh r1; have B1 := zh b1; clear r1 b1 s1)
  | (go_at_call 44; (with_reducible refine (HTX.out u1 (HAR.out u1 B1.out)).mono ?_); rintro e u2 ⟨rfl, ⟨m, a2⟩, o2⟩; have A2 := zh a2; have O2 := zh ((Onl.of_below B1.out).trans o2); have R2 := zh (R1.out.onl o2 GN.out); clear a2 o2)
  | (go_at_call 45; (with_reducible refine (HGT.out u2).mono ?_); rintro e u3 ⟨rfl, b3⟩; have A3 := zh (A2.out.step b3); have O3 := zh (O2.out.step b3); have R3 := zh (R2.out.step b3); clear b3)
  | ((with_reducible refine wpAllocK (w := u3) Z 29 HZ.out ?_ ?_); rfl; intro u4 r4 b4 s4; have K4 := zh r4; have R4 := zh (R3.out.step b4); have A4 := zh (A3.out.step b4); have O4 := zh (O3.out.step b4); have N4 : Hid (u3.heap.size ∉ A.sh.S) := zh (fun hm => by have := HSL.out _ hm; have := O3.out.size; omega); clear r4 b4 s4)
  | ((with_reducible refine K4.out.wpStoreK 29 V fits_head LZ.out LV.out V1.out ?_ ?_); rfl; intro u5 r5 o5 s5; have K5 := zh r5; have R5 := zh (R4.out.only o5 (by have := R3.out.lt; omega)); have A5 := zh (A4.out.only o5 (Nat.le_trans HWB.out O3.out.size) N4.out); have O5 := zh (O4.out.only o5 (Or.inr O3.out.size)); have NG : Hid (w.heap.size ≠ u3.heap.size) := zh (by have := R3.out.lt; omega); clear r5 o5 s5))
 obtain ⟨g4, hg4⟩ : ∃ g, u3.heap.size = g := ⟨_, rfl⟩
 rw [hg4] at K5 NG ⊢
 have LF5 : Hid (g4 < u5.heap.size) := zh K5.out.lt
 have F53 : Hid (u5.cell? ⟨g4, 3, none⟩ = some (.int .i64 (nn : Int))) := zh ((K5.out.cell 3).trans HV3.out)
 have C5 := zh (HA0.out u5 _ A5.out)
 have LA5 := zh (HAL.out u5 _ A5.out)
 clear hg4 R1 R2 R3 R4 A2 A3 A4 O2 O3 O4 K4 N4 B1
 refine zak [(0, 33), (1, 34), (2, 35), (3, 36), (4, 37), (5, 38), (6, 39), (7, 40), (8, 41)]
  (fun ii => [Is (.pointer (some ⟨g4, 3, none⟩)), Is (.int .i64 (nn : Int)), Is (.pointer (some ⟨a, 0, none⟩)), Is (.pointer (some ⟨a, 0, none⟩)), Is (.pointer (some ⟨a, 0, none⟩)), Is (.pointer (some ⟨c, 0, none⟩)), Is (.agg #[Value.int .i64 (k : Int), .int .i64 (p : Int), .int .i64 (s : Int)]), Is (.int .i64 rm), Is (.bool true)].getD ii (Is undef))
  (fun w' => Below u5.heap.size u5 w') (by kernel_rfl) (by kernel_rfl) (by decide) (by decide) (by kernel_rfl) rfl ?monoq ((zb).drew) ?stepq ?finq
 case monoq =>
  intro i
  match i with
  | 0 | 1 | 2 | 3 | 4 | 5 | 6 | 7 | 8 => exact Is.monot _
  | _ + 9 => exact Is.monot _
 case stepq =>
  refine zf ⟨?qs0, zf ⟨?qs1, zf ⟨?qs2, zf ⟨?qs3, zf ⟨?qs4, zf ⟨?qs5, zf ⟨?qs6, zf ⟨?qs7, zf ⟨?qs8, List.forall_mem_nil _⟩⟩⟩⟩⟩⟩⟩⟩⟩
  case qs0 | qs2 =>
   intro u wx hg hC; clear hC; refine wpOp_step rfl fun K hK => ?_
   simp only [puts, List.foldl]; go_simp; exact zK hK hg
  case qs1 =>
   intro u wx hg hC; have hJ0 := zj hC 0; clear hC
   have hcl : wx.cell? ⟨g4, 3, none⟩ = some (.int .i64 (nn : Int)) := (hg.cell (p := ⟨g4, 3, none⟩) LF5.out).trans F53.out
   refine wpOp_step rfl fun K hK => ?_
   simp only [puts, List.foldl]; go_simp; exact zK hK hg
  case qs3 =>
   intro u wx hg hC; have hJ2 := zj hC 2; clear hC; refine wpOp_step rfl fun K hK => ?_
   simp only [puts, List.foldl]; go_simp; exact zK hK hg
  case qs4 =>
   intro u wx hg hC; have hJ3 := zj hC 3; clear hC; refine wpOp_step rfl fun K hK => ?_
   simp only [puts, List.foldl]; go_simp; exact zK hK hg
  case qs5 =>
   intro u wx hg hC; have hJ4 := zj hC 4; clear hC
   have hcl : wx.cell? ⟨a, 0, none⟩ = some (.pointer (some ⟨c, 0, none⟩)) := (hg.cell (p := ⟨a, 0, none⟩) LA5.out).trans C5.out
   refine wpOp_step rfl fun K hK => ?_
   simp only [puts, List.foldl]; go_simp; exact zK hK hg
  case qs6 =>
   intro u wx hg hC; have hJ5 := zj hC 5; clear hC; refine wpOp_step rfl fun K hK => ?_
   simp only [puts, List.foldl]; go_simp
   refine (HG.out wx _ (A5.out.step hg)).mono ?_
   rintro e w' ⟨rfl, hb'⟩
   exact hK _ _ ⟨rfl, rfl, hg.next hb', hb'⟩
  case qs7 =>
   intro u wx hg hC; have hJ6 := zj hC 6; clear hC; refine wpOp_step rfl fun K hK => ?_
   simp only [puts, List.foldl]; go_simp
   refine (HRM.out wx).mono ?_
   rintro e w' ⟨rfl, hb'⟩
   exact hK _ _ ⟨rfl, rfl, hg.next hb', hb'⟩
  case qs8 =>
   intro u wx hg hC; have hJ1 := zj hC 1; have hJ7 := zj hC 7; clear hC; refine wpOp_step rfl fun K hK => ?_
   simp only [puts, List.foldl]; go_simp; exact zK hK hg
 case finq =>
  intro u w6 hb6 hφ
  have e41 : u 8 = .bool true := hφ (8, 41) (by decide)
  clear hφ
  simp only [puts, List.foldl]
  rw [e41]
  go_simp
  have A6 := zh (A5.out.step hb6)
  have O6 := zh (O5.out.step hb6)
  have R6 := zh (R5.out.step hb6)
  clear hb6 e41
  go_wp2_with (first
    | ((with_reducible refine wpBuildZeroK Z 29 HBZ.out ?_ ?_); rfl)
    | ((with_reducible refine R6.out.wpStoreK 29 Z fits_head LZ.out LZ.out Z1.out ?_ ?_); rfl; intro u7 r7 o7 s7; have R7 := zh r7; have O7 := zh (O6.out.only o7 (Or.inr (Nat.le_refl _))); have A7 := zh (A6.out.only o7 HWB.out GN.out); clear r7 o7 s7))
  exact bodyPost_ret (R7.out.resultT4 rfl _ _ rfl Tryz.underlying29 rfl (by rw [LZ.out]; exact fits_head.size)) rfl ⟨rfl, ⟨_, A7.out⟩, O7.out⟩
theorem zbop (wB : World) (A : ArD) (w : World) (D : Dv) (h : Are wB A w D) (hu : Up D) (slot : Nat) (hs : slot < 3) (T : ByteArray) (W E : Int) (hT : TxtIs D A slot T W E) (hE : E = 0) (hTz : T.size <= 140737488355328) (V : List Value) (hV : GetIs T.data.toList V 0) (hVl : V.length = 36) (hV1 : V.all (·.oneCell') = true) (nn : Nat) (hV3 : V[3]? = some (.int .i64 (nn : Int))) (hroom : (nn : Int) <= room (gmN A.k A.p A.s)) (X R : ByteArray) (hX : T.extract 48 T.size = X) (hR : X.extract 0 nn = R) (h48 : 48 <= T.size) (hXn : nn <= X.size) (hg : Glob w) (hgs : ∀ k ∈ A.sh.S, 2 < k) (hm : ∀ u, Glob u -> Calls Tryz.prog 47 #[.agg V.toArray, .string R] u fun e w' => e = .returned (.bool false) ∧ Below u.heap.size u w') :
  Calls Tryz.prog 14 #[.pointer (some ⟨A.a, 0, none⟩), .int .i64 (slot : Int)] w fun e w' => e = .returned (.tuple #[.agg (hdv 0 0 0 0 (List.replicate 32 0)).toArray, .string ByteArray.empty, .int .i64 0, .int .i64 7]) ∧ (∃ m, Are wB A w' (opsD D m)) ∧ Onl A.sh.S w w' := by
 have HMT := zh hm
 have HZ : Hid (∀ u, (zeroValue 29).run Tryz.prog u = .ok (.agg (hdv 0 0 0 0 (List.replicate 32 0)).toArray) u) := zh zcn
 have HBZ : Hid (Tryz.prog.built 29 [] = some (hdv 0 0 0 0 (List.replicate 32 0)).toArray) := zh zfc
 have LZ : Hid ((hdv 0 0 0 0 (List.replicate 32 0)).length = 36) := zh (zam _ _ _ _ _ (by simp))
 have Z1 : Hid ((hdv 0 0 0 0 (List.replicate 32 0)).all (·.oneCell') = true) := zh (zcd _ _ _ _ _)
 have HSL : Hid (∀ k ∈ A.sh.S, k < w.heap.size) := zh h.dev.lt
 have GN : Hid (w.heap.size ∉ A.sh.S) := zh fun hm => by have := HSL.out _ hm; omega
 have HWB : Hid (wB.heap.size <= w.heap.size) := zh h.onl.size
 have HAR : Hid (∀ u, Below w.heap.size w u -> Are wB A u D) := zh fun u hu => h.step hu
 have HTX : Hid (∀ u, Are wB A u D -> Calls Tryz.prog 44 #[.pointer (some ⟨A.a, 0, none⟩), .int .i64 (slot : Int)] u fun e w' => e = .returned (.tuple #[.string T, .int .i64 W, .int .i64 E]) ∧ (∃ m, Are wB A w' (opsD D m)) ∧ Onl A.sh.S u w') := zh fun u h1 => zgu wB A u D h1 hu slot hs T W E hT
 have HA0 : Hid (∀ (u : World) (D' : Dv), Are wB A u D' -> u.cell? ⟨A.a, 0, none⟩ = some (.pointer (some ⟨A.c, 0, none⟩))) := zh fun u D' h1 => h1.a0
 have HAL : Hid (∀ (u : World) (D' : Dv), Are wB A u D' -> A.a < u.heap.size) := zh fun u D' h1 => h1.lt
 have HG : Hid (∀ (u : World) (D' : Dv), Are wB A u D' -> Calls Tryz.prog 46 #[.pointer (some ⟨A.c, 0, none⟩)] u fun e w' => e = .returned (.agg #[.int .i64 (A.k : Int), .int .i64 (A.p : Int), .int .i64 (A.s : Int)]) ∧ Below u.heap.size u w') := zh fun u D' h1 => h1.geoX
 have HRM : Hid (∀ u, Calls Tryz.prog 18 #[.agg #[Value.int .i64 (A.k : Int), .int .i64 (A.p : Int), .int .i64 (A.s : Int)]] u fun e w' => e = .returned (.int .i64 (room (gmN A.k A.p A.s))) ∧ Below u.heap.size u w') := zh fun u => zhb (gmN A.k A.p A.s) u
 obtain ⟨rm, hrm⟩ : ∃ r, room (gmN A.k A.p A.s) = r := ⟨_, rfl⟩
 rw [hrm] at HRM hroom
 obtain ⟨c, hc⟩ : ∃ c, A.c = c := ⟨_, rfl⟩
 obtain ⟨k, hk⟩ : ∃ k, A.k = k := ⟨_, rfl⟩
 obtain ⟨p, hp⟩ : ∃ p, A.p = p := ⟨_, rfl⟩
 obtain ⟨s, hss⟩ : ∃ s, A.s = s := ⟨_, rfl⟩
 rw [hc] at HG HA0
 rw [hk, hp, hss] at HG HRM
 have HGT : Hid (∀ u, Calls Tryz.prog 45 #[.string T] u fun e w' => e = .returned (.tuple #[.agg V.toArray, .int .i64 0]) ∧ Below u.heap.size u w') := zh fun u => zgx T T.data.toList V 0 u rfl hTz hV
 obtain ⟨Z, hZZ⟩ : ∃ Z, hdv 0 0 0 0 (List.replicate 32 0) = Z := ⟨_, rfl⟩
 rw [hZZ] at HZ HBZ LZ Z1 ⊢
 have LV := zh hVl
 have V1 := zh hV1
 have HV3 := zh hV3
 subst hE
 obtain ⟨a, ha⟩ : ∃ a, A.a = a := ⟨_, rfl⟩
 rw [ha] at HTX HA0 HAL ⊢
 have hnr : ¬ rm < (nn : Int) := by omega
 have hnr2 : decide (rm < (nn : Int)) = false := decide_eq_false hnr
 have HX := zh hX
 have HR := zh hR
 have H48 := zh h48
 have HXN := zh hXn
 have HGL : Hid (∀ u, Onl A.sh.S w u -> Glob u) := zh fun u ho => hg.onl ho hgs
 clear h hu hs hT ha hc hk hp hss hZZ hV hTz hVl hV1 hV3 hrm hroom hX hR h48 hXn hg hgs
 go_enter Tryz.func14, Tryz.ntmps14
 go_wp2_with (first
  | ((with_reducible refine wpAllocK (w := w) Z 29 HZ.out ?_ ?_); rfl; intro u1 r1 b1 s1; have R1 := zh r1; have B1 := zh b1; clear r1 b1 s1)
  | (go_at_call 44; (with_reducible refine (HTX.out u1 (HAR.out u1 B1.out)).mono ?_); rintro e u2 ⟨rfl, ⟨m, a2⟩, o2⟩; have A2 := zh a2; have O2 := zh ((Onl.of_below B1.out).trans o2); have R2 := zh (R1.out.onl o2 GN.out); clear a2 o2)
  | (go_at_call 45; (with_reducible refine (HGT.out u2).mono ?_); rintro e u3 ⟨rfl, b3⟩; have A3 := zh (A2.out.step b3); have O3 := zh (O2.out.step b3); have R3 := zh (R2.out.step b3); clear b3)
  | ((with_reducible refine wpAllocK (w := u3) Z 29 HZ.out ?_ ?_); rfl; intro u4 r4 b4 s4; have K4 := zh r4; have R4 := zh (R3.out.step b4); have A4 := zh (A3.out.step b4); have O4 := zh (O3.out.step b4); have N4 : Hid (u3.heap.size ∉ A.sh.S) := zh (fun hm => by have := HSL.out _ hm; have := O3.out.size; omega); clear r4 b4 s4)
  | ((with_reducible refine K4.out.wpStoreK 29 V fits_head LZ.out LV.out V1.out ?_ ?_); rfl; intro u5 r5 o5 s5; have K5 := zh r5; have R5 := zh (R4.out.only o5 (by have := R3.out.lt; omega)); have A5 := zh (A4.out.only o5 (Nat.le_trans HWB.out O3.out.size) N4.out); have O5 := zh (O4.out.only o5 (Or.inr O3.out.size)); have NG : Hid (w.heap.size ≠ u3.heap.size) := zh (by have := R3.out.lt; omega); clear r5 o5 s5))
 obtain ⟨g4, hg4⟩ : ∃ g, u3.heap.size = g := ⟨_, rfl⟩
 rw [hg4] at K5 NG ⊢
 have LF5 : Hid (g4 < u5.heap.size) := zh K5.out.lt
 have F53 : Hid (u5.cell? ⟨g4, 3, none⟩ = some (.int .i64 (nn : Int))) := zh ((K5.out.cell 3).trans HV3.out)
 have C5 := zh (HA0.out u5 _ A5.out)
 have LA5 := zh (HAL.out u5 _ A5.out)
 clear hg4 R1 R2 R3 R4 A2 A3 A4 O2 O3 O4 K4 N4 B1
 refine zak [(0, 33), (1, 34), (2, 35), (3, 36), (4, 37), (5, 38), (6, 39), (7, 40), (8, 41)]
  (fun ii => [Is (.pointer (some ⟨g4, 3, none⟩)), Is (.int .i64 (nn : Int)), Is (.pointer (some ⟨a, 0, none⟩)), Is (.pointer (some ⟨a, 0, none⟩)), Is (.pointer (some ⟨a, 0, none⟩)), Is (.pointer (some ⟨c, 0, none⟩)), Is (.agg #[Value.int .i64 (k : Int), .int .i64 (p : Int), .int .i64 (s : Int)]), Is (.int .i64 rm), Is (.bool false)].getD ii (Is undef))
  (fun w' => Below u5.heap.size u5 w') (by kernel_rfl) (by kernel_rfl) (by decide) (by decide) (by kernel_rfl) rfl ?monoq ((zb).drew) ?stepq ?finq
 case monoq =>
  intro i
  match i with
  | 0 | 1 | 2 | 3 | 4 | 5 | 6 | 7 | 8 => exact Is.monot _
  | _ + 9 => exact Is.monot _
 case stepq =>
  refine zf ⟨?qs0, zf ⟨?qs1, zf ⟨?qs2, zf ⟨?qs3, zf ⟨?qs4, zf ⟨?qs5, zf ⟨?qs6, zf ⟨?qs7, zf ⟨?qs8, List.forall_mem_nil _⟩⟩⟩⟩⟩⟩⟩⟩⟩
  case qs0 | qs2 =>
   intro u wx hg hC; clear hC; refine wpOp_step rfl fun K hK => ?_
   simp only [puts, List.foldl]; go_simp; exact zK hK hg
  case qs1 =>
   intro u wx hg hC; have hJ0 := zj hC 0; clear hC
   have hcl : wx.cell? ⟨g4, 3, none⟩ = some (.int .i64 (nn : Int)) := (hg.cell (p := ⟨g4, 3, none⟩) LF5.out).trans F53.out
   refine wpOp_step rfl fun K hK => ?_
   simp only [puts, List.foldl]; go_simp; exact zK hK hg
  case qs3 =>
   intro u wx hg hC; have hJ2 := zj hC 2; clear hC; refine wpOp_step rfl fun K hK => ?_
   simp only [puts, List.foldl]; go_simp; exact zK hK hg
  case qs4 =>
   intro u wx hg hC; have hJ3 := zj hC 3; clear hC; refine wpOp_step rfl fun K hK => ?_
   simp only [puts, List.foldl]; go_simp; exact zK hK hg
  case qs5 =>
   intro u wx hg hC; have hJ4 := zj hC 4; clear hC
   have hcl : wx.cell? ⟨a, 0, none⟩ = some (.pointer (some ⟨c, 0, none⟩)) := (hg.cell (p := ⟨a, 0, none⟩) LA5.out).trans C5.out
   refine wpOp_step rfl fun K hK => ?_
   simp only [puts, List.foldl]; go_simp; exact zK hK hg
  case qs6 =>
   intro u wx hg hC; have hJ5 := zj hC 5; clear hC; refine wpOp_step rfl fun K hK => ?_
   simp only [puts, List.foldl]; go_simp
   refine (HG.out wx _ (A5.out.step hg)).mono ?_
   rintro e w' ⟨rfl, hb'⟩
   exact hK _ _ ⟨rfl, rfl, hg.next hb', hb'⟩
  case qs7 =>
   intro u wx hg hC; have hJ6 := zj hC 6; clear hC; refine wpOp_step rfl fun K hK => ?_
   simp only [puts, List.foldl]; go_simp
   refine (HRM.out wx).mono ?_
   rintro e w' ⟨rfl, hb'⟩
   exact hK _ _ ⟨rfl, rfl, hg.next hb', hb'⟩
  case qs8 =>
   intro u wx hg hC; have hJ1 := zj hC 1; have hJ7 := zj hC 7; clear hC; refine wpOp_step rfl fun K hK => ?_
   simp only [puts, List.foldl]; go_simp; exact zK hK hg
 case finq =>
  intro u w6 hb6 hφ
  have e41 : u 8 = .bool false := hφ (8, 41) (by decide)
  clear hφ
  simp only [puts, List.foldl]
  rw [e41]
  go_simp
  have A6 := zh (A5.out.step hb6)
  have O6 := zh (O5.out.step hb6)
  have R6 := zh (R5.out.step hb6)
  have K6 := zh (K5.out.step hb6)
  have LF6 : Hid (g4 < w6.heap.size) := zh K6.out.lt
  have F63 : Hid (w6.cell? ⟨g4, 3, none⟩ = some (.int .i64 (nn : Int))) := zh ((K6.out.cell 3).trans HV3.out)
  clear hb6 e41
  go_wp2
  refine zak [(0, 43), (1, 44), (2, 45), (3, 46), (4, 47), (5, 12)]
   (fun ii => [Is (.string T), Is (.string X), Is (.pointer (some ⟨g4, 3, none⟩)), Is (.int .i64 (nn : Int)), Is (.string R), Is (.string R)].getD ii (Is undef))
   (fun w' => Below w6.heap.size w6 w') (by kernel_rfl) (by kernel_rfl) (by decide) (by decide) (by kernel_rfl) rfl ?monor ((zb).drew) ?stepr ?finr
  case monor =>
   intro i
   match i with
   | 0 | 1 | 2 | 3 | 4 | 5 => exact Is.monot _
   | _ + 6 => exact Is.monot _
  case stepr =>
   refine zf ⟨?rs0, zf ⟨?rs1, zf ⟨?rs2, zf ⟨?rs3, zf ⟨?rs4, zf ⟨?rs5, List.forall_mem_nil _⟩⟩⟩⟩⟩⟩
   case rs0 | rs2 =>
    intro u wx hg hC; clear hC; refine wpOp_step rfl fun K hK => ?_
    simp only [puts, List.foldl]; go_simp; exact zK hK hg
   case rs1 =>
    intro u wx hg hC; have hJ0 := zj hC 0; clear hC
    have hy : T.extract 48 T.size = X := HX.out
    have h1 : (48 : Int) <= (T.size : Int) := by have hs := H48.out; omega
    have h2 : 48 <= T.size := H48.out
    refine wpOp_step rfl fun K hK => ?_
    simp only [puts, List.foldl]; go_simp; exact zK hK hg
   case rs3 =>
    intro u wx hg hC; have hJ2 := zj hC 2; clear hC
    have hcl : wx.cell? ⟨g4, 3, none⟩ = some (.int .i64 (nn : Int)) := (hg.cell (p := ⟨g4, 3, none⟩) LF6.out).trans F63.out
    refine wpOp_step rfl fun K hK => ?_
    simp only [puts, List.foldl]; go_simp; exact zK hK hg
   case rs4 =>
    intro u wx hg hC; have hJ1 := zj hC 1; have hJ3 := zj hC 3; clear hC
    have hz : X.extract 0 nn = R := HR.out
    have h1 : (nn : Int) <= (X.size : Int) := by have hs := HXN.out; omega
    have h2 : nn <= X.size := HXN.out
    refine wpOp_step rfl fun K hK => ?_
    simp only [puts, List.foldl]; go_simp; exact zK hK hg
   case rs5 =>
    intro u wx hg hC; have hJ4 := zj hC 4; clear hC; refine wpOp_step rfl fun K hK => ?_
    simp only [puts, List.foldl]; go_simp; exact zK hK hg
  case finr =>
   intro u' w7 hb7 hφ
   have e12 : u' 5 = .string R := hφ (5, 12) (by decide)
   clear hφ; simp only [puts, List.foldl]; rw [e12]; go_simp; have A7 := zh (A6.out.step hb7); have O7 := zh (O6.out.step hb7); have R7 := zh (R6.out.step hb7); have K7 := zh (K6.out.step hb7); have G7 := zh (HGL.out w7 O7.out); clear hb7 e12
   go_wp2_with (first
     | ((with_reducible refine K7.out.wpLoadK 29 fits_head LV.out ?_ ?_); rfl)
     | (go_at_call 47; (with_reducible refine (HMT.out w7 G7.out).mono ?_); rintro e u8 ⟨rfl, b8⟩; have K8 := zh (K7.out.step b8); have R8 := zh (R7.out.step b8); have A8 := zh (A7.out.step b8); have O8 := zh (O7.out.step b8); clear b8)
     | ((with_reducible refine wpBuildZeroK Z 29 HBZ.out ?_ ?_); rfl)
     | ((with_reducible refine R8.out.wpStoreK 29 Z fits_head LZ.out LZ.out Z1.out ?_ ?_); rfl; intro u9 r9 o9 s9; have R9 := zh r9; have O9 := zh (O8.out.only o9 (Or.inr (Nat.le_refl _))); have A9 := zh (A8.out.only o9 HWB.out GN.out); clear r9 o9 s9))
   exact bodyPost_ret (R9.out.resultT4 rfl _ _ rfl Tryz.underlying29 rfl (by rw [LZ.out]; exact fits_head.size)) rfl ⟨rfl, ⟨_, A9.out⟩, O9.out⟩
theorem zxf (wB : World) (A : ArD) (w : World) (D : Dv) (h : Are wB A w D) (hu : Up D) (slot : Nat) (hs : slot < 3) (T : ByteArray) (W E : Int) (hT : TxtIs D A slot T W E) (hE : E = 0) (hTz : T.size <= 140737488355328) (V : List Value) (hV : GetIs T.data.toList V 0) (hVl : V.length = 36) (hV1 : V.all (·.oneCell') = true) (nn : Nat) (hV3 : V[3]? = some (.int .i64 (nn : Int))) (hroom : (nn : Int) <= room (gmN A.k A.p A.s)) (X R : ByteArray) (hX : T.extract 48 T.size = X) (hR : X.extract 0 nn = R) (h48 : 48 <= T.size) (hXn : nn <= X.size) (hg : Glob w) (hgs : ∀ k ∈ A.sh.S, 2 < k) (hm : ∀ u, Glob u -> Calls Tryz.prog 47 #[.agg V.toArray, .string R] u fun e w' => e = .returned (.bool true) ∧ Below u.heap.size u w') :
  Calls Tryz.prog 14 #[.pointer (some ⟨A.a, 0, none⟩), .int .i64 (slot : Int)] w fun e w' => e = .returned (.tuple #[.agg V.toArray, .string R, .int .i64 W, .int .i64 0]) ∧ (∃ m, Are wB A w' (opsD D m)) ∧ Onl A.sh.S w w' := by
 have HMT := zh hm
 have HZ : Hid (∀ u, (zeroValue 29).run Tryz.prog u = .ok (.agg (hdv 0 0 0 0 (List.replicate 32 0)).toArray) u) := zh zcn
 have HBZ : Hid (Tryz.prog.built 29 [] = some (hdv 0 0 0 0 (List.replicate 32 0)).toArray) := zh zfc
 have LZ : Hid ((hdv 0 0 0 0 (List.replicate 32 0)).length = 36) := zh (zam _ _ _ _ _ (by simp))
 have Z1 : Hid ((hdv 0 0 0 0 (List.replicate 32 0)).all (·.oneCell') = true) := zh (zcd _ _ _ _ _)
 have HSL : Hid (∀ k ∈ A.sh.S, k < w.heap.size) := zh h.dev.lt
 have GN : Hid (w.heap.size ∉ A.sh.S) := zh fun hm => by have := HSL.out _ hm; omega
 have HWB : Hid (wB.heap.size <= w.heap.size) := zh h.onl.size
 have HAR : Hid (∀ u, Below w.heap.size w u -> Are wB A u D) := zh fun u hu => h.step hu
 have HTX : Hid (∀ u, Are wB A u D -> Calls Tryz.prog 44 #[.pointer (some ⟨A.a, 0, none⟩), .int .i64 (slot : Int)] u fun e w' => e = .returned (.tuple #[.string T, .int .i64 W, .int .i64 E]) ∧ (∃ m, Are wB A w' (opsD D m)) ∧ Onl A.sh.S u w') := zh fun u h1 => zgu wB A u D h1 hu slot hs T W E hT
 have HA0 : Hid (∀ (u : World) (D' : Dv), Are wB A u D' -> u.cell? ⟨A.a, 0, none⟩ = some (.pointer (some ⟨A.c, 0, none⟩))) := zh fun u D' h1 => h1.a0
 have HAL : Hid (∀ (u : World) (D' : Dv), Are wB A u D' -> A.a < u.heap.size) := zh fun u D' h1 => h1.lt
 have HG : Hid (∀ (u : World) (D' : Dv), Are wB A u D' -> Calls Tryz.prog 46 #[.pointer (some ⟨A.c, 0, none⟩)] u fun e w' => e = .returned (.agg #[.int .i64 (A.k : Int), .int .i64 (A.p : Int), .int .i64 (A.s : Int)]) ∧ Below u.heap.size u w') := zh fun u D' h1 => h1.geoX
 have HRM : Hid (∀ u, Calls Tryz.prog 18 #[.agg #[Value.int .i64 (A.k : Int), .int .i64 (A.p : Int), .int .i64 (A.s : Int)]] u fun e w' => e = .returned (.int .i64 (room (gmN A.k A.p A.s))) ∧ Below u.heap.size u w') := zh fun u => zhb (gmN A.k A.p A.s) u
 obtain ⟨rm, hrm⟩ : ∃ r, room (gmN A.k A.p A.s) = r := ⟨_, rfl⟩
 rw [hrm] at HRM hroom
 obtain ⟨c, hc⟩ : ∃ c, A.c = c := ⟨_, rfl⟩
 obtain ⟨k, hk⟩ : ∃ k, A.k = k := ⟨_, rfl⟩
 obtain ⟨p, hp⟩ : ∃ p, A.p = p := ⟨_, rfl⟩
 obtain ⟨s, hss⟩ : ∃ s, A.s = s := ⟨_, rfl⟩
 rw [hc] at HG HA0
 rw [hk, hp, hss] at HG HRM
 have HGT : Hid (∀ u, Calls Tryz.prog 45 #[.string T] u fun e w' => e = .returned (.tuple #[.agg V.toArray, .int .i64 0]) ∧ Below u.heap.size u w') := zh fun u => zgx T T.data.toList V 0 u rfl hTz hV
 obtain ⟨Z, hZZ⟩ : ∃ Z, hdv 0 0 0 0 (List.replicate 32 0) = Z := ⟨_, rfl⟩
 rw [hZZ] at HZ HBZ LZ Z1
 have LV := zh hVl
 have V1 := zh hV1
 have HV3 := zh hV3
 subst hE
 obtain ⟨a, ha⟩ : ∃ a, A.a = a := ⟨_, rfl⟩
 rw [ha] at HTX HA0 HAL ⊢
 have hnr : ¬ rm < (nn : Int) := by omega
 have hnr2 : decide (rm < (nn : Int)) = false := decide_eq_false hnr
 have HX := zh hX
 have HR := zh hR
 have H48 := zh h48
 have HXN := zh hXn
 have HGL : Hid (∀ u, Onl A.sh.S w u -> Glob u) := zh fun u ho => hg.onl ho hgs
 clear h hu hs hT ha hc hk hp hss hZZ hV hTz hVl hV1 hV3 hrm hroom hX hR h48 hXn hg hgs
 go_enter Tryz.func14, Tryz.ntmps14
 go_wp2_with (first
  | ((with_reducible refine wpAllocK (w := w) Z 29 HZ.out ?_ ?_); rfl; intro u1 r1 b1 s1; have R1 := zh r1; have B1 := zh b1; clear r1 b1 s1)
  | (go_at_call 44; (with_reducible refine (HTX.out u1 (HAR.out u1 B1.out)).mono ?_); rintro e u2 ⟨rfl, ⟨m, a2⟩, o2⟩; have A2 := zh a2; have O2 := zh ((Onl.of_below B1.out).trans o2); have R2 := zh (R1.out.onl o2 GN.out); clear a2 o2)
  | (go_at_call 45; (with_reducible refine (HGT.out u2).mono ?_); rintro e u3 ⟨rfl, b3⟩; have A3 := zh (A2.out.step b3); have O3 := zh (O2.out.step b3); have R3 := zh (R2.out.step b3); clear b3)
  | ((with_reducible refine wpAllocK (w := u3) Z 29 HZ.out ?_ ?_); rfl; intro u4 r4 b4 s4; have K4 := zh r4; have R4 := zh (R3.out.step b4); have A4 := zh (A3.out.step b4); have O4 := zh (O3.out.step b4); have N4 : Hid (u3.heap.size ∉ A.sh.S) := zh (fun hm => by have := HSL.out _ hm; have := O3.out.size; omega); clear r4 b4 s4)
  | ((with_reducible refine K4.out.wpStoreK 29 V fits_head LZ.out LV.out V1.out ?_ ?_); rfl; intro u5 r5 o5 s5; have K5 := zh r5; have R5 := zh (R4.out.only o5 (by have := R3.out.lt; omega)); have A5 := zh (A4.out.only o5 (Nat.le_trans HWB.out O3.out.size) N4.out); have O5 := zh (O4.out.only o5 (Or.inr O3.out.size)); have NG : Hid (w.heap.size ≠ u3.heap.size) := zh (by have := R3.out.lt; omega); clear r5 o5 s5))
 obtain ⟨g4, hg4⟩ : ∃ g, u3.heap.size = g := ⟨_, rfl⟩
 rw [hg4] at K5 NG ⊢
 have LF5 : Hid (g4 < u5.heap.size) := zh K5.out.lt
 have F53 : Hid (u5.cell? ⟨g4, 3, none⟩ = some (.int .i64 (nn : Int))) := zh ((K5.out.cell 3).trans HV3.out)
 have C5 := zh (HA0.out u5 _ A5.out)
 have LA5 := zh (HAL.out u5 _ A5.out)
 clear hg4 R1 R2 R3 R4 A2 A3 A4 O2 O3 O4 K4 N4 B1
 refine zak [(0, 33), (1, 34), (2, 35), (3, 36), (4, 37), (5, 38), (6, 39), (7, 40), (8, 41)]
  (fun ii => [Is (.pointer (some ⟨g4, 3, none⟩)), Is (.int .i64 (nn : Int)), Is (.pointer (some ⟨a, 0, none⟩)), Is (.pointer (some ⟨a, 0, none⟩)), Is (.pointer (some ⟨a, 0, none⟩)), Is (.pointer (some ⟨c, 0, none⟩)), Is (.agg #[Value.int .i64 (k : Int), .int .i64 (p : Int), .int .i64 (s : Int)]), Is (.int .i64 rm), Is (.bool false)].getD ii (Is undef))
  (fun w' => Below u5.heap.size u5 w') (by kernel_rfl) (by kernel_rfl) (by decide) (by decide) (by kernel_rfl) rfl ?monoq ((zb).drew) ?stepq ?finq
 case monoq =>
  intro i
  match i with
  | 0 | 1 | 2 | 3 | 4 | 5 | 6 | 7 | 8 => exact Is.monot _
  | _ + 9 => exact Is.monot _
 case stepq =>
  refine zf ⟨?qs0, zf ⟨?qs1, zf ⟨?qs2, zf ⟨?qs3, zf ⟨?qs4, zf ⟨?qs5, zf ⟨?qs6, zf ⟨?qs7, zf ⟨?qs8, List.forall_mem_nil _⟩⟩⟩⟩⟩⟩⟩⟩⟩
  case qs0 | qs2 =>
   intro u wx hg hC; clear hC; refine wpOp_step rfl fun K hK => ?_
   simp only [puts, List.foldl]; go_simp; exact zK hK hg
  case qs1 =>
   intro u wx hg hC; have hJ0 := zj hC 0; clear hC
   have hcl : wx.cell? ⟨g4, 3, none⟩ = some (.int .i64 (nn : Int)) := (hg.cell (p := ⟨g4, 3, none⟩) LF5.out).trans F53.out
   refine wpOp_step rfl fun K hK => ?_
   simp only [puts, List.foldl]; go_simp; exact zK hK hg
  case qs3 =>
   intro u wx hg hC; have hJ2 := zj hC 2; clear hC; refine wpOp_step rfl fun K hK => ?_
   simp only [puts, List.foldl]; go_simp; exact zK hK hg
  case qs4 =>
   intro u wx hg hC; have hJ3 := zj hC 3; clear hC; refine wpOp_step rfl fun K hK => ?_
   simp only [puts, List.foldl]; go_simp; exact zK hK hg
  case qs5 =>
   intro u wx hg hC; have hJ4 := zj hC 4; clear hC
   have hcl : wx.cell? ⟨a, 0, none⟩ = some (.pointer (some ⟨c, 0, none⟩)) := (hg.cell (p := ⟨a, 0, none⟩) LA5.out).trans C5.out
   refine wpOp_step rfl fun K hK => ?_
   simp only [puts, List.foldl]; go_simp; exact zK hK hg
  case qs6 =>
   intro u wx hg hC; have hJ5 := zj hC 5; clear hC; refine wpOp_step rfl fun K hK => ?_
   simp only [puts, List.foldl]; go_simp
   refine (HG.out wx _ (A5.out.step hg)).mono ?_
   rintro e w' ⟨rfl, hb'⟩
   exact hK _ _ ⟨rfl, rfl, hg.next hb', hb'⟩
  case qs7 =>
   intro u wx hg hC; have hJ6 := zj hC 6; clear hC; refine wpOp_step rfl fun K hK => ?_
   simp only [puts, List.foldl]; go_simp
   refine (HRM.out wx).mono ?_
   rintro e w' ⟨rfl, hb'⟩
   exact hK _ _ ⟨rfl, rfl, hg.next hb', hb'⟩
  case qs8 =>
   intro u wx hg hC; have hJ1 := zj hC 1; have hJ7 := zj hC 7; clear hC; refine wpOp_step rfl fun K hK => ?_
   simp only [puts, List.foldl]; go_simp; exact zK hK hg
 case finq =>
  intro u w6 hb6 hφ
  have e41 : u 8 = .bool false := hφ (8, 41) (by decide)
  clear hφ
  simp only [puts, List.foldl]
  rw [e41]
  go_simp
  have A6 := zh (A5.out.step hb6)
  have O6 := zh (O5.out.step hb6)
  have R6 := zh (R5.out.step hb6)
  have K6 := zh (K5.out.step hb6)
  have LF6 : Hid (g4 < w6.heap.size) := zh K6.out.lt
  have F63 : Hid (w6.cell? ⟨g4, 3, none⟩ = some (.int .i64 (nn : Int))) := zh ((K6.out.cell 3).trans HV3.out)
  clear hb6 e41
  go_wp2
  refine zak [(0, 43), (1, 44), (2, 45), (3, 46), (4, 47), (5, 12)]
   (fun ii => [Is (.string T), Is (.string X), Is (.pointer (some ⟨g4, 3, none⟩)), Is (.int .i64 (nn : Int)), Is (.string R), Is (.string R)].getD ii (Is undef))
   (fun w' => Below w6.heap.size w6 w') (by kernel_rfl) (by kernel_rfl) (by decide) (by decide) (by kernel_rfl) rfl ?monor ((zb).drew) ?stepr ?finr
  case monor =>
   intro i
   match i with
   | 0 | 1 | 2 | 3 | 4 | 5 => exact Is.monot _
   | _ + 6 => exact Is.monot _
  case stepr =>
   refine zf ⟨?rs0, zf ⟨?rs1, zf ⟨?rs2, zf ⟨?rs3, zf ⟨?rs4, zf ⟨?rs5, List.forall_mem_nil _⟩⟩⟩⟩⟩⟩
   case rs0 | rs2 =>
    intro u wx hg hC; clear hC; refine wpOp_step rfl fun K hK => ?_
    simp only [puts, List.foldl]; go_simp; exact zK hK hg
   case rs1 =>
    intro u wx hg hC; have hJ0 := zj hC 0; clear hC
    have hy : T.extract 48 T.size = X := HX.out
    have h1 : (48 : Int) <= (T.size : Int) := by have hs := H48.out; omega
    have h2 : 48 <= T.size := H48.out
    refine wpOp_step rfl fun K hK => ?_
    simp only [puts, List.foldl]; go_simp; exact zK hK hg
   case rs3 =>
    intro u wx hg hC; have hJ2 := zj hC 2; clear hC
    have hcl : wx.cell? ⟨g4, 3, none⟩ = some (.int .i64 (nn : Int)) := (hg.cell (p := ⟨g4, 3, none⟩) LF6.out).trans F63.out
    refine wpOp_step rfl fun K hK => ?_
    simp only [puts, List.foldl]; go_simp; exact zK hK hg
   case rs4 =>
    intro u wx hg hC; have hJ1 := zj hC 1; have hJ3 := zj hC 3; clear hC
    have hz : X.extract 0 nn = R := HR.out
    have h1 : (nn : Int) <= (X.size : Int) := by have hs := HXN.out; omega
    have h2 : nn <= X.size := HXN.out
    refine wpOp_step rfl fun K hK => ?_
    simp only [puts, List.foldl]; go_simp; exact zK hK hg
   case rs5 =>
    intro u wx hg hC; have hJ4 := zj hC 4; clear hC; refine wpOp_step rfl fun K hK => ?_
    simp only [puts, List.foldl]; go_simp; exact zK hK hg
  case finr =>
   intro u' w7 hb7 hφ
   have e12 : u' 5 = .string R := hφ (5, 12) (by decide)
   clear hφ; simp only [puts, List.foldl]; rw [e12]; go_simp; have A7 := zh (A6.out.step hb7); have O7 := zh (O6.out.step hb7); have R7 := zh (R6.out.step hb7); have K7 := zh (K6.out.step hb7); have G7 := zh (HGL.out w7 O7.out); clear hb7 e12
   go_wp2_with (first
     | ((with_reducible refine K7.out.wpLoadK 29 fits_head LV.out ?_ ?_); rfl)
     | (go_at_call 47; (with_reducible refine (HMT.out w7 G7.out).mono ?_); rintro e u8 ⟨rfl, b8⟩; have K8 := zh (K7.out.step b8); have R8 := zh (R7.out.step b8); have A8 := zh (A7.out.step b8); have O8 := zh (O7.out.step b8); clear b8)
     | ((with_reducible refine K8.out.wpLoadK 29 fits_head LV.out ?_ ?_); rfl)
     | ((with_reducible refine R8.out.wpStoreK 29 V fits_head LZ.out LV.out V1.out ?_ ?_); rfl; intro u9 r9 o9 s9; have R9 := zh r9; have O9 := zh (O8.out.only o9 (Or.inr (Nat.le_refl _))); have A9 := zh (A8.out.only o9 HWB.out GN.out); clear r9 o9 s9))
   exact bodyPost_ret (R9.out.resultT4 rfl _ _ rfl Tryz.underlying29 rfl (by rw [LV.out]; exact fits_head.size)) rfl ⟨rfl, ⟨_, A9.out⟩, O9.out⟩
theorem zoc {U V : Nat -> Nat} : ∀ {s : Nat}, (∀ t, t < s -> U t = V t) -> cntN U s = cntN V s
 | 0, _ => rfl
 | s + 1, h => by rw [cntN, cntN, zoc (s := s) fun t ht => h t (by omega), h s (by omega)]
theorem zrg {U : Nat -> Nat} : ∀ {s : Nat}, (∀ t, t < s -> U t = 0) -> cntN U s = 0
 | 0, _ => rfl
 | s + 1, h => by rw [cntN, zrg (s := s) fun t ht => h t (by omega), h s (by omega)]
def wrongN (D : Dv) (A : ArD) (slot : Nat) (f : Fb) (t : Nat) : Nat := (badL (stS D A slot t) (wholeF (stF f A.k t) A.k A.p) A.n).length
def GoodA (D : Dv) (A : ArD) (slot : Nat) (f : Fb) : Prop := ∀ t, t < A.s -> GoodS A.k A.p (stF f A.k t) (stS D A slot t)
theorem zbim {D : Dv} {A : ArD} {slot : Nat} {T : List UInt8} (hk : 1 <= A.k) (hk8 : A.k <= 8) (hp : 2 <= A.p) (hp6 : A.p <= 6) (hl : T.length <= 60 * (A.k * A.s)) (h : GoodA D A slot (blF (A.k * A.s) T)) :
  TxtIs D A slot (str (T ++ List.replicate (60 * (A.k * A.s) - T.length) 0)) (cntN (wrongN D A slot (blF (A.k * A.s) T)) A.s : Nat) 0 := by
 refine .inl ⟨fun t ht => (zkt hk hk8 hp hp6 (h t ht)).1, ?_, ?_, rfl⟩
 .congr 1
  have h1 : grid (A.k * A.s) (glF (fun t => mdS A.n A.p (stS D A slot t)) A.k) = grid (A.k * A.s) (blF (A.k * A.s) T) := by
   refine zbny hk fun t ht i hi b hb => ?_
   have h2 := (zkt hk hk8 hp hp6 (h t ht)).2.1; have h3 := congrArg (fun l => l[i * 60 + b]?) h2
   simp only [zzo _ _ i b (by omega : i < A.k + A.p) hb, Option.some.injEq] at h3
   rw [show mdS A.n A.p (stS D A slot t) i b = mdS (A.k + A.p) A.p (stS D A slot t) i b from rfl, h3]
   exact zem _ _ _ _ _ _ hi
  rw [h1, <- zit, zmw, List.take_of_length_le (by omega)]
 .congr 1
  exact zoc fun t ht => by
   have h2 := (zkt hk hk8 hp hp6 (h t ht)).2.2
   show (badL _ _ _).length = _
   rw [show unS A.n A.p (stS D A slot t) = _ from h2]; rfl
theorem zbju {k p s : Nat} (h : right (gmN k p s) = true) (hk : 1 <= k) (hs : 1 <= s) : room (gmN k p s) = (60 * ((k * s : Nat) : Int) - 48) := by
 unfold room
 rw [if_pos h]
 show max 0 (60 * (k : Int) * s - 48) = _
 have h1 : 1 * 1 <= k * s := Nat.mul_le_mul hk hs
 rw [Int.mul_assoc, show (k : Int) * s = ((k * s : Nat) : Int) from by push_cast; rfl]
 omega
theorem zpq (wB : World) (A : ArD) (w : World) (D : Dv) (h : Are wB A w D) (hu : Up D) (slot : Nat) (hs : slot < 3) (va vb vc : Int) (H : List UInt8) (im : ByteArray) (hH : H = ShaMath.sha im.data.toList) (hok : hOk va vb vc (im.size : Int) = true) (hroom : (im.size : Int) <= room (gmN A.k A.p A.s))
  (hgd : GoodA D A slot (blF (A.k * A.s) (headB va vb vc (im.size : Int) H ++ im.data.toList))) (hg : Glob w) (hgs : ∀ k ∈ A.sh.S, 2 < k) :
  Calls Tryz.prog 14 #[.pointer (some ⟨A.a, 0, none⟩), .int .i64 (slot : Int)] w fun e w' => e = .returned (.tuple #[.agg (hdv va vb vc (im.size : Int) H).toArray, .string im, .int .i64 (cntN (wrongN D A slot (blF (A.k * A.s) (headB va vb vc (im.size : Int) H ++ im.data.toList))) A.s : Nat), .int .i64 0]) ∧ (∃ m, Are wB A w' (opsD D m)) ∧ Onl A.sh.S w w' := by
 have hrm := zbju h.right h.k1 h.s1
 have hl : H.length = 32 := by rw [hH, ShaMath.sha_length]
 have hk8 := h.k8
 have hs8 := h.s8
 have hks : A.k * A.s <= 64 := by
  have h1 : A.k * A.s <= 8 * A.s := Nat.mul_le_mul_right _ hk8
  omega
 have hTl : (headB va vb vc (im.size : Int) H ++ im.data.toList).length <= 60 * (A.k * A.s) := by
  rw [List.length_append, zcu _ _ _ _ _ hl, zai]; omega
 have hT := zbim h.k1 h.k8 h.p2 h.p6 hTl hgd
 have him0 : im.size <= 4000 := by omega
 obtain ⟨Z, hZ⟩ : ∃ Z, List.replicate (60 * (A.k * A.s) - (headB va vb vc (im.size : Int) H ++ im.data.toList).length) (0 : UInt8) = Z := ⟨_, rfl⟩
 rw [hZ] at hT
 have hsz : (str (headB va vb vc (im.size : Int) H ++ im.data.toList ++ Z)).size = 60 * (A.k * A.s) := by
  rw [zbc, List.length_append, <- hZ, List.length_replicate]; omega
 have hbk := zrm va vb vc (im.size : Int) H (im.data.toList ++ Z) hok hl
 have hX : (str (headB va vb vc (im.size : Int) H ++ im.data.toList ++ Z)).extract 48 (str (headB va vb vc (im.size : Int) H ++ im.data.toList ++ Z)).size = str (im.data.toList ++ Z) := by
  rw [zfs, hsz]
  congr 1
  have e1 : (headB va vb vc (im.size : Int) H ++ im.data.toList ++ Z).drop 48 = im.data.toList ++ Z := by
   rw [List.append_assoc]; exact List.drop_left' (zcu _ _ _ _ _ hl)
  rw [e1]
  refine List.take_of_length_le ?_
  have e2 : (headB va vb vc (im.size : Int) H ++ im.data.toList).length = 48 + im.size := by rw [List.length_append, zcu _ _ _ _ _ hl, zai]
  rw [List.length_append, <- hZ, List.length_replicate, e2, zai]
  omega
 have hR : (str (im.data.toList ++ Z)).extract 0 im.size = im := by
  rw [zfs, List.drop_zero, Nat.sub_zero, List.take_left' (zai im), zfy]
 refine zxf wB A w D h hu slot hs _ _ 0 hT rfl (by rw [hsz]; omega) (hdv va vb vc (im.size : Int) H) (.inr (.inl ⟨?_, ?_, ?_, rfl⟩)) (zam _ _ _ _ _ hl) (zcd _ _ _ _ _) im.size rfl hroom _ im hX hR (by rw [hsz]; omega) (by rw [zbc, List.length_append, zai]; omega) hg hgs ?_
 .rw [zcc, List.length_append, List.length_append, zcu _ _ _ _ _ hl]; omega
 .rw [zcc, List.append_assoc]; exact zbiu _ _ _ _ _ _ hok hl
 .rw [zcc, List.append_assoc, hbk.1, hbk.2.1, hbk.2.2.1, hbk.2.2.2.1, hbk.2.2.2.2.1]
 .intro u hgu
  have him : im.size <= 1000000 := by omega
  exact zng va vb vc (im.size : Int) H im H true u hl hH.symm hgu him (by simp)
theorem zbpi {n : Nat} (h1 : 1 <= n) (h2 : n <= 512) : Up (D0 n) := ⟨rfl, rfl, ⟨by simp [D0]; omega, by simp [D0]; omega, by simp [D0]; omega, by simp [D0]⟩⟩
theorem zbfe (n : Nat) : (D0 n).L.length = n := by simp [D0]
theorem zblw (N n s slot : Nat) : Free (D0 N) n s slot := fun j _ _ => by
 simp only [D0, List.getD_eq_getElem?_getD, List.getElem?_replicate]
 split <;> rfl
theorem zbct {k p s : Nat} (hk8 : k <= 8) (hp6 : p <= 6) (hs8 : s <= 8) : 3 * ((k + p) * s) + 18 <= 512 := by
 have h1 : (k + p) * s <= 14 * s := Nat.mul_le_mul_right _ (by omega)
 omega
theorem zpn (k p s : Nat) (w : World) (hk : 1 <= k) (hk8 : k <= 8) (hp : 2 <= p) (hp6 : p <= 6) (hs : 1 <= s) (hs8 : s <= 8) :
  Calls Tryz.prog 10 #[geoV (gmN k p s)] w fun e w' => (∃ a c cc b sb sh, e = .returned (.tuple #[.pointer (some ⟨a, 0, none⟩), .pointer (some ⟨sh.b, 0, none⟩)]) ∧ Are w' ⟨a, c, cc, b, sb, k, p, s, sh⟩ w' (D0 (3 * ((k + p) * s) + 18)) ∧ (∀ q ∈ sh.S, w.heap.size <= q)) ∧ Below w.heap.size w w' := by
 have hr := zht hk hk8 hp hp6 hs hs8
 have ha := zyz hr
 have hN := zbct hk8 hp6 hs8
 have HA : Hid (∀ u, Calls Tryz.prog 32 #[.agg [Value.int .i64 (k : Int), .int .i64 (p : Int), .int .i64 (s : Int)].toArray] u fun e w' => e = .returned (.int .i64 ((3 * ((k + p) * s) + 18 : Nat) : Int)) ∧ Below u.heap.size u w') := zh fun u => by rw [<- ha]; exact zyy (gmN k p s) u
 have HSN : Hid (∀ u, Calls Tryz.prog 33 #[.agg [Value.int .i64 (k : Int), .int .i64 (p : Int), .int .i64 (s : Int)].toArray] u fun e w' => (∃ c cc b sb, e = .returned (.tuple #[.pointer (some ⟨c, 0, none⟩), .int .i64 0]) ∧ Cdr w' c cc b sb k p s) ∧ Below u.heap.size u w') := zh fun u => zyo k p s u hk hk8 hp hp6 hs hs8
 obtain ⟨N, hNN⟩ : ∃ N, 3 * ((k + p) * s) + 18 = N := ⟨_, rfl⟩
 have hN1 : 1 <= N := by omega
 rw [hNN] at HA hN ⊢
 have HFN : Hid (∀ u, Calls Tryz.prog 31 #[.int .i64 (N : Int)] u fun e w' => ∃ s : Sh, e = .returned (.tuple #[.pointer (some ⟨s.b, 0, none⟩), .int .i64 0]) ∧ Dev w' s (D0 N) ∧ (∀ k ∈ s.S, u.heap.size <= k) ∧ Below u.heap.size u w') := zh fun u => zbeq N u hN1 hN
 have HNW : Hid (∀ u c cc b sb sh, Cdr u c cc b sb k p s -> Dev u sh (D0 N) -> Calls Tryz.prog 34 #[.pointer (some ⟨sh.b, 0, none⟩), .pointer (some ⟨c, 0, none⟩)] u fun e w' => (∃ a, e = .returned (.tuple #[.pointer (some ⟨a, 0, none⟩), .int .i64 0]) ∧ Are w' ⟨a, c, cc, b, sb, k, p, s, sh⟩ w' (D0 N)) ∧ Below u.heap.size u w') := zh fun u c cc b sb sh h1 h2 =>
  zti c cc b sb k p s sh (D0 N) u h1 h2 (fun x hx => (List.mem_replicate.1 hx).2) hs hs8 (by rw [zbfe, hNN]; exact Nat.le_refl _)
 show Calls Tryz.prog 10 #[.agg [Value.int .i64 (k : Int), .int .i64 (p : Int), .int .i64 (s : Int)].toArray] w _
 clear hk hk8 hp hp6 hs hs8 hr ha hN hNN hN1
 go_enter Tryz.func10, Tryz.ntmps10
 go_wp2_with (first
  | ((with_reducible refine wpBoxK (w := w) [Value.int .i64 (k : Int), .int .i64 (p : Int), .int .i64 (s : Int)] 23 ?_ ?_); rfl; intro u1 r1 b1 s1; have R1 := zh r1; have B1 := zh b1; clear r1 b1 s1)
  | ((with_reducible refine R1.out.wpLoadK 23 fits_geo rfl ?_ ?_); rfl)
  | (go_at_call 32; (with_reducible refine (HA.out u1).mono ?_); rintro e u2 ⟨rfl, b2⟩; have B2 := zh (B1.out.next b2); have R2 := zh (R1.out.step b2); clear b2)
  | (go_at_call 31; (with_reducible refine (HFN.out u2).mono ?_); rintro e u3 ⟨sh, rfl, d3, q3, b3⟩; have B3 := zh (B2.out.next b3); have R3 := zh (R2.out.step b3); have D3 := zh d3; have Q3 : Hid (∀ q ∈ sh.S, w.heap.size <= q) := zh (fun q hq => Nat.le_trans B2.out.size (q3 q hq)); clear b3 d3 q3)
  | ((with_reducible refine R3.out.wpLoadK 23 fits_geo rfl ?_ ?_); rfl)
  | (go_at_call 33; (with_reducible refine (HSN.out u3).mono ?_); rintro e u4 ⟨⟨c, cc, b, sb, rfl, c4⟩, b4⟩; have B4 := zh (B3.out.next b4); have D4 := zh (D3.out.step b4); have C4 := zh c4; clear b4 c4)
  | (go_at_call 34; (with_reducible refine (HNW.out u4 _ _ _ _ _ C4.out D4.out).mono ?_); rintro e u5 ⟨⟨a, rfl, a5⟩, b5⟩; have B5 := zh (B4.out.next b5); have A5 := zh a5; clear b5 a5))
 go_ret2
 exact ⟨⟨a, c, cc, b, sb, sh, rfl, A5.out, Q3.out⟩, B5.out⟩
def Wrote (D : Dv) (A : ArD) (slot : Nat) (f : Fb) : Prop := ∀ t, t < A.s -> ∀ i, i < A.n -> sec D.C (plF A.n A.s slot t i) = wrS A.k A.p (stF f A.k t) i
theorem Wrote.good {D : Dv} {A : ArD} {slot : Nat} {f : Fb} (h : Wrote D A slot f) : GoodA D A slot f ∧ ∀ t, t < A.s -> wrongN D A slot f t = 0 := by
 have h1 : ∀ t, t < A.s -> ∀ i, i < A.k + A.p -> (stS D A slot t).getD i [] = wrS A.k A.p (stF f A.k t) i := fun t ht i hi => by
  unfold stS
  have hi' : i < A.n := hi
  rw [zbke _ _ _ _ _ _ hi']
  exact h t ht i hi
 refine ⟨fun t ht => (zku (h1 t ht)).1, fun t ht => ?_⟩
 have := (zku (h1 t ht)).2
 unfold wrongN
 rw [show badL (stS D A slot t) (wholeF (stF f A.k t) A.k A.p) A.n = [] from this]; rfl
theorem filled {D : Dv} (hu : Up D) (A : ArD) {slot : Nat} (f : Fb) (hs : slot < 3) (hL : 3 * (A.n * A.s) <= D.L.length) (hf : Free D A.n A.s slot) :
  runE (fillF A.n A.s slot fun t => wrS A.k A.p (stF f A.k t)) D = 0 ∧ Aft D (slotS (sec D.C) A.n A.s slot (fun t => wrS A.k A.p (stF f A.k t)) A.s) (runD (fillF A.n A.s slot fun t => wrS A.k A.p (stF f A.k t)) D) ∧
  Wrote (runD (fillF A.n A.s slot fun t => wrS A.k A.p (stF f A.k t)) D) A slot f := by
 obtain ⟨h1, h2⟩ := zbif hu (X := fun t => wrS A.k A.p (stF f A.k t)) hs (fun t i _ _ => zbcp _ _ _ _) hL hf
 refine ⟨h1, h2, fun t ht i hi => ?_⟩
 rw [h2.at_ _ (by have := zsy hs ht hi; omega), znp _ _ ht hi, if_pos ht]
theorem zban : Tryz.prog.built 25 [] = some [Value.int .i64 0, .int .i64 0, .int .i64 0].toArray := by kernel_rfl
theorem zfh (w : World) (hg : Glob w) :
  Calls Tryz.prog 6 #[] w fun e w' => e = .returned (.bool true) ∧ Below w.heap.size w w' := by
 obtain ⟨im, him⟩ : ∃ im : ByteArray, im = { data := #[97, 98, 99] } := ⟨_, rfl⟩
 have hsz : im.size = 3 := by rw [him]; rfl
 obtain ⟨H, hH⟩ : ∃ H, ShaMath.sha im.data.toList = H := ⟨_, rfl⟩
 have hlH : H.length = 32 := by rw [<- hH, ShaMath.sha_length]
 have HFR : Hid (Calls Tryz.prog 10 #[.agg #[.int .i64 2, .int .i64 2, .int .i64 1]] w fun e w' => (∃ a c cc b sb sh, e = .returned (.tuple #[.pointer (some ⟨a, 0, none⟩), .pointer (some ⟨sh.b, 0, none⟩)]) ∧ Are w' ⟨a, c, cc, b, sb, 2, 2, 1, sh⟩ w' (D0 30) ∧ (∀ q ∈ sh.S, w.heap.size <= q)) ∧ Below w.heap.size w w') := zh (zpn 2 2 1 w (by omega) (by omega) (by omega) (by omega) (by omega) (by omega))
 have HOF : Hid (∀ u, Glob u -> Calls Tryz.prog 21 #[.agg #[.int .i64 0, .int .i64 0, .int .i64 0], .string im] u fun e w' => e = .returned (.agg (hdv 0 0 0 3 H).toArray) ∧ Below u.heap.size u w') := zh fun u hu => by
  have h1 := zxr 0 0 0 im H u hH hu (by omega)
  rwa [hsz] at h1
 have hok : hOk 0 0 0 (im.size : Int) = true := by rw [hsz]; decide
 have hrm : (im.size : Int) <= room (gmN 2 2 1) := by rw [hsz]; decide
 have HFL : Hid (∀ (wB u : World) (a c cc b sb : Nat) (sh : Sh), Are wB ⟨a, c, cc, b, sb, 2, 2, 1, sh⟩ u (D0 30) -> Calls Tryz.prog 20 #[.pointer (some ⟨a, 0, none⟩), .int .i64 1, .agg (hdv 0 0 0 3 H).toArray, .string im] u fun e w' => e = .returned (.int .i64 0) ∧ (∃ D, Up D ∧ Wrote D ⟨a, c, cc, b, sb, 2, 2, 1, sh⟩ 1 (blF (2 * 1) (headB 0 0 0 3 H ++ im.data.toList)) ∧ Are wB ⟨a, c, cc, b, sb, 2, 2, 1, sh⟩ w' D) ∧ Onl sh.S u w') := zh fun wB u a c cc b sb sh h1 => by
  have h2 := zse wB _ u (D0 30) h1 1 (by omega) 0 0 0 (im.size : Int) H im hlH hok rfl hrm
  obtain ⟨h3, h4, h5⟩ := filled (zbpi (n := 30) (by omega) (by omega)) ⟨a, c, cc, b, sb, 2, 2, 1, sh⟩ (slot := 1) (blF (2 * 1) (headB 0 0 0 (im.size : Int) H ++ im.data.toList)) (by omega) (by rw [zbfe]; show 3 * ((2 + 2) * 1) <= 30; decide) (zblw _ _ _ _)
  rw [hsz] at h2 h3 h4 h5
  refine h2.mono ?_
  rintro e w' ⟨rfl, q2, q3⟩
  exact ⟨congrArg (fun z => Ending.returned (.int .i64 z)) h3, ⟨_, h4.up, h5, q2⟩, q3⟩
 have HLD : Hid (∀ (wB u : World) (a c cc b sb : Nat) (sh : Sh) (D : Dv), Are wB ⟨a, c, cc, b, sb, 2, 2, 1, sh⟩ u D -> Up D -> Wrote D ⟨a, c, cc, b, sb, 2, 2, 1, sh⟩ 1 (blF (2 * 1) (headB 0 0 0 3 H ++ im.data.toList)) -> Glob u -> (∀ k ∈ sh.S, 2 < k) -> Calls Tryz.prog 14 #[.pointer (some ⟨a, 0, none⟩), .int .i64 1] u fun e w' => e = .returned (.tuple #[.agg (hdv 0 0 0 3 H).toArray, .string im, .int .i64 0, .int .i64 0]) ∧ Onl sh.S u w') := zh fun wB u a c cc b sb sh D h1 hu hw hgu hgs => by
  obtain ⟨h2, h3⟩ := hw.good
  have h4 := zpq wB _ u D h1 hu 1 (by omega) 0 0 0 H im hH.symm hok hrm (by rw [hsz]; exact h2) hgu hgs
  rw [hsz] at h4
  refine h4.mono ?_
  rintro e w' ⟨rfl, _, q3⟩
  exact ⟨congrArg (fun c : Nat => Ending.returned (.tuple #[.agg (hdv 0 0 0 3 H).toArray, .string im, .int .i64 (c : Int), .int .i64 0])) (zrg h3), q3⟩
 have HGS : Hid (∀ (sh : Sh), (∀ q ∈ sh.S, w.heap.size <= q) -> ∀ k ∈ sh.S, 2 < k) := zh fun sh h k hk => by have := h k hk; have := hg.size; omega
 have HG := zh hg
 have LV : Hid ((hdv 0 0 0 3 H).length = 36) := zh (zam _ _ _ _ _ hlH)
 have V1 := zh (zcd 0 0 0 3 H)
 have HZ : Hid (∀ u, (zeroValue 29).run Tryz.prog u = .ok (.agg (hdv 0 0 0 0 (List.replicate 32 0)).toArray) u) := zh zcn
 have LZ : Hid ((hdv 0 0 0 0 (List.replicate 32 0)).length = 36) := zh (zam _ _ _ _ _ (by simp))
 have HBV := zh zban
 obtain ⟨Z, hZ⟩ : ∃ Z, hdv 0 0 0 0 (List.replicate 32 0) = Z := ⟨_, rfl⟩
 obtain ⟨V, hV⟩ : ∃ V, hdv 0 0 0 3 H = V := ⟨_, rfl⟩
 rw [hZ] at HZ LZ
 rw [hV] at HOF HFL HLD LV V1
 obtain ⟨f, hf⟩ : ∃ f, blF (2 * 1) (headB 0 0 0 3 H ++ im.data.toList) = f := ⟨_, rfl⟩
 rw [hf] at HFL HLD
 clear hok hrm hlH hH hsz hg hZ hV hf
 subst him
 go_enter Tryz.func6, Tryz.ntmps6
 go_wp2_with (first
  | (go_at_call 10; (with_reducible refine HFR.out.mono ?_); rintro e w1 ⟨⟨a, c, cc, b, sb, sh, rfl, a1, q1⟩, b1⟩; have A1 := zh a1; have Q1 := zh q1; have B1 := zh b1; have G1 := zh (HG.out.step b1); clear a1 q1 b1)
  | (go_at_call 21; (with_reducible refine (HOF.out w1 G1.out).mono ?_); rintro e w2 ⟨rfl, b2⟩; have A2 := zh (A1.out.step b2); have B2 := zh (B1.out.next b2); have G2 := zh (G1.out.step b2); clear b2)
  | (go_at_call 20; (with_reducible refine (HFL.out _ w2 _ _ _ _ _ _ A2.out).mono ?_); rintro e w3 ⟨rfl, ⟨D3, u3, x3, a3⟩, o3⟩; have A3 := zh a3; have U3 := zh u3; have X3 := zh x3; have G3 := zh (G2.out.onl o3 (HGS.out sh Q1.out)); have B3 := zh (B2.out.trans (o3.below Q1.out B2.out.size)); clear a3 u3 x3 o3)
  | (go_at_call 14; (with_reducible refine (HLD.out _ w3 _ _ _ _ _ _ _ A3.out U3.out X3.out G3.out (HGS.out sh Q1.out)).mono ?_); rintro e w4 ⟨rfl, o4⟩; have B4 := zh (B3.out.trans (o4.below Q1.out B3.out.size)); clear o4)
  | ((with_reducible refine wpAllocK (w := w4) Z 29 HZ.out ?_ ?_); rfl; intro w5 r5 b5 s5; have R5 := zh r5; have B5 := zh (B4.out.next b5); clear r5 b5 s5)
  | ((with_reducible refine R5.out.wpStoreK 29 V fits_head LZ.out LV.out V1.out ?_ ?_); rfl; intro w6 r6 o6 s6; have B6 := zh (B5.out.trans (o6.below B4.out.size B5.out.size)); clear r6 o6 s6))
 go_ret
 exact ⟨rfl, B6.out⟩
theorem ztk {w : World} {B B' : Nat} {e : TypeId} {s : Nat} {v : Value} {n : Nat} {xs : List Value} (h : w.ownsRow B e s v n xs) (hB : B' <= B) : w.ownsRow B' e s v n xs := by
 refine ⟨h.1, ?_⟩
 rcases h.2 with h | ⟨g', cap, cur, h1, h2, h3⟩
 .exact .inl h
 .exact .inr ⟨g', cap, cur, h1, Nat.le_trans hB h2, h3⟩
theorem zge {B : Nat} {a b c : World} (h : Below B a b) (k : Below b.heap.size b c) (hB : B <= a.heap.size) : Below B a c := h.trans ⟨k.os, k.tape, k.output, k.size, fun q hq => k.block q (Nat.lt_of_lt_of_le hq (Nat.le_trans hB h.size))⟩
theorem zvw (a b c n : Int) (H : List UInt8) (d p s : Int) (im : ByteArray) (w : World) (hH : H.length = 32) (hrt0 : right ⟨d, p, s⟩ = false) :
  Calls Tryz.prog 8 #[geoV ⟨d, p, s⟩, .agg (hdv a b c n H).toArray, .string im] w fun e w' => e = .returned (.tuple #[.slice none 0 0, .int .i64 1]) ∧ Below w.heap.size w w' := by
 obtain ⟨rt, hr0⟩ : ∃ x, x = false := ⟨_, rfl⟩
 have hrt : right ⟨d, p, s⟩ = rt := hrt0.trans hr0.symm
 obtain ⟨ho, hho⟩ : ∃ x, hOk a b c n = x := ⟨_, rfl⟩
 have HRT : Hid (∀ u, Calls Tryz.prog 9 #[.agg [Value.int .i64 d, .int .i64 p, .int .i64 s].toArray] u fun e w' => e = .returned (.bool rt) ∧ Below u.heap.size u w') := zh fun u => by rw [<- hrt]; exact zfv ⟨d, p, s⟩ u
 have HRH : Hid (∀ u, Calls Tryz.prog 28 #[.agg (hdv a b c n H).toArray] u fun e w' => e = .returned (.bool ho) ∧ Below u.heap.size u w') := zh fun u => by rw [<- hho]; exact zdc a b c n H u
 have HV3 : Hid ((hdv a b c n H)[3]? = some (.int .i64 n)) := zh rfl
 have LV : Hid ((hdv a b c n H).length = 36) := zh (zam a b c n H hH)
 obtain ⟨V, hV⟩ : ∃ V, hdv a b c n H = V := ⟨_, rfl⟩
 rw [hV] at HRH HV3 LV ⊢
 clear hV hH
 subst hr0
 clear hrt hrt0 hho
 show Calls Tryz.prog 8 #[.agg [Value.int .i64 d, .int .i64 p, .int .i64 s].toArray, .agg V.toArray, .string im] w _
 go_enter Tryz.func8, Tryz.ntmps8
 go_wp2_with (first
  | ((with_reducible refine wpBoxK (w := w) [Value.int .i64 d, .int .i64 p, .int .i64 s] 37 ?_ ?_); rfl; intro u1 r1 b1 s1; have RG1 := zh r1; have B1 := zh b1; clear r1 b1 s1)
  | ((with_reducible refine wpBoxK (w := u1) V 38 ?_ ?_); rfl; intro u2 r2 b2 s2; have RH2 := zh r2; have RG2 := zh (RG1.out.step b2); have B2 := zh (B1.out.next b2); clear r2 b2 s2)
  | ((with_reducible refine RG2.out.wpLoadK 37 zdt rfl ?_ ?_); rfl)
  | (go_at_call 9; (with_reducible refine (HRT.out u2).mono ?_); rintro e u3 ⟨rfl, b3⟩; have RH3 := zh (RH2.out.step b3); have RG3 := zh (RG2.out.step b3); have B3 := zh (B2.out.next b3); clear b3)
  | ((with_reducible refine RH3.out.wpLoadG 38 zdx LV.out ?_ ?_); rfl)
  | (go_at_call 28; (with_reducible refine (HRH.out u3).mono ?_); rintro e u4 ⟨rfl, b4⟩; have cn := ((RH3.out.step b4).cell 3).trans HV3.out; have RH4 := zh (RH3.out.step b4); have RG4 := zh (RG3.out.step b4); have B4 := zh (B3.out.next b4); clear b4))
 go_ret2
 exact ⟨rfl, B3.out⟩
theorem zvx (a b c n : Int) (H : List UInt8) (d p s : Int) (im : ByteArray) (w : World) (hH : H.length = 32) (hrt0 : right ⟨d, p, s⟩ = true) (hok : hOk a b c n = false) :
  Calls Tryz.prog 8 #[geoV ⟨d, p, s⟩, .agg (hdv a b c n H).toArray, .string im] w fun e w' => e = .returned (.tuple #[.slice none 0 0, .int .i64 1]) ∧ Below w.heap.size w w' := by
 obtain ⟨rt, hr0⟩ : ∃ x, x = true := ⟨_, rfl⟩
 have hrt : right ⟨d, p, s⟩ = rt := hrt0.trans hr0.symm
 obtain ⟨ho, ho0⟩ : ∃ x, x = false := ⟨_, rfl⟩
 have hho : hOk a b c n = ho := hok.trans ho0.symm
 have HRT : Hid (∀ u, Calls Tryz.prog 9 #[.agg [Value.int .i64 d, .int .i64 p, .int .i64 s].toArray] u fun e w' => e = .returned (.bool rt) ∧ Below u.heap.size u w') := zh fun u => by rw [<- hrt]; exact zfv ⟨d, p, s⟩ u
 have HRH : Hid (∀ u, Calls Tryz.prog 28 #[.agg (hdv a b c n H).toArray] u fun e w' => e = .returned (.bool ho) ∧ Below u.heap.size u w') := zh fun u => by rw [<- hho]; exact zdc a b c n H u
 have HV3 : Hid ((hdv a b c n H)[3]? = some (.int .i64 n)) := zh rfl
 have LV : Hid ((hdv a b c n H).length = 36) := zh (zam a b c n H hH)
 obtain ⟨V, hV⟩ : ∃ V, hdv a b c n H = V := ⟨_, rfl⟩
 rw [hV] at HRH HV3 LV ⊢
 clear hV hH
 subst hr0
 subst ho0
 clear hrt hrt0 hho hok
 show Calls Tryz.prog 8 #[.agg [Value.int .i64 d, .int .i64 p, .int .i64 s].toArray, .agg V.toArray, .string im] w _
 go_enter Tryz.func8, Tryz.ntmps8
 go_wp2_with (first
  | ((with_reducible refine wpBoxK (w := w) [Value.int .i64 d, .int .i64 p, .int .i64 s] 37 ?_ ?_); rfl; intro u1 r1 b1 s1; have RG1 := zh r1; have B1 := zh b1; clear r1 b1 s1)
  | ((with_reducible refine wpBoxK (w := u1) V 38 ?_ ?_); rfl; intro u2 r2 b2 s2; have RH2 := zh r2; have RG2 := zh (RG1.out.step b2); have B2 := zh (B1.out.next b2); clear r2 b2 s2)
  | ((with_reducible refine RG2.out.wpLoadK 37 zdt rfl ?_ ?_); rfl)
  | (go_at_call 9; (with_reducible refine (HRT.out u2).mono ?_); rintro e u3 ⟨rfl, b3⟩; have RH3 := zh (RH2.out.step b3); have RG3 := zh (RG2.out.step b3); have B3 := zh (B2.out.next b3); clear b3)
  | ((with_reducible refine RH3.out.wpLoadG 38 zdx LV.out ?_ ?_); rfl)
  | (go_at_call 28; (with_reducible refine (HRH.out u3).mono ?_); rintro e u4 ⟨rfl, b4⟩; have cn := ((RH3.out.step b4).cell 3).trans HV3.out; have RH4 := zh (RH3.out.step b4); have RG4 := zh (RG3.out.step b4); have B4 := zh (B3.out.next b4); clear b4))
 go_ret2
 exact ⟨rfl, B4.out⟩
theorem zvy (a b c n : Int) (H : List UInt8) (d p s : Int) (im : ByteArray) (w : World) (hH : H.length = 32) (hrt0 : right ⟨d, p, s⟩ = true) (hok : hOk a b c n = true) (hn : n ≠ (im.size : Int)) :
  Calls Tryz.prog 8 #[geoV ⟨d, p, s⟩, .agg (hdv a b c n H).toArray, .string im] w fun e w' => e = .returned (.tuple #[.slice none 0 0, .int .i64 1]) ∧ Below w.heap.size w w' := by
 obtain ⟨rt, hr0⟩ : ∃ x, x = true := ⟨_, rfl⟩
 have hrt : right ⟨d, p, s⟩ = rt := hrt0.trans hr0.symm
 obtain ⟨ho, ho0⟩ : ∃ x, x = true := ⟨_, rfl⟩
 have hho : hOk a b c n = ho := hok.trans ho0.symm
 have HRT : Hid (∀ u, Calls Tryz.prog 9 #[.agg [Value.int .i64 d, .int .i64 p, .int .i64 s].toArray] u fun e w' => e = .returned (.bool rt) ∧ Below u.heap.size u w') := zh fun u => by rw [<- hrt]; exact zfv ⟨d, p, s⟩ u
 have HRH : Hid (∀ u, Calls Tryz.prog 28 #[.agg (hdv a b c n H).toArray] u fun e w' => e = .returned (.bool ho) ∧ Below u.heap.size u w') := zh fun u => by rw [<- hho]; exact zdc a b c n H u
 have HV3 : Hid ((hdv a b c n H)[3]? = some (.int .i64 n)) := zh rfl
 have LV : Hid ((hdv a b c n H).length = 36) := zh (zam a b c n H hH)
 obtain ⟨V, hV⟩ : ∃ V, hdv a b c n H = V := ⟨_, rfl⟩
 rw [hV] at HRH HV3 LV ⊢
 clear hV hH
 subst hr0
 subst ho0
 have n1 : (n != (im.size : Int)) = true := bne_iff_ne.2 hn
 have n2 : (n == (im.size : Int)) = false := beq_eq_false_iff_ne.2 hn
 clear hrt hrt0 hho hok
 show Calls Tryz.prog 8 #[.agg [Value.int .i64 d, .int .i64 p, .int .i64 s].toArray, .agg V.toArray, .string im] w _
 go_enter Tryz.func8, Tryz.ntmps8
 go_wp2_with (first
  | ((with_reducible refine wpBoxK (w := w) [Value.int .i64 d, .int .i64 p, .int .i64 s] 37 ?_ ?_); rfl; intro u1 r1 b1 s1; have RG1 := zh r1; have B1 := zh b1; clear r1 b1 s1)
  | ((with_reducible refine wpBoxK (w := u1) V 38 ?_ ?_); rfl; intro u2 r2 b2 s2; have RH2 := zh r2; have RG2 := zh (RG1.out.step b2); have B2 := zh (B1.out.next b2); clear r2 b2 s2)
  | ((with_reducible refine RG2.out.wpLoadK 37 zdt rfl ?_ ?_); rfl)
  | (go_at_call 9; (with_reducible refine (HRT.out u2).mono ?_); rintro e u3 ⟨rfl, b3⟩; have RH3 := zh (RH2.out.step b3); have RG3 := zh (RG2.out.step b3); have B3 := zh (B2.out.next b3); clear b3)
  | ((with_reducible refine RH3.out.wpLoadG 38 zdx LV.out ?_ ?_); rfl)
  | (go_at_call 28; (with_reducible refine (HRH.out u3).mono ?_); rintro e u4 ⟨rfl, b4⟩; have cn := ((RH3.out.step b4).cell 3).trans HV3.out; have RH4 := zh (RH3.out.step b4); have RG4 := zh (RG3.out.step b4); have B4 := zh (B3.out.next b4); clear b4))
 go_ret2
 exact ⟨rfl, B4.out⟩
theorem zvz (a b c n : Int) (H : List UInt8) (d p s : Int) (im : ByteArray) (w : World) (hH : H.length = 32) (hrt0 : right ⟨d, p, s⟩ = true) (hok : hOk a b c n = true) (hn : n = (im.size : Int)) (hlong : room ⟨d, p, s⟩ < n) :
  Calls Tryz.prog 8 #[geoV ⟨d, p, s⟩, .agg (hdv a b c n H).toArray, .string im] w fun e w' => e = .returned (.tuple #[.slice none 0 0, .int .i64 12]) ∧ Below w.heap.size w w' := by
 obtain ⟨rt, hr0⟩ : ∃ x, x = true := ⟨_, rfl⟩
 have hrt : right ⟨d, p, s⟩ = rt := hrt0.trans hr0.symm
 obtain ⟨ho, ho0⟩ : ∃ x, x = true := ⟨_, rfl⟩
 have hho : hOk a b c n = ho := hok.trans ho0.symm
 have HRM : Hid (∀ u, Calls Tryz.prog 29 #[.agg [Value.int .i64 d, .int .i64 p, .int .i64 s].toArray] u fun e w' => e = .returned (.int .i64 (room ⟨d, p, s⟩)) ∧ Below u.heap.size u w') := zh fun u => zrx ⟨d, p, s⟩ u ((zbl _).1 hrt0)
 obtain ⟨rm, hrm⟩ : ∃ rm, room ⟨d, p, s⟩ = rm := ⟨_, rfl⟩
 rw [hrm] at HRM hlong
 have HRT : Hid (∀ u, Calls Tryz.prog 9 #[.agg [Value.int .i64 d, .int .i64 p, .int .i64 s].toArray] u fun e w' => e = .returned (.bool rt) ∧ Below u.heap.size u w') := zh fun u => by rw [<- hrt]; exact zfv ⟨d, p, s⟩ u
 have HRH : Hid (∀ u, Calls Tryz.prog 28 #[.agg (hdv a b c n H).toArray] u fun e w' => e = .returned (.bool ho) ∧ Below u.heap.size u w') := zh fun u => by rw [<- hho]; exact zdc a b c n H u
 have HV3 : Hid ((hdv a b c n H)[3]? = some (.int .i64 n)) := zh rfl
 have LV : Hid ((hdv a b c n H).length = 36) := zh (zam a b c n H hH)
 obtain ⟨V, hV⟩ : ∃ V, hdv a b c n H = V := ⟨_, rfl⟩
 rw [hV] at HRH HV3 LV ⊢
 clear hV hH
 subst hr0
 subst ho0
 have n1 : (n != (im.size : Int)) = false := by rw [bne_eq_false_iff_eq]; exact hn
 have n2 : (n == (im.size : Int)) = true := by rw [beq_iff_eq]; exact hn
 have hl2 : rm < (im.size : Int) := by rw [<- hn]; exact hlong
 have hl3 : decide (rm < (im.size : Int)) = true := decide_eq_true hl2
 clear hrt hrt0 hho hok hrm hlong hn
 show Calls Tryz.prog 8 #[.agg [Value.int .i64 d, .int .i64 p, .int .i64 s].toArray, .agg V.toArray, .string im] w _
 go_enter Tryz.func8, Tryz.ntmps8
 go_wp2_with (first
  | ((with_reducible refine wpBoxK (w := w) [Value.int .i64 d, .int .i64 p, .int .i64 s] 37 ?_ ?_); rfl; intro u1 r1 b1 s1; have RG1 := zh r1; have B1 := zh b1; clear r1 b1 s1)
  | ((with_reducible refine wpBoxK (w := u1) V 38 ?_ ?_); rfl; intro u2 r2 b2 s2; have RH2 := zh r2; have RG2 := zh (RG1.out.step b2); have B2 := zh (B1.out.next b2); clear r2 b2 s2)
  | ((with_reducible refine RG2.out.wpLoadK 37 zdt rfl ?_ ?_); rfl)
  | (go_at_call 9; (with_reducible refine (HRT.out u2).mono ?_); rintro e u3 ⟨rfl, b3⟩; have RH3 := zh (RH2.out.step b3); have RG3 := zh (RG2.out.step b3); have B3 := zh (B2.out.next b3); clear b3)
  | ((with_reducible refine RH3.out.wpLoadG 38 zdx LV.out ?_ ?_); rfl)
  | (go_at_call 28; (with_reducible refine (HRH.out u3).mono ?_); rintro e u4 ⟨rfl, b4⟩; have cn := ((RH3.out.step b4).cell 3).trans HV3.out; have RH4 := zh (RH3.out.step b4); have RG4 := zh (RG3.out.step b4); have B4 := zh (B3.out.next b4); clear b4)
  | ((with_reducible refine RG4.out.wpLoadK 37 zdt rfl ?_ ?_); rfl)
  | (go_at_call 29; (with_reducible refine (HRM.out u4).mono ?_); rintro e u5 ⟨rfl, b5⟩; have RH5 := zh (RH4.out.step b5); have RG5 := zh (RG4.out.step b5); have B5 := zh (B4.out.next b5); clear b5))
 go_ret2
 exact ⟨rfl, B5.out⟩
theorem zbbt (a b c n : Int) (H : List UInt8) (d p s : Int) (im : ByteArray) (w : World) (hH : H.length = 32) (hrt0 : right ⟨d, p, s⟩ = true) (hok : hOk a b c n = true) (hn : n = (im.size : Int)) (hlong : n <= room ⟨d, p, s⟩) (m : Nat) (hm : d * s = (m : Int)) (hm64 : m <= 64) (him : im.size <= 20000000) :
  Calls Tryz.prog 8 #[geoV ⟨d, p, s⟩, .agg (hdv a b c n H).toArray, .string im] w fun e w' => (∃ v, e = .returned (.tuple #[v, .int .i64 0]) ∧ w'.ownsRow w.heap.size 40 60 v m (bytes (splitF m (headB a b c n H ++ im.data.toList)).flatten)) ∧ Below w.heap.size w w' := by
 obtain ⟨rt, hr0⟩ : ∃ x, x = true := ⟨_, rfl⟩
 have hrt : right ⟨d, p, s⟩ = rt := hrt0.trans hr0.symm
 obtain ⟨ho, ho0⟩ : ∃ x, x = true := ⟨_, rfl⟩
 have hho : hOk a b c n = ho := hok.trans ho0.symm
 have HRM : Hid (∀ u, Calls Tryz.prog 29 #[.agg [Value.int .i64 d, .int .i64 p, .int .i64 s].toArray] u fun e w' => e = .returned (.int .i64 (room ⟨d, p, s⟩)) ∧ Below u.heap.size u w') := zh fun u => zrx ⟨d, p, s⟩ u ((zbl _).1 hrt0)
 obtain ⟨rm, hrm⟩ : ∃ rm, room ⟨d, p, s⟩ = rm := ⟨_, rfl⟩
 rw [hrm] at HRM hlong
 have HPT : Hid (∀ u, Calls Tryz.prog 30 #[.agg (hdv a b c n H).toArray] u fun e w' => e = .returned (.string (str (headB a b c n H))) ∧ Below u.heap.size u w') := zh fun u => zsp a b c n H u hok hH
 have hTz : (str (headB a b c n H)).size = 48 := by rw [zbc, zcu a b c n H hH]
 obtain ⟨T, hT⟩ : ∃ T, str (headB a b c n H) ++ im = T := ⟨_, rfl⟩
 have hTl : T.data.toList = headB a b c n H ++ im.data.toList := by rw [<- hT, ByteArray.data_append, Array.toList_append, zcc]
 have hTs : T.size = 48 + im.size := by rw [<- hT, ByteArray.size_append, hTz]
 rw [<- hTl]
 obtain ⟨P, hP⟩ : ∃ P, str (headB a b c n H) = P := ⟨_, rfl⟩
 rw [hP] at HPT hT hTz
 have HRT : Hid (∀ u, Calls Tryz.prog 9 #[.agg [Value.int .i64 d, .int .i64 p, .int .i64 s].toArray] u fun e w' => e = .returned (.bool rt) ∧ Below u.heap.size u w') := zh fun u => by rw [<- hrt]; exact zfv ⟨d, p, s⟩ u
 have HRH : Hid (∀ u, Calls Tryz.prog 28 #[.agg (hdv a b c n H).toArray] u fun e w' => e = .returned (.bool ho) ∧ Below u.heap.size u w') := zh fun u => by rw [<- hho]; exact zdc a b c n H u
 have HV3 : Hid ((hdv a b c n H)[3]? = some (.int .i64 n)) := zh rfl
 have LV : Hid ((hdv a b c n H).length = 36) := zh (zam a b c n H hH)
 obtain ⟨V, hV⟩ : ∃ V, hdv a b c n H = V := ⟨_, rfl⟩
 rw [hV] at HRH HV3 LV ⊢ HPT
 clear hV
 subst hr0
 subst ho0
 have n1 : (n != (im.size : Int)) = false := by rw [bne_eq_false_iff_eq]; exact hn
 have n2 : (n == (im.size : Int)) = true := by rw [beq_iff_eq]; exact hn
 have hl2 : ¬ rm < (im.size : Int) := by omega
 have hl3 : decide (rm < (im.size : Int)) = false := decide_eq_false hl2
 have hsz : P.size + im.size <= 20000048 := by omega
 clear hrt hrt0 hho hok hrm hlong hn hP
 show Calls Tryz.prog 8 #[.agg [Value.int .i64 d, .int .i64 p, .int .i64 s].toArray, .agg V.toArray, .string im] w _
 go_enter Tryz.func8, Tryz.ntmps8
 go_wp2_with (first
  | ((with_reducible refine wpBoxK (w := w) [Value.int .i64 d, .int .i64 p, .int .i64 s] 37 ?_ ?_); rfl; intro u1 r1 b1 s1; have RG1 := zh r1; have B1 := zh b1; clear r1 b1 s1)
  | ((with_reducible refine wpBoxK (w := u1) V 38 ?_ ?_); rfl; intro u2 r2 b2 s2; have RH2 := zh r2; have RG2 := zh (RG1.out.step b2); have B2 := zh (B1.out.next b2); clear r2 b2 s2)
  | ((with_reducible refine RG2.out.wpLoadK 37 zdt rfl ?_ ?_); rfl)
  | (go_at_call 9; (with_reducible refine (HRT.out u2).mono ?_); rintro e u3 ⟨rfl, b3⟩; have RH3 := zh (RH2.out.step b3); have RG3 := zh (RG2.out.step b3); have B3 := zh (B2.out.next b3); clear b3)
  | ((with_reducible refine RH3.out.wpLoadG 38 zdx LV.out ?_ ?_); rfl)
  | (go_at_call 28; (with_reducible refine (HRH.out u3).mono ?_); rintro e u4 ⟨rfl, b4⟩; have cn := ((RH3.out.step b4).cell 3).trans HV3.out; have RH4 := zh (RH3.out.step b4); have RG4 := zh (RG3.out.step b4); have B4 := zh (B3.out.next b4); clear b4)
  | ((with_reducible refine RG4.out.wpLoadK 37 zdt rfl ?_ ?_); rfl)
  | (go_at_call 29; (with_reducible refine (HRM.out u4).mono ?_); rintro e u5 ⟨rfl, b5⟩; have RH5 := zh (RH4.out.step b5); have RG5 := zh (RG4.out.step b5); have B5 := zh (B4.out.next b5); clear b5)
  | ((with_reducible refine RH5.out.wpLoadK 38 zdx LV.out ?_ ?_); rfl)
  | (go_at_call 30; (with_reducible refine (HPT.out u5).mono ?_); rintro e u6 ⟨rfl, b6⟩; have RG6 := zh (RG5.out.step b6); have B6 := zh (B5.out.next b6); clear b6))
 obtain ⟨b6, hb6⟩ : ∃ b, u6.heap.size = b := ⟨_, rfl⟩
 have HRG7 : Hid (Row (u6.alloc (.cells #[] 40)) w.heap.size 37 [Value.int .i64 d, .int .i64 p, .int .i64 s]) := zh (RG6.out.alloc _)
 have B7 : Hid (Below w.heap.size w (u6.alloc (.cells #[] 40))) := zh (B6.out.alloc B6.out.size _)
 have HOW : Hid ((u6.alloc (.cells #[] 40)).ownsRow b6 40 60 (.slice (some ⟨b6, 0, none⟩) 0 0) 0 (bytes (splitF 0 T.data.toList).flatten)) := zh (by
  rw [<- hb6]
  exact Row.ownsM (xs := []) (ys := []) (Row.new u6 40 []) (Nat.le_refl _) rfl rfl (Nat.le_refl _) (by decide))
 obtain ⟨w6, hw6⟩ : ∃ x, u6.alloc (.cells #[] 40) = x := ⟨_, rfl⟩
 have HB6 : Hid (b6 <= w6.heap.size) := zh (by rw [<- hw6, <- hb6, World.alloc]; simp)
 have HWB : Hid (w.heap.size <= b6) := zh (by rw [<- hb6]; exact B6.out.size)
 obtain ⟨gG, hgG⟩ : ∃ g, w.heap.size = g := ⟨_, rfl⟩
 have HGL : Hid (gG < b6) := zh (by rw [<- hgG, <- hb6]; exact RG6.out.lt)
 rw [hw6] at HRG7 B7 HOW ⊢
 rw [hgG] at HRG7 ⊢
 rw [hb6]
 have HRG0 : Hid (∀ u, Below b6 w6 u -> Row u gG 37 [Value.int .i64 d, .int .i64 p, .int .i64 s]) := zh fun u hu => HRG7.out.below hu HGL.out
 have hw : wrap64 (d * s) = (m : Int) := by rw [hm]; unfold wrap64; omega
 have hmi : (m : Int) <= 64 := by omega
 have HFIN : Hid (∀ u, Below b6 w6 u -> Below w.heap.size w u) := zh fun u hu => ⟨hu.os.trans B7.out.os, hu.tape.trans B7.out.tape, hu.output.trans B7.out.output, Nat.le_trans B7.out.size hu.size, fun q hq => (hu.block q (Nat.lt_of_lt_of_le hq HWB.out)).trans (B7.out.block q hq)⟩
 have HTS := zh hTs
 have HIB := zh zxt
 have HP0 : Hid (0 < 60) := zh (by omega)
 have HGGW := zh hgG
 clear hTs hb6 hw6 hgG RG1 RG2 RG3 RG4 RG5 RG6 RH2 RH3 RH4 RH5 B1 B2 B3 B4 B5 B6 cn HRT HRH HRM hsz hT hTz hTl hl2 hl3 n1 n2
 go_loopw [9, 10] (fun v x wr => ∃ i : Nat, i <= m ∧ x = .int .i64 i ∧ wr.ownsRow b6 40 60 v i (bytes (splitF i T.data.toList).flatten) ∧ Row wr gG 37 [Value.int .i64 d, .int .i64 p, .int .i64 s] ∧ Below b6 w6 wr) (fun _ x _ => m - (intOf x).toNat)
 case atStart => exact ⟨0, Nat.zero_le _, rfl, HOW.out, HRG7.out, zb⟩
 case round =>
  clear HOW HRG7 B7
  obtain ⟨i, hi, rfl, hown, hrg, hbd⟩ := hrel
  obtain ⟨av, cv, rfl, hlv⟩ := zfw hown
  have f0 := hrg.cell 0
  have f2 := hrg.cell 2
  simp only [List.getElem?_cons_zero, List.getElem?_cons_succ] at f0 f2
  by_cases hlt : i < m
  .have hii : (i : Int) < (m : Int) := by omega
   have hs0 : T.size <= 20000048 := by have := HTS.out; omega
   have HBG : Big (i + 1 <= 1099511627776) := ⟨by omega⟩
   have HOWN := zh hown; have HRG := zh hrg; have HBD := zh hbd
   have hwq : wrap64 (60 * (i : Int)) = 60 * (i : Int) := by unfold wrap64; omega
   by_cases hgt : T.size < 60 * i
   .have hYl : (ByteArray.empty).data.toList = T.data.toList.drop (60 * i) := by
     rw [List.drop_of_length_le (by rw [zai]; omega)]; rfl
    have HBL : Hid (∀ u, Calls Tryz.prog 23 #[.string ByteArray.empty] u fun e w' => e = .returned (.agg (bytes (blk (T.data.toList.drop (60 * i)))).toArray) ∧ Below u.heap.size u w') := zh fun u => by
     have h1 := zlh ByteArray.empty u (by rw [<- zai, hYl, List.length_drop, zai]; omega)
     rwa [hYl] at h1
    obtain ⟨C, hC⟩ : ∃ C, blk (T.data.toList.drop (60 * i)) = C := ⟨_, rfl⟩
    have hCl : C.length = 60 := by rw [<- hC, blk_length]
    have HNX : Hid (bytes (splitF (i + 1) T.data.toList).flatten = bytes (splitF i T.data.toList).flatten ++ [bytes C].flatten) := zh (by
     rw [zfr, List.flatten_append, hC, zaj]; simp)
    have HNL : Hid (([bytes C] : List (List Value)).flatten.length = 1 * 60) := zh (by simp [zaa, hCl])
    have HM1 : Hid (([bytes C] : List (List Value)).flatten.all (·.oneCell') = true) := zh (by simpa using zbr C)
    have HVS : Hid (∀ l ∈ ([bytes C] : List (List Value)), l.length = 60) := zh fun l hl => by
     rcases List.mem_cons.1 hl with rfl | hl
     .rw [zaa, hCl]
     .cases hl
    rw [hC] at HBL; obtain ⟨MC, hMC⟩ : ∃ M, bytes C = M := ⟨_, rfl⟩; rw [hMC] at HBL HNX HNL HM1 HVS
    have HVL : Hid (0 < ([MC] : List (List Value)).length) := zh (by show 0 < 1; omega)
    have HVM : Hid (([MC] : List (List Value)).length * 60 <= 2 ^ 24) := zh (by show 1 * 60 <= 2 ^ 24; omega)
    have hgt1 : (T.size : Int) < 60 * (i : Int) := by omega
    have hgt2 : decide ((T.size : Int) < 60 * (i : Int)) = true := decide_eq_true hgt1
    have h1 : (T.size : Int) <= (T.size : Int) := Int.le_refl _
    clear hown hrg hbd hlv hs0 hlt hgt hYl hC hMC
    go_wp2_with (first
     | (go_at_call 23; (with_reducible refine (HBL.out wr).mono ?_); rintro e v1 ⟨rfl, b1⟩; have D1 := zh (zge HBD.out b1 HB6.out); have O1 := zh (zbk HOWN.out b1); have G1 := zh (HRG.out.step b1); clear b1)
     | ((with_reducible refine wpBuildBK (w := v1) [MC] 60 31 40 Tryz.underlying31 HIB.out HP0.out HVS.out HVL.out HVM.out ?_ ?_); rfl; intro v2 r2 b2 s2; have L2 := zh (zbj r2); have D2 := zh (zge D1.out b2 HB6.out); have O2 := zh (zbk O1.out b2); have G2 := zh (G1.out.step b2); have Z2 : Hid (b6 <= v2.heap.size) := zh (Nat.le_trans HB6.out D2.out.size); clear r2 b2 s2)
     | ((with_reducible refine wpAppendM 1 O2.out Tryz.underlying31 zff L2.out HNL.out Nat.one_pos HP0.out HM1.out HBG Z2.out ?_ ?_); rfl; intro v7 v3 g1 g2 g8; have O3 := zh g1; have D3 : Hid (Below b6 w6 v3) := zh (D2.out.grown g2 Z2.out (fun q hq => (O2.out.lt q hq).1)); have G3 : Hid (Row v3 gG 37 [Value.int .i64 d, .int .i64 p, .int .i64 s]) := zh (HRG0.out v3 D3.out); clear g1 g2 g8))
    go_roundw
    case rel => exact ⟨i + 1, by omega, by go_num, by rw [HNX.out]; exact O3.out, G3.out, D3.out⟩
    case measure => simp [intOf]; omega
   .obtain ⟨Y, hY⟩ : ∃ Y, T.extract (60 * i) T.size = Y := ⟨_, rfl⟩
    have hYl : Y.data.toList = T.data.toList.drop (60 * i) := by
     rw [<- hY, ByteArray.data_extract, Array.toList_extract, List.extract_eq_take_drop, List.take_of_length_le (by rw [List.length_drop, zai]; omega)]
    have HBL : Hid (∀ u, Calls Tryz.prog 23 #[.string Y] u fun e w' => e = .returned (.agg (bytes (blk (T.data.toList.drop (60 * i)))).toArray) ∧ Below u.heap.size u w') := zh fun u => by
     have h1 := zlh Y u (by rw [<- zai, hYl, List.length_drop, zai]; omega)
     rwa [hYl] at h1
    obtain ⟨C, hC⟩ : ∃ C, blk (T.data.toList.drop (60 * i)) = C := ⟨_, rfl⟩
    have hCl : C.length = 60 := by rw [<- hC, blk_length]
    have HNX : Hid (bytes (splitF (i + 1) T.data.toList).flatten = bytes (splitF i T.data.toList).flatten ++ [bytes C].flatten) := zh (by
     rw [zfr, List.flatten_append, hC, zaj]; simp)
    have HNL : Hid (([bytes C] : List (List Value)).flatten.length = 1 * 60) := zh (by simp [zaa, hCl])
    have HM1 : Hid (([bytes C] : List (List Value)).flatten.all (·.oneCell') = true) := zh (by simpa using zbr C)
    have HVS : Hid (∀ l ∈ ([bytes C] : List (List Value)), l.length = 60) := zh fun l hl => by
     rcases List.mem_cons.1 hl with rfl | hl
     .rw [zaa, hCl]
     .cases hl
    rw [hC] at HBL; obtain ⟨MC, hMC⟩ : ∃ M, bytes C = M := ⟨_, rfl⟩; rw [hMC] at HBL HNX HNL HM1 HVS
    have HVL : Hid (0 < ([MC] : List (List Value)).length) := zh (by show 0 < 1; omega)
    have HVM : Hid (([MC] : List (List Value)).length * 60 <= 2 ^ 24) := zh (by show 1 * 60 <= 2 ^ 24; omega)
    have hgt1 : ¬ (T.size : Int) < 60 * (i : Int) := by omega
    have hgt2 : decide ((T.size : Int) < 60 * (i : Int)) = false := decide_eq_false hgt1
    have h1 : 60 * (i : Int) <= (T.size : Int) := by omega
    have h2 : 60 * i <= T.size := by omega
    clear hown hrg hbd hlv hs0 hlt hgt hYl hC hMC
    go_wp2_with (first
     | (go_at_call 23; (with_reducible refine (HBL.out wr).mono ?_); rintro e v1 ⟨rfl, b1⟩; have D1 := zh (zge HBD.out b1 HB6.out); have O1 := zh (zbk HOWN.out b1); have G1 := zh (HRG.out.step b1); clear b1)
     | ((with_reducible refine wpBuildBK (w := v1) [MC] 60 31 40 Tryz.underlying31 HIB.out HP0.out HVS.out HVL.out HVM.out ?_ ?_); rfl; intro v2 r2 b2 s2; have L2 := zh (zbj r2); have D2 := zh (zge D1.out b2 HB6.out); have O2 := zh (zbk O1.out b2); have G2 := zh (G1.out.step b2); have Z2 : Hid (b6 <= v2.heap.size) := zh (Nat.le_trans HB6.out D2.out.size); clear r2 b2 s2)
     | ((with_reducible refine wpAppendM 1 O2.out Tryz.underlying31 zff L2.out HNL.out Nat.one_pos HP0.out HM1.out HBG Z2.out ?_ ?_); rfl; intro v7 v3 g1 g2 g8; have O3 := zh g1; have D3 : Hid (Below b6 w6 v3) := zh (D2.out.grown g2 Z2.out (fun q hq => (O2.out.lt q hq).1)); have G3 : Hid (Row v3 gG 37 [Value.int .i64 d, .int .i64 p, .int .i64 s]) := zh (HRG0.out v3 D3.out); clear g1 g2 g8))
    go_roundw
    case rel => exact ⟨i + 1, by omega, by go_num, by rw [HNX.out]; exact O3.out, G3.out, D3.out⟩
    case measure => simp [intOf]; omega
  .obtain rfl : i = m := by omega
   have HOWN : Hid (wr.ownsRow w.heap.size 40 60 (.slice av i cv) i (bytes (splitF i T.data.toList).flatten)) := zh (ztk hown HWB.out)
   have HBD := zh (HFIN.out wr hbd); clear hown hrg hbd hlv hlt hi; go_wp2; go_ret2; exact ⟨⟨_, rfl, HOWN.out⟩, HBD.out⟩
theorem zpm (a b c n : Int) (H : List UInt8) (d p s : Int) (im : ByteArray) (w : World) (hg : Glob w) (hH : H.length = 32) (hz : 5000 < im.size) :
  Calls Tryz.prog 3 #[geoV ⟨d, p, s⟩, .agg (hdv a b c n H).toArray, .string im] w fun e w' => e = .returned (.bool true) ∧ Below w.heap.size w w' := by
 have LV : Hid ((hdv a b c n H).length = 36) := zh (zam a b c n H hH)
 have HAW : Hid (∀ u, Glob u -> Calls Tryz.prog 6 #[] u fun e w' => e = .returned (.bool true) ∧ Below u.heap.size u w') := zh fun u hu => zfh u hu
 have HG := zh hg
 obtain ⟨V, hV⟩ : ∃ V, hdv a b c n H = V := ⟨_, rfl⟩
 rw [hV] at LV ⊢
 have h5 : (5000 : Int) < (im.size : Int) := by omega
 clear hV hH hg hz
 show Calls Tryz.prog 3 #[.agg [Value.int .i64 d, .int .i64 p, .int .i64 s].toArray, .agg V.toArray, .string im] w _
 go_enter Tryz.func3, Tryz.ntmps3
 go_wp2_with (first
  | ((with_reducible refine wpBoxK (w := w) [Value.int .i64 d, .int .i64 p, .int .i64 s] 23 ?_ ?_); rfl; intro u1 r1 b1 s1; have RG1 := zh r1; have B1 := zh b1; clear r1 b1 s1)
  | ((with_reducible refine wpBoxK (w := u1) V 29 ?_ ?_); rfl; intro u2 r2 b2 s2; have RH2 := zh r2; have RG2 := zh (RG1.out.step b2); have B2 := zh (B1.out.next b2); have G2 := zh (HG.out.step (B1.out.next b2)); clear r2 b2 s2)
  | (go_at_call 6; (with_reducible refine (HAW.out u2 G2.out).mono ?_); rintro e u3 ⟨rfl, b3⟩; have RH3 := zh (RH2.out.step b3); have RG3 := zh (RG2.out.step b3); have B3 := zh (B2.out.next b3); clear b3))
 go_ret
 exact ⟨rfl, B3.out⟩
theorem zen (a b c n : Int) (H : List UInt8) (d p s : Int) (im : ByteArray) (w : World) (hg : Glob w) (hH : H.length = 32) (hz : im.size <= 5000) (E : Int) (hE : E = 1 ∨ E = 12)
  (hT : ∀ u, Calls Tryz.prog 7 #[geoV ⟨d, p, s⟩, .agg (hdv a b c n H).toArray, .string im] u fun e w' => e = .returned (.tuple #[.slice none 0 0, .int .i64 E]) ∧ Below u.heap.size u w')
  (hB : ∀ u, Calls Tryz.prog 8 #[geoV ⟨d, p, s⟩, .agg (hdv a b c n H).toArray, .string im] u fun e w' => e = .returned (.tuple #[.slice none 0 0, .int .i64 E]) ∧ Below u.heap.size u w') :
  Calls Tryz.prog 3 #[geoV ⟨d, p, s⟩, .agg (hdv a b c n H).toArray, .string im] w fun e w' => e = .returned (.bool true) ∧ Below w.heap.size w w' := by
 have LV : Hid ((hdv a b c n H).length = 36) := zh (zam a b c n H hH)
 have HAW : Hid (∀ u, Glob u -> Calls Tryz.prog 6 #[] u fun e w' => e = .returned (.bool true) ∧ Below u.heap.size u w') := zh fun u hu => zfh u hu
 have HG := zh hg
 obtain ⟨V, hV⟩ : ∃ V, hdv a b c n H = V := ⟨_, rfl⟩
 have HTX : Hid (∀ u, Calls Tryz.prog 7 #[.agg [Value.int .i64 d, .int .i64 p, .int .i64 s].toArray, .agg (hdv a b c n H).toArray, .string im] u fun e w' => e = .returned (.tuple #[.slice none 0 0, .int .i64 E]) ∧ Below u.heap.size u w') := zh hT
 have HBX : Hid (∀ u, Calls Tryz.prog 8 #[.agg [Value.int .i64 d, .int .i64 p, .int .i64 s].toArray, .agg (hdv a b c n H).toArray, .string im] u fun e w' => e = .returned (.tuple #[.slice none 0 0, .int .i64 E]) ∧ Below u.heap.size u w') := zh hB
 rw [hV] at LV HTX HBX ⊢
 have h5 : (im.size : Int) <= 5000 := by omega
 have n1 : (E != E) = false := by simp
 have n2 : (E == E) = true := by simp
 clear hV hH hg hz hE hT hB
 show Calls Tryz.prog 3 #[.agg [Value.int .i64 d, .int .i64 p, .int .i64 s].toArray, .agg V.toArray, .string im] w _
 go_enter Tryz.func3, Tryz.ntmps3
 go_wp2_with (first
  | ((with_reducible refine wpBoxK (w := w) [Value.int .i64 d, .int .i64 p, .int .i64 s] 23 ?_ ?_); rfl; intro u1 r1 b1 s1; have RG1 := zh r1; have B1 := zh b1; clear r1 b1 s1)
  | ((with_reducible refine wpBoxK (w := u1) V 29 ?_ ?_); rfl; intro u2 r2 b2 s2; have RH2 := zh r2; have RG2 := zh (RG1.out.step b2); have B2 := zh (B1.out.next b2); have G2 := zh (HG.out.step (B1.out.next b2)); clear r2 b2 s2)
  | (go_at_call 6; (with_reducible refine (HAW.out u2 G2.out).mono ?_); rintro e u3 ⟨rfl, b3⟩; have RH3 := zh (RH2.out.step b3); have RG3 := zh (RG2.out.step b3); have B3 := zh (B2.out.next b3); clear b3)
  | ((with_reducible refine RG3.out.wpLoadK 23 fits_geo rfl ?_ ?_); rfl)
  | ((with_reducible refine RH3.out.wpLoadK 29 fits_head LV.out ?_ ?_); rfl)
  | (go_at_call 7; (with_reducible refine (HTX.out u3).mono ?_); rintro e u4 ⟨rfl, b4⟩; have RH4 := zh (RH3.out.step b4); have RG4 := zh (RG3.out.step b4); have B4 := zh (B3.out.next b4); clear b4)
  | ((with_reducible refine RG4.out.wpLoadK 23 fits_geo rfl ?_ ?_); rfl)
  | ((with_reducible refine RH4.out.wpLoadK 29 fits_head LV.out ?_ ?_); rfl)
  | (go_at_call 8; (with_reducible refine (HBX.out u4).mono ?_); rintro e u5 ⟨rfl, b5⟩; have B5 := zh (B4.out.next b5); clear b5))
 go_loopw [43] (fun x wr => x = .int .i64 0 ∧ wr = u5) (fun x _ => 0)
 case atStart => exact ⟨rfl, rfl⟩
 case round =>
  obtain ⟨rfl, rfl⟩ := hrel
  go_wp2
  go_ret
  exact ⟨rfl, B5.out⟩
theorem ztf (a b c n : Int) (H : List UInt8) (d p s : Int) (im : ByteArray) (w : World) (hg : Glob w) (hH : H.length = 32) (hz : im.size <= 5000) (m : Nat) (hm : m <= 64) (f : Fb)
  (hT : ∀ u, Calls Tryz.prog 7 #[geoV ⟨d, p, s⟩, .agg (hdv a b c n H).toArray, .string im] u fun e w' => (∃ a1, e = .returned (.tuple #[.slice a1 m m, .int .i64 0]) ∧ Lies w' w'.heap.size a1 (bytes (grid m f))) ∧ Below u.heap.size u w')
  (hB : ∀ u, Calls Tryz.prog 8 #[geoV ⟨d, p, s⟩, .agg (hdv a b c n H).toArray, .string im] u fun e w' => (∃ a2 c2, e = .returned (.tuple #[.slice a2 m c2, .int .i64 0]) ∧ Lies w' w'.heap.size a2 (bytes (grid m f))) ∧ Below u.heap.size u w') :
  Calls Tryz.prog 3 #[geoV ⟨d, p, s⟩, .agg (hdv a b c n H).toArray, .string im] w fun e w' => e = .returned (.bool true) ∧ Below w.heap.size w w' := by
 have LV : Hid ((hdv a b c n H).length = 36) := zh (zam a b c n H hH)
 have HAW : Hid (∀ u, Glob u -> Calls Tryz.prog 6 #[] u fun e w' => e = .returned (.bool true) ∧ Below u.heap.size u w') := zh fun u hu => zfh u hu
 have HG := zh hg
 obtain ⟨V, hV⟩ : ∃ V, hdv a b c n H = V := ⟨_, rfl⟩
 have HTX : Hid (∀ u, Calls Tryz.prog 7 #[.agg [Value.int .i64 d, .int .i64 p, .int .i64 s].toArray, .agg (hdv a b c n H).toArray, .string im] u fun e w' => (∃ a1, e = .returned (.tuple #[.slice a1 m m, .int .i64 0]) ∧ Lies w' w'.heap.size a1 (bytes (grid m f))) ∧ Below u.heap.size u w') := zh hT
 have HBX : Hid (∀ u, Calls Tryz.prog 8 #[.agg [Value.int .i64 d, .int .i64 p, .int .i64 s].toArray, .agg (hdv a b c n H).toArray, .string im] u fun e w' => (∃ a2 c2, e = .returned (.tuple #[.slice a2 m c2, .int .i64 0]) ∧ Lies w' w'.heap.size a2 (bytes (grid m f))) ∧ Below u.heap.size u w') := zh hB
 rw [hV] at LV HTX HBX ⊢
 have h5 : (im.size : Int) <= 5000 := by omega
 have hmi : (m : Int) <= 64 := by omega
 have n1 : ((m : Int) != (m : Int)) = false := by simp
 have n2 : ((m : Int) == (m : Int)) = true := by simp
 clear hV hH hg hz hT hB hm
 show Calls Tryz.prog 3 #[.agg [Value.int .i64 d, .int .i64 p, .int .i64 s].toArray, .agg V.toArray, .string im] w _
 go_enter Tryz.func3, Tryz.ntmps3
 go_wp2_with (first
  | ((with_reducible refine wpBoxK (w := w) [Value.int .i64 d, .int .i64 p, .int .i64 s] 23 ?_ ?_); rfl; intro u1 r1 b1 s1; have RG1 := zh r1; have B1 := zh b1; clear r1 b1 s1)
  | ((with_reducible refine wpBoxK (w := u1) V 29 ?_ ?_); rfl; intro u2 r2 b2 s2; have RH2 := zh r2; have RG2 := zh (RG1.out.step b2); have B2 := zh (B1.out.next b2); have G2 := zh (HG.out.step (B1.out.next b2)); clear r2 b2 s2)
  | (go_at_call 6; (with_reducible refine (HAW.out u2 G2.out).mono ?_); rintro e u3 ⟨rfl, b3⟩; have RH3 := zh (RH2.out.step b3); have RG3 := zh (RG2.out.step b3); have B3 := zh (B2.out.next b3); clear b3)
  | ((with_reducible refine RG3.out.wpLoadK 23 fits_geo rfl ?_ ?_); rfl)
  | ((with_reducible refine RH3.out.wpLoadK 29 fits_head LV.out ?_ ?_); rfl)
  | (go_at_call 7; (with_reducible refine (HTX.out u3).mono ?_); rintro e u4 ⟨⟨a1, rfl, l4⟩, b4⟩; have L4 := zh l4; clear l4; have RH4 := zh (RH3.out.step b4); have RG4 := zh (RG3.out.step b4); have B4 := zh (B3.out.next b4); clear b4)
  | ((with_reducible refine RG4.out.wpLoadK 23 fits_geo rfl ?_ ?_); rfl)
  | ((with_reducible refine RH4.out.wpLoadK 29 fits_head LV.out ?_ ?_); rfl)
  | (go_at_call 8; (with_reducible refine (HBX.out u4).mono ?_); rintro e u5 ⟨⟨a2, c2, rfl, l5⟩, b5⟩; have L25 := zh l5; have L15 := zh (L4.out.step b5); clear l5; have B5 := zh (B4.out.next b5); clear b5))
 go_loopw [43] (fun x wr => ∃ i : Nat, i <= m ∧ x = .int .i64 i ∧ Lies wr wr.heap.size a1 (bytes (grid m f)) ∧ Lies wr wr.heap.size a2 (bytes (grid m f)) ∧ Below w.heap.size w wr) (fun x _ => m - (intOf x).toNat)
 case atStart => exact ⟨0, Nat.zero_le _, rfl, L15.out, L25.out, B5.out⟩
 case round =>
  clear L15 L25 L4 B5
  obtain ⟨i, hi, rfl, hl1, hl2, hbw⟩ := hrel
  have L1 := zh hl1
  have L2 := zh hl2
  have BW := zh hbw
  by_cases hlt : i < m
  .have hii : (i : Int) < (m : Int) := by omega
   obtain ⟨x1, z1, rfl, hb1, hc1⟩ := hl1 (by rw [zaa, zan]; omega)
   obtain ⟨x2, z2, rfl, hb2, hc2⟩ := hl2 (by rw [zaa, zan]; omega)
   obtain ⟨y1, hy1⟩ : ∃ y, z1 + i * 60 = y := ⟨_, rfl⟩; obtain ⟨y2, hy2⟩ : ∃ y, z2 + i * 60 = y := ⟨_, rfl⟩
   have HR1 : Hid (∀ wx, Below wr.heap.size wr wx -> wx.rangeAt x1 y1 (bytes (bkF f i))) := zh fun wx hb => by
    rw [<- hy1]; exact zdz (fun j u hj => (hb.cell (p := ⟨x1, z1 + j, none⟩) hb1).trans (hc1 j u hj)) i hlt
   have HR2 : Hid (∀ wx, Below wr.heap.size wr wx -> wx.rangeAt x2 y2 (bytes (bkF f i))) := zh fun wx hb => by
    rw [<- hy2]; exact zdz (fun j u hj => (hb.cell (p := ⟨x2, z2 + j, none⟩) hb2).trans (hc2 j u hj)) i hlt
   have LB : Hid ((bytes (bkF f i)).length = 60) := zh (by rw [zaa, zay])
   have HEQ : Hid (∀ u : World, (Op.equalIn 10000 40 (.agg (bytes (bkF f i)).toArray) (.agg (bytes (bkF f i)).toArray)).run Tryz.prog u = .ok true u) := zh fun u => by
    rw [zuc _ _ (zay _ _) (zay _ _)]; simp
   have HY1 := zh hy1; have HY2 := zh hy2; obtain ⟨B, hB⟩ : ∃ B, bytes (bkF f i) = B := ⟨_, rfl⟩; rw [hB] at HR1 HR2 LB HEQ; clear hl1 hl2 hbw hc1 hc2 hb1 hb2 hy1 hy2 hB hlt; go_wp2
   refine zak [(0, 46), (1, 47), (2, 48), (3, 49), (4, 50), (5, 51), (6, 52), (7, 53), (8, 54)]
    (fun ii => [Is (.slice (some ⟨x1, z1, none⟩) m m), Is (.int .i64 (i : Int)), Is (.pointer (some ⟨x1, y1, none⟩)), Is (.agg B.toArray), Is (.slice (some ⟨x2, z2, none⟩) m c2), Is (.int .i64 (i : Int)), Is (.pointer (some ⟨x2, y2, none⟩)), Is (.agg B.toArray), Is (.bool false)].getD ii (Is undef))
    (fun w' => Below wr.heap.size wr w') (by kernel_rfl) (by kernel_rfl) (by decide) (by decide) (by kernel_rfl) rfl ?monoq ((zb).drew) ?stepq ?finq
   case monoq =>
    intro i
    match i with
    | 0 | 1 | 2 | 3 | 4 | 5 | 6 | 7 | 8 => exact Is.monot _
    | _ + 9 => exact Is.monot _
   case stepq =>
    refine zf ⟨?qs0, zf ⟨?qs1, zf ⟨?qs2, zf ⟨?qs3, zf ⟨?qs4, zf ⟨?qs5, zf ⟨?qs6, zf ⟨?qs7, zf ⟨?qs8, List.forall_mem_nil _⟩⟩⟩⟩⟩⟩⟩⟩⟩
    case qs0 | qs1 | qs4 | qs5 =>
     intro u wx hg hC; clear hC; refine wpOp_step rfl fun K hK => ?_
     simp only [puts, List.foldl]; go_simp; exact zK hK hg
    case qs2 =>
     intro u wx hg hC; have hJ0 := zj hC 0; have hJ1 := zj hC 1; clear hC
     have hy1 : z1 + i * 60 = y1 := HY1.out
     refine wpOp_step rfl fun K hK => ?_
     simp only [puts, List.foldl]; go_simp; exact zK hK hg
    case qs3 =>
     intro u wx hg hC; have hJ2 := zj hC 2; clear hC; generalize hA : puts [(0, 46), (1, 47), (2, 48), (3, 49), (4, 50), (5, 51), (6, 52), (7, 53), (8, 54)] _ u = AA
     have hp : AA.tmps.getD 48 undef = .pointer (some ⟨x1, y1, none⟩) := by rw [<- hA]; exact (zat u 2 48 _ _ (by decide) (by decide) (by kernel_rfl)).trans hJ2
     have hsz : 49 < AA.tmps.size := by rw [<- hA]; exact zaq u (by kernel_rfl)
     refine wpOp_step rfl fun K hK => ?_
     clear hA; exact opLoadRK (φ := Is (.agg B.toArray)) (HR1.out wx hg) _ fits_block LB.out 49 rfl hsz hK (.tmp 48) rfl hp rfl hg
    case qs6 =>
     intro u wx hg hC; have hJ4 := zj hC 4; have hJ5 := zj hC 5; clear hC
     have hy2 : z2 + i * 60 = y2 := HY2.out
     refine wpOp_step rfl fun K hK => ?_
     simp only [puts, List.foldl]; go_simp; exact zK hK hg
    case qs7 =>
     intro u wx hg hC; have hJ6 := zj hC 6; clear hC; generalize hA : puts [(0, 46), (1, 47), (2, 48), (3, 49), (4, 50), (5, 51), (6, 52), (7, 53), (8, 54)] _ u = AA
     have hp : AA.tmps.getD 52 undef = .pointer (some ⟨x2, y2, none⟩) := by rw [<- hA]; exact (zat u 6 52 _ _ (by decide) (by decide) (by kernel_rfl)).trans hJ6
     have hsz : 53 < AA.tmps.size := by rw [<- hA]; exact zaq u (by kernel_rfl)
     refine wpOp_step rfl fun K hK => ?_
     clear hA; exact opLoadRK (φ := Is (.agg B.toArray)) (HR2.out wx hg) _ fits_block LB.out 53 rfl hsz hK (.tmp 52) rfl hp rfl hg
    case qs8 =>
     intro u wx hg hC; have hJ3 := zj hC 3; have hJ7 := zj hC 7; clear hC; have heq := HEQ.out; refine wpOp_step rfl fun K hK => ?_
     simp only [puts, List.foldl]; go_simp; exact zK hK hg
   case finq =>
    intro u w7 hb7 hφ
    have e54 : u 8 = .bool false := hφ (8, 54) (by decide)
    clear hφ; simp only [puts, List.foldl]; rw [e54]; go_simp; have L17 := zh (L1.out.step hb7); have L27 := zh (L2.out.step hb7); have B7 := zh (BW.out.next hb7); clear hb7 e54; go_wp2
    go_roundw
    case rel => exact ⟨i + 1, by omega, by go_num, L17.out, L27.out, B7.out⟩
    case measure => simp [intOf]; omega
  .obtain rfl : i = m := by omega
   clear hl1 hl2 hbw hlt hi; go_wp2; go_ret; exact ⟨rfl, BW.out⟩
theorem areaTexts_walk (a b c n : Int) (H : List UInt8) (d p s : Int) (im : ByteArray) (w : World) (hg : Glob w) (hH : H.length = 32) (hz : im.size <= 140737488355328) :
  Calls Tryz.prog 3 #[geoV ⟨d, p, s⟩, .agg (hdv a b c n H).toArray, .string im] w fun e w' => e = .returned (.bool true) ∧ Below w.heap.size w w' := by
 by_cases h5 : 5000 < im.size
 .exact zpm a b c n H d p s im w hg hH h5
 have h5' : im.size <= 5000 := by omega
 cases hrt : right ⟨d, p, s⟩ with
 | false => exact zen a b c n H d p s im w hg hH h5' 1 (.inl rfl) (fun u => zpr a b c n H d p s im u hH hrt) (fun u => zvw a b c n H d p s im u hH hrt)
 | true =>
  cases hok : hOk a b c n with
  | false => exact zen a b c n H d p s im w hg hH h5' 1 (.inl rfl) (fun u => zps a b c n H d p s im u hH hrt hok) (fun u => zvx a b c n H d p s im u hH hrt hok)
  | true =>
   by_cases hn : n = (im.size : Int)
   .by_cases hl : room ⟨d, p, s⟩ < n
    .exact zen a b c n H d p s im w hg hH h5' 12 (.inr rfl) (fun u => zpu a b c n H d p s im u hH hrt hok hn hl) (fun u => zvz a b c n H d p s im u hH hrt hok hn hl)
    .have hr := (zbl _).1 hrt
     have q1 := hr.d1; have q2 := hr.d8; have q3 := hr.s1; have q4 := hr.s8
     simp only at q1 q2 q3 q4
     obtain ⟨k, rfl⟩ : ∃ k : Nat, d = k := ⟨d.toNat, by omega⟩
     obtain ⟨t, rfl⟩ : ∃ t : Nat, s = t := ⟨s.toNat, by omega⟩
     have hm : k * t <= 64 := by
      have h1 : k * t <= 8 * t := Nat.mul_le_mul_right _ (by omega)
      omega
     have hd : (k : Int) * (t : Int) = ((k * t : Nat) : Int) := by push_cast; rfl
     refine ztf a b c n H k p t im w hg hH h5' (k * t) hm (blF (k * t) (headB a b c n H ++ im.data.toList)) (fun u => ?_) (fun u => ?_)
     .have h1 := zkj a b c n H k p t im u hH hrt hok hn (by omega) ((k * t : Nat) : Int) hd (by omega) (by omega) (by omega)
      have hmf : manyF ((k * t : Nat) : Int) = k * t := by unfold manyF; omega
      rw [hmf, zit] at h1; exact h1.mono fun e w' ⟨⟨g, q1, q2, q3⟩, q4⟩ => ⟨⟨_, q1, zbj q3⟩, q4⟩
     .have h1 := zbbt a b c n H k p t im u hH hrt hok hn (by omega) (k * t) hd hm (by omega)
      rw [zit] at h1
      refine h1.mono ?_
      rintro e w' ⟨⟨v, rfl, q2⟩, q4⟩
      obtain ⟨a2, c2, rfl, q3⟩ := zfw q2; exact ⟨⟨a2, c2, rfl, q3⟩, q4⟩
   .exact zen a b c n H d p s im w hg hH h5' 1 (.inl rfl) (fun u => zpt a b c n H d p s im u hH hrt hok hn) (fun u => zvy a b c n H d p s im u hH hrt hok hn)
end
section
open Go.RowKit HeadMath NumMath
end
section
open Go.RowKit HeadMath
theorem zbge {w : World} {cs : List Value} {x : List Int} (h : Open.Reads w (.arr 3 (.int .i64)) cs x) : ∃ a b c : Int, cs = [.int .i64 a, .int .i64 b, .int .i64 c] := by
 obtain ⟨h1, h2, h3⟩ := h
 have hl : cs.length = 3 := by simpa [Open.Ty.size] using h2
 match cs, hl with
 | [a, b, c], _ =>
  have e1 := (h3 0 (by omega)).1
  have e2 := (h3 1 (by omega)).1
  have e3 := (h3 2 (by omega)).1
  simp [Open.Ty.size] at e1 e2 e3
  exact ⟨_, _, _, by rw [e1, e2, e3]⟩
theorem reads_head {w : World} {cs : List Value} {x : (Open.Ty.pair (.arr 3 (.int .i64)) (.pair (.int .i64) (.pair (.arr 32 (.int .u8)) .unit))).den} (h : Open.Reads w (.pair (.arr 3 (.int .i64)) (.pair (.int .i64) (.pair (.arr 32 (.int .u8)) .unit))) cs x) : ∃ (a b c n : Int) (H : List UInt8), H.length = 32 ∧ cs = hdv a b c n H := by
 obtain ⟨h1, ⟨h2, g2⟩, h3, h4⟩ := h
 obtain ⟨a, b, c, e1⟩ := zbge h1
 obtain ⟨H, hH, e3⟩ := zyh h3
 have e1' : cs.take 3 = [.int .i64 a, .int .i64 b, .int .i64 c] := e1
 have h2' : (cs.drop 3).take 1 = [.int .i64 x.2.1] := h2
 have e3' : ((cs.drop 3).drop 1).take 32 = bytes H := e3
 have h4' : ((cs.drop 3).drop 1).drop 32 = [] := h4
 refine ⟨a, b, c, x.2.1, H, hH, ?_⟩
 have h5 : cs = cs.take 3 ++ ((cs.drop 3).take 1 ++ (((cs.drop 3).drop 1).take 32 ++ ((cs.drop 3).drop 1).drop 32)) := by
  rw [List.take_append_drop, List.take_append_drop, List.take_append_drop]
 rw [e1', h2', e3', h4', List.append_nil] at h5
 rw [h5]
 rfl
end
section
open Go.RowKit
def TG : Open.Ty := .pair (.int .i64) (.pair (.int .i64) (.pair (.int .i64) .unit))
theorem reads_geo {w : World} {cs : List Value} {x : TG.den} (h : Open.Reads w TG cs x) : ∃ d p s : Int, cs = [.int .i64 d, .int .i64 p, .int .i64 s] := by
 have hl : cs.length = 3 := h.length
 match cs, hl with
 | [a, b, c], _ =>
  obtain ⟨⟨h1, g1⟩, ⟨h2, g2⟩, ⟨h3, g3⟩, _⟩ := h
  have e1 : a = .int .i64 x.1 := by simpa [Open.Ty.size] using h1
  have e2 : b = .int .i64 x.2.1 := by simpa [Open.Ty.size] using h2
  have e3 : c = .int .i64 x.2.2.1 := by simpa [Open.Ty.size] using h3
  exact ⟨_, _, _, by rw [e1, e2, e3]⟩
end
end Go.Proofs.YtojimgbcghiblaaGreatDoor