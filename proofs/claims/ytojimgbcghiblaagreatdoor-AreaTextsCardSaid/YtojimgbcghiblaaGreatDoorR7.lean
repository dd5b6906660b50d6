import Derived.Great.BuildSlice
import Derived.Deep.QuietTactic
import Derived.Laws.BitsAllLaws
import Derived.StillTailTactics
import Derived.IntWalk
import Derived.Lib.Strings
import Derived.WalkSpells
import Derived.Test.YtojimgbcghiblaaGreatDoorR6
set_option linter.unusedVariables false
set_option maxRecDepth 100000
set_option maxHeartbeats 8000000
namespace Go.Proofs.YtojimgbcghiblaaGreatDoor
section
open Go.RowKit CrcMath GfMath PolyMath RsMath SolMath GeoMath
section
variable {P : Program}
theorem opBoxK {o : Oper} {A : Act} {wx : World} {K : Act -> World -> Prop} {Q : Exit -> Act -> World -> Prop} {φ : Value -> World -> Prop} {G : World -> Prop} (l : List Value) (ty : TypeId) (d : Nat) (hd : o.dst = some d) (hs : d < A.tmps.size)
  (hK : ∀ a' w', (a'.defers = A.defers ∧ φ (a'.tmps.getD d undef) w' ∧ G w' ∧ Below wx.heap.size wx w') -> K a' w') (x : Operand) (hop : o.op = .box ty x) (hx : A.eval x = .agg l.toArray)
  (hφ : ∀ w', Row w' wx.heap.size ty l -> Below wx.heap.size wx w' -> φ (.pointer (some ⟨wx.heap.size, 0, none⟩)) w' ∧ G w') : o.wp P A wx K Q := by
 unfold Oper.wp execOp
 simp only [hop, hx, Instr.box, newVar, Value.cells]
 simp [go_sem]
 have hb : Below wx.heap.size wx (wx.alloc (.cells l.toArray ty)) := (zb).alloc (Nat.le_refl _) _
 have := hφ _ (Row.new wx ty l) hb
 refine hK _ _ ⟨zfg _ _ _, ?_, this.2, hb⟩
 rw [hd]
 show φ ((A.put (some d) (.pointer (some ⟨wx.heap.size, 0, none⟩))).tmps.getD d undef) _
 rw [zgs A d _ hs]
 exact this.1
theorem wpMake1 {ops : Array Oper} {rest : List Oper} {o : Oper} {a : Act} {w : World} {Q : Exit -> Act -> World -> Prop} (T e : TypeId) (zv : Value) (n : Nat) (hT : P.underlying T = some (.slice e)) (hz : (P.info? e).map (fun i => (i.zero, i.size)) = some (some zv, 1)) (hzc : zv.cells = #[zv]) (hb : ((P.info? e).map fun i => decide (i.bytes <= 4096)) = some true)
  (hn : n <= 1000000) (ho : makeOf o a = some (T, .int .i64 (n : Int), .int .i64 (n : Int)))
  (k : ∀ w', Row w' w.heap.size e (List.replicate n zv) -> Below w.heap.size w w' -> w'.heap.size = w.heap.size + 1 -> wpList P ops Q rest (a.put o.dst (.slice (some ⟨w.heap.size, 0, none⟩) n n)) w') : wpList P ops Q (o :: rest) a w := by
 obtain ⟨hg, x, y, hop, hx, hy⟩ := zfo ho
 cases hq : P.info? e with
 | none => rw [hq] at hz; cases hz
 | some i =>
  rw [hq] at hz hb
  simp only [Option.map_some, Option.some.injEq, Prod.mk.injEq] at hz
  simp only [Option.map_some, Option.some.injEq, decide_eq_true_eq] at hb
  have hbb : (i.bytes : Int) * (n : Int) <= 281474976710656 := by
   have h1 : i.bytes * n <= 4096 * 1000000 := Nat.mul_le_mul hb hn
   have h2 : ((i.bytes * n : Nat) : Int) <= 281474976710656 := by omega
   rwa [Int.natCast_mul] at h2
  have hr := run_make (P := P) w T e i _ hT hq hz.1 .i64 .i64 (n : Int) (n : Int) (by omega) (by omega) hbb (by omega)
  rw [Int.toNat_natCast, hz.2, Nat.mul_one, hzc] at hr
  have hm : madeCells #[zv] n = (List.replicate n zv).toArray := by
   apply Array.ext'
   rw [toList_madeCells_one]
  rw [hm] at hr
  refine wpList_plain hg fun K hK => ?_
  unfold Oper.wp execOp
  simp only [hop, hx, hy, Sem.run_bind, hr, Result.andThen_ok]
  exact hK _ _ (k _ (Row.new w e _) ((zb).alloc (Nat.le_refl _) _) (by simp))
end
theorem zut : (Tryz.prog.info? 9).map (fun i => (i.zero, i.size)) = some (some (.string ByteArray.empty), 1) := by kernel_rfl
theorem zro : ((Tryz.prog.info? 9).map fun i => decide (i.bytes <= 4096)) = some true := by kernel_rfl
def FldP : Value -> World -> Prop := fun v w => ∃ b, v = .pointer (some ⟨b, 0, none⟩) ∧ Fld w b
theorem FldP.monot : Monot FldP := fun _ _ _ ⟨b, h1, h2⟩ hb => ⟨b, h1, h2.step hb⟩
def CodP (k p : Nat) : Value -> World -> Prop := fun v w => ∃ cc b, v = .tuple #[.pointer (some ⟨cc, 0, none⟩), .int .i64 0] ∧ Cod w cc b k p
theorem CodP.monot (k p : Nat) : Monot (CodP k p) := fun _ _ _ ⟨cc, b, h1, h2⟩ hb => ⟨cc, b, h1, h2.step hb⟩
def CodQ (k p : Nat) : Value -> World -> Prop := fun v w => ∃ cc b, v = .pointer (some ⟨cc, 0, none⟩) ∧ Cod w cc b k p
theorem CodQ.monot (k p : Nat) : Monot (CodQ k p) := fun _ _ _ ⟨cc, b, h1, h2⟩ hb => ⟨cc, b, h1, h2.step hb⟩
def BldP (cc k p s : Nat) : Value -> World -> Prop := fun v w => ∃ sb, v = .agg (cdrL cc k p s sb).toArray ∧ Smr (.pointer (some ⟨sb, 0, none⟩)) w
theorem BldP.monot (cc k p s : Nat) : Monot (BldP cc k p s) := fun _ _ _ ⟨sb, h1, h2⟩ hb => ⟨sb, h1, Smr.monot _ _ _ h2 hb⟩
def NbC (B : World) (cc k p s : Nat) : Value -> World -> Prop := fun v w => ∃ g sb, v = .pointer (some ⟨g, 0, none⟩) ∧ B.heap.size <= g ∧ Row w g 128 (cdrL cc k p s sb) ∧ Smr (.pointer (some ⟨sb, 0, none⟩)) w
theorem NbC.monot (B : World) (cc k p s : Nat) : Monot (NbC B cc k p s) := fun _ _ _ ⟨g, sb, h1, h2, h3, h4⟩ hb => ⟨g, sb, h1, h2, h3.step hb, Smr.monot _ _ _ h4 hb⟩
theorem zht {k p s : Nat} (hk : 1 <= k) (hk8 : k <= 8) (hp : 2 <= p) (hp6 : p <= 6) (hs : 1 <= s) (hs8 : s <= 8) : right (gmN k p s) = true := by
 refine (zbl _).2 ⟨?_, ?_, ?_, ?_, ?_, ?_⟩ <;> simp only [gmN] <;> omega
theorem zyo (k p s : Nat) (w : World) (hk : 1 <= k) (hk8 : k <= 8) (hp : 2 <= p) (hp6 : p <= 6) (hs : 1 <= s) (hs8 : s <= 8) :
  Calls Tryz.prog 33 #[geoV (gmN k p s)] w fun e w' => (∃ c cc b sb, e = .returned (.tuple #[.pointer (some ⟨c, 0, none⟩), .int .i64 0]) ∧ Cdr w' c cc b sb k p s) ∧ Below w.heap.size w w' := by
 have hr := zht hk hk8 hp hp6 hs hs8
 have HX := zh fun w1 => zcm (gmN k p s) w1
 rw [hr] at HX
 have hwd := zey hr
 obtain ⟨n, hn⟩ : ∃ n, k + p = n := ⟨_, rfl⟩
 have hwn : wide (gmN k p s) = (n : Int) := by rw [hwd]; simp only [gmN]; omega
 have HWI : Hid (∀ wx, Calls Tryz.prog 17 #[.agg #[.int .i64 (k : Int), .int .i64 (p : Int), .int .i64 (s : Int)]] wx fun e w' => e = .returned (.int .i64 (n : Int)) ∧ Below wx.heap.size wx w') := zh fun wx => by
  have := zjr (gmN k p s) wx
  rw [hwn] at this
  exact this
 have HGF : Hid (∀ wx, Calls Tryz.prog 63 #[] wx fun e w' => (∃ v, e = .returned v ∧ FldP v w') ∧ Below wx.heap.size wx w') := zh fun wx => (zber wx).mono fun e w' ⟨h1, h2, h3⟩ => ⟨⟨_, h1, _, rfl, h2⟩, h3⟩
 have HRS : Hid (∀ wx v, FldP v wx -> Calls Tryz.prog 62 #[v, .int .i64 (n : Int), .int .i64 (k : Int)] wx fun e w' => (∃ v, e = .returned v ∧ CodP k p v w') ∧ Below wx.heap.size wx w') := zh fun wx v ⟨b, e1, e2⟩ => by
  subst e1
  rw [<- hn]
  exact (zbgl b k p wx e2 hk (by omega) (by omega) (by omega)).mono fun e w' ⟨⟨c, h1, h2⟩, h3⟩ => ⟨⟨_, h1, c, b, rfl, h2⟩, h3⟩
 have HCR := zh zbnd
 have HK : Hid (1 <= k ∧ k <= 8 ∧ 2 <= p ∧ p <= 6) := zh ⟨hk, hk8, hp, hp6⟩
 have HV : Hid (geoV (gmN k p s) = .agg [Value.int .i64 (k : Int), .int .i64 (p : Int), .int .i64 (s : Int)].toArray) := zh rfl
 rw [HV.out] at HX ⊢
 clear hr hwd hwn hn hk hk8 hp hp6 hs hs8 HV
 go_enter Tryz.func33, Tryz.ntmps33
 go_wp2_with (first
  | ((with_reducible refine wpBoxK [Value.int .i64 (k : Int), .int .i64 (p : Int), .int .i64 (s : Int)] 23 ?_ ?_); rfl; intro w1 r1 b1 s1; have R1 := zh r1; have B1 := zh b1; clear r1 b1 s1)
  | ((with_reducible refine R1.out.wpLoadK 23 fits_geo rfl ?_ ?_); rfl)
  | (go_at_call 26; (with_reducible refine (HX.out w1).mono ?_); rintro e w2 ⟨rfl, b2⟩; have R2 := zh (R1.out.step b2); have B2 := zh (B1.out.next b2); clear b2))
 obtain ⟨g1, hg1⟩ : ∃ g, w.heap.size = g := ⟨_, rfl⟩
 rw [hg1] at R2 ⊢
 clear hg1
 have C0 : Hid (w2.cell? ⟨g1, 0, none⟩ = some (.int .i64 (k : Int))) := zh (R2.out.cell 0)
 have C1 : Hid (w2.cell? ⟨g1, 1, none⟩ = some (.int .i64 (p : Int))) := zh (R2.out.cell 1)
 have C2 : Hid (w2.cell? ⟨g1, 2, none⟩ = some (.int .i64 (s : Int))) := zh (R2.out.cell 2)
 have G2 := zh R2.out.lt
 clear R1 B1
 refine zak [(0, 10), (1, 11), (2, 12), (3, 13), (4, 14), (5, 15), (6, 9), (7, 16), (8, 17), (9, 4), (10, 5)]
  (fun ii => [FldP, Is (.agg #[(.int .i64 (k : Int)), (.int .i64 (p : Int)), (.int .i64 (s : Int))]), Is (.int .i64 (n : Int)), Is (.pointer (some ⟨g1, 0, none⟩)), Is (.int .i64 (k : Int)), CodP k p, CodP k p, CodQ k p, Is (.int .i64 0), CodQ k p, Is (.int .i64 0)].getD ii (Is undef))
  (fun w' => Below w2.heap.size w2 w') (by kernel_rfl) (by kernel_rfl) (by decide) (by decide) (by kernel_rfl) rfl ?monoa ((zb).drew) ?stepa ?fina
 case monoa =>
  intro i
  match i with
  | 0 => exact FldP.monot
  | 1 | 2 | 3 | 4 | 8 | 10 => exact Is.monot _
  | 5 | 6 => exact CodP.monot _ _
  | 7 | 9 => exact CodQ.monot _ _
  | _ + 11 => exact Is.monot _
 case stepa =>
  refine zf ⟨?as0, zf ⟨?as1, zf ⟨?as2, zf ⟨?as3, zf ⟨?as4, zf ⟨?as5, zf ⟨?as6, zf ⟨?as7, zf ⟨?as8, zf ⟨?as9, zf ⟨?as10, List.forall_mem_nil _⟩⟩⟩⟩⟩⟩⟩⟩⟩⟩⟩
  case as0 =>
   intro u wx hg hC; clear hC; refine wpOp_step rfl fun K hK => ?_
   simp only [puts, List.foldl]; go_simp
   refine (HGF.out wx).mono ?_
   rintro e w' ⟨⟨v, rfl, hv⟩, hb'⟩
   exact hK _ _ ⟨rfl, hv, hg.next hb', hb'⟩
  case as1 =>
   intro u wx hg hC; clear hC
   have hcl0 : wx.cell? ⟨g1, 0, none⟩ = some (.int .i64 (k : Int)) := (hg.cell (p := ⟨g1, 0, none⟩) G2.out).trans C0.out
   have hcl1 : wx.cell? ⟨g1, 1, none⟩ = some (.int .i64 (p : Int)) := (hg.cell (p := ⟨g1, 1, none⟩) G2.out).trans C1.out
   have hcl2 : wx.cell? ⟨g1, 2, none⟩ = some (.int .i64 (s : Int)) := (hg.cell (p := ⟨g1, 2, none⟩) G2.out).trans C2.out
   refine wpOp_step rfl fun K hK => ?_
   simp only [puts, List.foldl]; go_simp; exact zK hK hg
  case as2 =>
   intro u wx hg hC; have hJ1 := zj hC 1; clear hC; refine wpOp_step rfl fun K hK => ?_
   simp only [puts, List.foldl]; go_simp
   refine (HWI.out wx).mono ?_
   rintro e w' ⟨rfl, hb'⟩
   exact hK _ _ ⟨rfl, rfl, hg.next hb', hb'⟩
  case as3 =>
   intro u wx hg hC; clear hC; refine wpOp_step rfl fun K hK => ?_
   simp only [puts, List.foldl]; go_simp; exact zK hK hg
  case as4 =>
   intro u wx hg hC; have hJ3 := zj hC 3; clear hC
   have hcl : wx.cell? ⟨g1, 0, none⟩ = some (.int .i64 (k : Int)) := (hg.cell (p := ⟨g1, 0, none⟩) G2.out).trans C0.out
   refine wpOp_step rfl fun K hK => ?_
   simp only [puts, List.foldl]; go_simp; exact zK hK hg
  case as5 =>
   intro u wx hg hC
   have hJ0 : (FldP) (u 0) wx := hC.at 0 (by kernel_rfl)
   have hJ2 := zj hC 2; have hJ4 := zj hC 4; clear hC; refine wpOp_step rfl fun K hK => ?_
   simp only [puts, List.foldl]; go_simp
   refine (HRS.out wx _ hJ0).mono ?_
   rintro e w' ⟨⟨v, rfl, hv⟩, hb'⟩
   exact hK _ _ ⟨rfl, hv, hg.next hb', hb'⟩
  case as6 =>
   intro u wx hg hC
   have hJ5 : (CodP k p) (u 5) wx := hC.at 5 (by kernel_rfl)
   clear hC; refine wpOp_step rfl fun K hK => ?_
   simp only [puts, List.foldl]; go_simp; exact hK _ _ ⟨rfl, hJ5, hg, zb⟩
  case as7 =>
   intro u wx hg hC
   have hJ6 : (CodP k p) (u 6) wx := hC.at 6 (by kernel_rfl)
   clear hC; obtain ⟨cc, b, e9, q9⟩ := hJ6; refine wpOp_step rfl fun K hK => ?_
   simp only [puts, List.foldl]; go_simp; exact hK _ _ ⟨rfl, ⟨cc, b, rfl, q9⟩, hg, zb⟩
  case as8 =>
   intro u wx hg hC
   have hJ6 : (CodP k p) (u 6) wx := hC.at 6 (by kernel_rfl)
   clear hC; obtain ⟨cc, b, e9, q9⟩ := hJ6; refine wpOp_step rfl fun K hK => ?_
   simp only [puts, List.foldl]; go_simp; exact zK hK hg
  case as9 =>
   intro u wx hg hC
   have hJ7 : (CodQ k p) (u 7) wx := hC.at 7 (by kernel_rfl)
   clear hC; refine wpOp_step rfl fun K hK => ?_
   simp only [puts, List.foldl]; go_simp; exact hK _ _ ⟨rfl, hJ7, hg, zb⟩
  case as10 =>
   intro u wx hg hC; have hJ8 := zj hC 8; clear hC; refine wpOp_step rfl fun K hK => ?_
   simp only [puts, List.foldl]; go_simp; exact zK hK hg
 case fina =>
  intro u w5 hb5 hφ
  obtain ⟨cc, b, e4, q4⟩ : CodQ k p (u 9) w5 := hφ (9, 4) (by decide)
  have e5 : u 10 = .int .i64 0 := hφ (10, 5) (by decide)
  clear hφ
  simp only [puts, List.foldl]
  rw [e4, e5]
  go_simp
  have HCD5 := zh q4
  have B5 := zh (B2.out.next hb5)
  have G5 : Hid (g1 < w5.heap.size) := zh (Nat.lt_of_lt_of_le G2.out hb5.size)
  have D0 : Hid (w5.cell? ⟨g1, 0, none⟩ = some (.int .i64 (k : Int))) := zh ((hb5.cell (p := ⟨g1, 0, none⟩) G2.out).trans C0.out)
  have D1 : Hid (w5.cell? ⟨g1, 1, none⟩ = some (.int .i64 (p : Int))) := zh ((hb5.cell (p := ⟨g1, 1, none⟩) G2.out).trans C1.out)
  have D2 : Hid (w5.cell? ⟨g1, 2, none⟩ = some (.int .i64 (s : Int))) := zh ((hb5.cell (p := ⟨g1, 2, none⟩) G2.out).trans C2.out)
  clear hb5 e4 e5 q4
  go_wp2
  refine zak [(0, 18), (1, 19), (2, 20), (3, 21), (4, 22), (5, 2), (6, 3)]
   (fun ii => [Is (.pointer (some ⟨cc, 0, none⟩)), Is (.agg #[(.int .i64 (k : Int)), (.int .i64 (p : Int)), (.int .i64 (s : Int))]), Smr, BldP cc k p s, NbC w5 cc k p s, NbC w5 cc k p s, Is (.int .i64 0)].getD ii (Is undef))
   (fun w' => Below w5.heap.size w5 w') (by kernel_rfl) (by kernel_rfl) (by decide) (by decide) (by kernel_rfl) rfl ?monob ((zb).drew) ?stepb ?finb
  case monob =>
   intro i
   match i with
   | 0 | 1 | 6 => exact Is.monot _
   | 2 => exact Smr.monot
   | 3 => exact BldP.monot _ _ _ _
   | 4 | 5 => exact NbC.monot _ _ _ _ _
   | _ + 7 => exact Is.monot _
  case stepb =>
   refine zf ⟨?bs0, zf ⟨?bs1, zf ⟨?bs2, zf ⟨?bs3, zf ⟨?bs4, zf ⟨?bs5, zf ⟨?bs6, List.forall_mem_nil _⟩⟩⟩⟩⟩⟩⟩
   case bs0 | bs6 =>
    intro u wx hg hC; clear hC; refine wpOp_step rfl fun K hK => ?_
    simp only [puts, List.foldl]; go_simp; exact zK hK hg
   case bs1 =>
    intro u wx hg hC; clear hC
    have hcl0 : wx.cell? ⟨g1, 0, none⟩ = some (.int .i64 (k : Int)) := (hg.cell (p := ⟨g1, 0, none⟩) G5.out).trans D0.out
    have hcl1 : wx.cell? ⟨g1, 1, none⟩ = some (.int .i64 (p : Int)) := (hg.cell (p := ⟨g1, 1, none⟩) G5.out).trans D1.out
    have hcl2 : wx.cell? ⟨g1, 2, none⟩ = some (.int .i64 (s : Int)) := (hg.cell (p := ⟨g1, 2, none⟩) G5.out).trans D2.out
    refine wpOp_step rfl fun K hK => ?_
    simp only [puts, List.foldl]; go_simp; exact zK hK hg
   case bs2 =>
    intro u wx hg hC; clear hC; refine wpOp_step rfl fun K hK => ?_
    simp only [puts, List.foldl]; go_simp
    refine (HCR.out wx).mono ?_
    rintro e w' ⟨v, rfl, hv, hb'⟩
    exact hK _ _ ⟨rfl, hv, hg.next hb', hb'⟩
   case bs3 =>
    intro u wx hg hC; have hJ0 := zj hC 0; have hJ1 := zj hC 1
    have hJ2 : (Smr) (u 2) wx := hC.at 2 (by kernel_rfl)
    clear hC; obtain ⟨sb, e9, q9, r9⟩ := hJ2; refine wpOp_step rfl fun K hK => ?_
    simp only [puts, List.foldl]; go_simp; exact hK _ _ ⟨rfl, ⟨sb, rfl, sb, rfl, q9, r9⟩, hg, zb⟩
   case bs4 =>
    intro u wx hg hC
    have hJ3 : (BldP cc k p s) (u 3) wx := hC.at 3 (by kernel_rfl)
    clear hC; obtain ⟨sb, e9, q9⟩ := hJ3; generalize hA : puts [(0, 18), (1, 19), (2, 20), (3, 21), (4, 22), (5, 2), (6, 3)] _ u = A
    have hp : A.tmps.getD 21 undef = .agg (cdrL cc k p s sb).toArray := by rw [<- hA]; exact (zat u 3 21 _ _ (by decide) (by decide) (by kernel_rfl)).trans e9
    have hsz : 22 < A.tmps.size := by rw [<- hA]; exact zaq u (by kernel_rfl)
    refine wpOp_step rfl fun K hK => ?_
    clear hA; exact opBoxK (φ := NbC w5 cc k p s) (cdrL cc k p s sb) _ 22 rfl hsz hK (.tmp 21) rfl hp fun w' hr hb => ⟨⟨_, sb, rfl, hg.size, hr, Smr.monot _ _ _ q9 hb⟩, hg.next hb⟩
   case bs5 =>
    intro u wx hg hC
    have hJ4 : (NbC w5 cc k p s) (u 4) wx := hC.at 4 (by kernel_rfl)
    clear hC; refine wpOp_step rfl fun K hK => ?_
    simp only [puts, List.foldl]; go_simp; exact hK _ _ ⟨rfl, hJ4, hg, zb⟩
  case finb =>
   intro u w7 hb7 hφ; obtain ⟨g7, sb, e7, q7, r7, m7⟩ : NbC w5 cc k p s (u 5) w7 := hφ (5, 2) (by decide)
   have e3 : u 6 = .int .i64 0 := hφ (6, 3) (by decide)
   clear hφ; simp only [puts, List.foldl]; rw [e7, e3]; go_simp; have HB7 := zh (B5.out.next hb7)
   have HCD : Hid (Cdr w7 g7 cc b sb k p s) := zh ⟨HK.out.1, HK.out.2.1, HK.out.2.2.1, HK.out.2.2.2, r7, HCD5.out.step hb7, m7⟩
   clear hb7 e7 e3 r7 m7 q7; go_wp2; go_ret2; exact ⟨⟨_, _, _, _, rfl, HCD.out⟩, HB7.out⟩
def secF (f : Fb) (k p i : Nat) : ByteArray := str (sealB (bkF (wholeF f k p) i))
def encT (f : Fb) (k p t : Nat) : List ByteArray := (List.range (k + p)).map fun i => if i < t then secF f k p i else ByteArray.empty
def encF (f : Fb) (k p : Nat) : List ByteArray := (List.range (k + p)).map fun i => secF f k p i
theorem zbee (f : Fb) (k p : Nat) : encT f k p (k + p) = encF f k p := List.map_congr_left fun i hi => if_pos (List.mem_range.1 hi)
theorem zbhw (f : Fb) (k p i : Nat) (h : i < k + p) : (encF f k p)[i]? = some (secF f k p i) := by simp [encF, h]
theorem zbeg (f : Fb) (k p : Nat) : strs (encT f k p 0) = List.replicate (k + p) (.string ByteArray.empty) := by
 rw [strs, encT, List.map_map]
 refine List.ext_getElem? fun q => ?_
 by_cases h : q < k + p
 .simp [h]
 .rw [List.getElem?_eq_none (by simp; omega), List.getElem?_eq_none (by simp; omega)]
theorem zblq (f : Fb) (k p i : Nat) (h : i < k + p) : (strs (encT f k p i))[i]? = some (.string ByteArray.empty) := by simp [strs, encT, h]
theorem zbef (f : Fb) (k p i : Nat) (h : i < k + p) : (strs (encT f k p i)).set i (.string (secF f k p i)) = strs (encT f k p (i + 1)) := by
 refine List.ext_getElem? fun q => ?_
 rw [List.getElem?_set]
 by_cases hq : q < k + p
 .by_cases e : i = q
  .subst e
   rw [if_pos rfl, if_pos (by simp [strs, encT]; exact h)]
   simp [strs, encT, h]
  .rw [if_neg e]
   by_cases h2 : q < i
   .simp [strs, encT, hq, h2, show q < i + 1 by omega]
   .simp [strs, encT, hq, h2, show ¬ q < i + 1 by omega]
 .rw [if_neg (by omega), List.getElem?_eq_none (by simp [strs, encT]; omega), List.getElem?_eq_none (by simp [strs, encT]; omega)]
theorem zqu (c cc b sb k p s : Nat) (a : Option Addr) (cap : Nat) (f : Fb) (w : World) (h : Cdr w c cc b sb k p s) (hr : Lies w w.heap.size a (bytes (grid k f))) :
  Calls Tryz.prog 38 #[.pointer (some ⟨c, 0, none⟩), .slice a k cap] w fun e w' =>
   (∃ g, e = .returned (.tuple #[.slice (some ⟨g, 0, none⟩) (k + p) (k + p), .int .i64 0]) ∧ w.heap.size <= g ∧ Row w' g 9 (strs (encF f k p))) ∧ Below w.heap.size w w' := by
 obtain ⟨O, hO⟩ : ∃ O : List UInt8, O = List.replicate 60 0 := ⟨_, rfl⟩
 have HZ0 : Hid (∀ u, (zeroValue 40).run Tryz.prog u = .ok (.agg (bytes O).toArray) u) := zh (by rw [hO]; exact zew)
 have LO : Hid ((bytes O).length = 60) := zh (by rw [hO, zaa, List.length_replicate])
 have HN := zh (zhk c cc b sb k p s w h)
 have HD : Hid (∀ u, Below w.heap.size w u -> Calls Tryz.prog 73 #[.pointer (some ⟨c, 0, none⟩)] u fun e w' => e = .returned (.int .i64 (k : Int)) ∧ Below u.heap.size u w') := zh fun u hu => zll c cc b sb k p s u (h.step hu)
 have HWI : Hid (∀ u, Below w.heap.size w u -> Calls Tryz.prog 69 #[.pointer (some ⟨c, 0, none⟩)] u fun e w' => e = .returned (.int .i64 ((k + p : Nat) : Int)) ∧ Below u.heap.size u w') := zh fun u hu => zhl c cc b sb k p s u (h.step hu)
 have HWH : Hid (∀ u, Below w.heap.size w u -> Calls Tryz.prog 74 #[.pointer (some ⟨c, 0, none⟩), .slice a k cap] u fun e w' =>
   (∃ g c2 ys, e = .returned (.slice (some ⟨g, 0, none⟩) (k + p) c2) ∧ k + p <= c2 ∧ u.heap.size <= g ∧ Row w' g 40 (bytes (grid (k + p) (wholeF f k p)) ++ ys)) ∧ Below u.heap.size u w') := zh fun u hu => zst c cc b sb k p s a cap f u (h.step hu) ((hr.below hu).mono hu.size)
 have HC := zh h
 have HIS := zh zut
 have HIS2 := zh zro
 have HZC : Hid ((Value.string ByteArray.empty).cells = #[.string ByteArray.empty]) := zh rfl
 have hk8 := h.k8
 have hp6 := h.p6
 have hk1 := h.k1
 have HMK : Hid (List.replicate (k + p) (.string ByteArray.empty) = strs (encT f k p 0)) := zh (zbeg f k p).symm
 have HEF : Hid (encT f k p (k + p) = encF f k p) := zh (zbee f k p)
 have HAT : Hid (∀ i, i < k + p -> (strs (encT f k p i))[i]? = some (.string ByteArray.empty) ∧ (strs (encT f k p i)).set i (.string (secF f k p i)) = strs (encT f k p (i + 1))) := zh fun i hi => ⟨zblq f k p i hi, zbef f k p i hi⟩
 obtain ⟨n, hn⟩ : ∃ n, k + p = n := ⟨_, rfl⟩
 rw [hn] at HWI HWH HMK HEF HAT ⊢
 have HNM : Hid (n <= 1000000) := zh (by omega)
 have hni : (n : Int) <= 14 := by omega
 have hki : (k : Int) <= 8 := by omega
 have h2 : ((k : Int) == (k : Int)) = true := by simp
 clear hO h hr hk8 hp6 hk1 hn
 go_enter Tryz.func38, Tryz.ntmps38
 go_wp2_with (first
  | (go_at_call 68; (with_reducible refine HN.out.mono ?_); rintro e w1 ⟨rfl, b1⟩; have B1 := zh b1; clear b1)
  | (go_at_call 73; (with_reducible refine (HD.out w1 B1.out).mono ?_); rintro e w2 ⟨rfl, b2⟩; have B2 := zh (B1.out.next b2); clear b2)
  | (go_at_call 69; (with_reducible refine (HWI.out w2 B2.out).mono ?_); rintro e w3 ⟨rfl, b3⟩; have B3 := zh (B2.out.next b3); clear b3)
  | ((with_reducible refine wpMake1 83 9 (.string ByteArray.empty) n Tryz.underlying83 HIS.out HZC.out HIS2.out HNM.out ?_ ?_); rfl; intro w4 r4 b4 s4; rw [HMK.out] at r4; have R4 := zh r4; have B4 := zh (B3.out.next b4); clear r4 b4 s4)
  | (go_at_call 74; (with_reducible refine (HWH.out w4 B4.out).mono ?_); rintro e w5 ⟨⟨ga, c2, ys, rfl, q5, g5, r5⟩, b5⟩; have HC2 : ((n : Int) <= (c2 : Int)) := (by omega); have NEA : Hid (ga ≠ w3.heap.size) := zh (by have := R4.out.lt; omega); have RA := zh r5; have RS := zh (R4.out.step b5); have B5 := zh (B4.out.next b5); clear q5 g5 r5 b5))
 have HGS : Hid (w.heap.size <= w3.heap.size) := zh B3.out.size
 obtain ⟨gs, hgs⟩ : ∃ g, w3.heap.size = g := ⟨_, rfl⟩
 rw [hgs] at NEA RS HGS ⊢
 clear hgs R4 B1 B2 B3 B4 HN HD HWI HWH
 go_loopw [25] (fun x wr => ∃ i : Nat, i <= n ∧ x = .int .i64 i ∧ Row wr gs 9 (strs (encT f k p i)) ∧ Row wr ga 40 (bytes (grid n (wholeF f k p)) ++ ys) ∧ Below w.heap.size w wr) (fun x _ => n - (intOf x).toNat)
 case atStart => exact ⟨0, Nat.zero_le _, rfl, RS.out, RA.out, B5.out⟩
 case round =>
  clear RS RA B5
  obtain ⟨i, hi, rfl, hrs, hra, hbw⟩ := hrel
  by_cases hlt : i < n
  .have hii : (i : Int) < (n : Int) := by omega
   obtain ⟨HCI0, HNX0⟩ := HAT.out i hlt
   have HRG : Hid (wr.rangeAt ga (i * 60) (bytes (bkF (wholeF f k p) i))) := zh (by
    have := zdz (w := wr) (bl := ga) (off := 0) (n := n) (f := wholeF f k p) (fun j u hj => by
     rw [Nat.zero_add, hra.cell, List.getElem?_append_left (List.getElem?_eq_some_iff.1 hj).1]
     exact hj) i hlt
    rwa [Nat.zero_add] at this)
   have hl60 := zay (wholeF f k p) i
   have LM : Hid ((bytes (bkF (wholeF f k p) i)).length = 60) := zh (by rw [zaa, hl60])
   have HM1 : Hid ((bytes (bkF (wholeF f k p) i)).all (·.oneCell') = true) := zh (zbr _)
   have HSE0 : Hid (∀ wx, Below w.heap.size w wx -> Calls Tryz.prog 42 #[.pointer (some ⟨sb, 0, none⟩), .agg (bytes (bkF (wholeF f k p) i)).toArray] wx fun e w' => e = .returned (.string (secF f k p i)) ∧ Below wx.heap.size wx w') := zh fun wx hb => zbkd _ _ wx (HC.out.step hb).smr hl60
   obtain ⟨M, hM⟩ : ∃ M, bytes (bkF (wholeF f k p) i) = M := ⟨_, rfl⟩; obtain ⟨T, hT⟩ : ∃ T, secF f k p i = T := ⟨_, rfl⟩; rw [hM] at HRG LM HM1 HSE0; rw [hT] at HSE0 HNX0; have HCI := zh HCI0; have HNX := zh HNX0; have HRS := zh hrs; have HRA := zh hra; have HBW := zh hbw; clear hrs hra hbw hl60 hM hT HCI0 HNX0 hlt
   go_wp2_with (first
    | ((with_reducible refine wpLoadRK HRG.out 40 fits_block LM.out ?_ ?_); rfl)
    | ((with_reducible refine wpAllocK (w := wr) (bytes O) 40 HZ0.out ?_ ?_); rfl; intro u2 r2 b2 s2; have R2 := zh r2; have W2 := zh b2; clear r2 b2 s2)
    | ((with_reducible refine R2.out.wpStoreK 40 M fits_block LO.out LM.out HM1.out ?_ ?_); rfl; intro u3 r3 o3 s3; have RM3 := zh r3; have W3 := zh (W2.out.trans (o3.below (Nat.le_refl _) W2.out.size)); clear r3 o3 s3))
   have RS3 := zh (HRS.out.step W3.out); have RA3 := zh (HRA.out.step W3.out); have B3 := zh (HBW.out.next W3.out); have C4 := zh ((HC.out.step B3.out).c4); have HLT := zh ((HC.out.step B3.out).lt)
   have HSE : Hid (∀ wx, Below u3.heap.size u3 wx -> Calls Tryz.prog 42 #[.pointer (some ⟨sb, 0, none⟩), .agg M.toArray] wx fun e w' => e = .returned (.string T) ∧ Below wx.heap.size wx w') := zh fun wx hb => HSE0.out wx (B3.out.next hb)
   obtain ⟨gb, hgb⟩ : ∃ g, wr.heap.size = g := ⟨_, rfl⟩; rw [hgb] at RM3 ⊢; clear hgb R2 W2 HRS HRA HBW HRG HSE0
   refine zdv 9 [] [(0, 30), (1, 31), (2, 32), (3, 33), (4, 34), (5, 35), (6, 36), (7, 37), (8, 38)]
    (fun ii => [Is (.slice (some ⟨gs, 0, none⟩) n n), Is (.int .i64 (i : Int)), Is (.pointer (some ⟨c, 0, none⟩)), Is (.pointer (some ⟨c, 0, none⟩)), Is (.pointer (some ⟨c, 4, none⟩)), Is (.pointer (some ⟨sb, 0, none⟩)), Is (.agg (M).toArray), Is (.string T), Is (.pointer (some ⟨gs, i, none⟩))].getD ii (Is undef))
    (fun w' => Below u3.heap.size u3 w') (fun w' => Row w' gs 9 (strs (encT f k p (i + 1))) ∧ ∃ wm, Below u3.heap.size u3 wm ∧ Only gs wm w') (by kernel_rfl) (by kernel_rfl) (by kernel_rfl) (by kernel_rfl) (by decide) (by decide) (by kernel_rfl) rfl (by kernel_rfl) ?monoc ((zb).drew) ?stepc ?stepXc ?stepSc ?finc
   case monoc =>
    intro i
    match i with
    | 0 | 1 | 2 | 3 | 4 | 5 | 6 | 7 | 8 => exact Is.monot _
    | _ + 9 => exact Is.monot _
   case stepc =>
    refine zf ⟨?cs0, zf ⟨?cs1, zf ⟨?cs2, zf ⟨?cs3, zf ⟨?cs4, zf ⟨?cs5, zf ⟨?cs6, zf ⟨?cs7, zf ⟨?cs8, List.forall_mem_nil _⟩⟩⟩⟩⟩⟩⟩⟩⟩
    case cs0 | cs1 | cs2 =>
     intro u wx hg hC; clear hC; refine wpOp_step rfl fun K hK => ?_
     simp only [puts, List.foldl]; go_simp; exact zK hK hg
    case cs3 =>
     intro u wx hg hC; have hJ2 := zj hC 2; clear hC; refine wpOp_step rfl fun K hK => ?_
     simp only [puts, List.foldl]; go_simp; exact zK hK hg
    case cs4 =>
     intro u wx hg hC; have hJ3 := zj hC 3; clear hC; refine wpOp_step rfl fun K hK => ?_
     simp only [puts, List.foldl]; go_simp; exact zK hK hg
    case cs5 =>
     intro u wx hg hC; have hJ4 := zj hC 4; clear hC
     have hcl : wx.cell? ⟨c, 4, none⟩ = some (.pointer (some ⟨sb, 0, none⟩)) := (hg.cell (p := ⟨c, 4, none⟩) HLT.out).trans C4.out
     refine wpOp_step rfl fun K hK => ?_
     simp only [puts, List.foldl]; go_simp; exact zK hK hg
    case cs6 =>
     intro u wx hg hC; clear hC; generalize hA : puts [(0, 30), (1, 31), (2, 32), (3, 33), (4, 34), (5, 35), (6, 36), (7, 37), (8, 38)] _ u = A
     have hp : A.tmps.getD 8 undef = .pointer (some ⟨gb, 0, none⟩) := by rw [<- hA]; exact (zck u _ _ 8 (by decide)).trans (by rfl)
     have hsz : 36 < A.tmps.size := by rw [<- hA]; exact zaq u (by kernel_rfl)
     refine wpOp_step rfl fun K hK => ?_
     clear hA; exact opLoadK (φ := Is (.agg (M).toArray)) (RM3.out.step hg) _ fits_block LM.out 36 rfl hsz hK (.tmp 8) rfl hp rfl hg
    case cs7 =>
     intro u wx hg hC; have hJ5 := zj hC 5; have hJ6 := zj hC 6; clear hC; refine wpOp_step rfl fun K hK => ?_
     simp only [puts, List.foldl]; go_simp
     refine (HSE.out wx hg).mono ?_
     rintro e w' ⟨rfl, hb'⟩
     exact hK _ _ ⟨rfl, rfl, hg.next hb', hb'⟩
    case cs8 =>
     intro u wx hg hC; have hJ0 := zj hC 0; have hJ1 := zj hC 1; clear hC; refine wpOp_step rfl fun K hK => ?_
     simp only [puts, List.foldl]; go_simp; exact zK hK hg
   case stepXc =>
    intro p hp hx
    cases hx
   case stepSc =>
    intro u w9 hbw9 hφ
    have hp9 : u 8 = .pointer (some ⟨gs, i, none⟩) := hφ (8, 38) (by decide) (by decide)
    have hv9 : u 7 = .string T := hφ (7, 37) (by decide) (by decide)
    clear hφ; have RS9 := zh (RS3.out.step hbw9); have hfz := RS9.out.frozen i
    have hcc : w9.cell? ⟨gs, i, none⟩ = some (.string ByteArray.empty) := by rw [RS9.out.cell]; exact HCI.out
    have hrow : Row (w9.setCell ⟨gs, i, none⟩ (.string T)) gs 9 (strs (encT f k p (i + 1))) := by
     have := RS9.out.set i (.string T)
     rwa [HNX.out] at this
    have HB9 := zh hbw9; clear hbw9; refine wpOp_step rfl fun K hK => ?_
    simp only [puts, List.foldl]; go_simp; exact hK _ _ ⟨rfl, hrow, w9, HB9.out, (Only.refl gs w9).setCell ⟨gs, i, none⟩ _ (Or.inl rfl)⟩
   case finc =>
    rintro u w6 ⟨r6, wm, hbm, hom⟩ hφ
    clear hφ; simp only [puts, List.foldl]; go_simp; have R6 := zh r6
    have RA6 : Hid (Row w6 ga 40 (bytes (grid n (wholeF f k p)) ++ ys)) := zh ((RA3.out.step hbm).only hom NEA.out)
    have B6 : Hid (Below w.heap.size w w6) := zh ((B3.out.next hbm).trans (hom.below HGS.out (B3.out.next hbm).size))
    clear r6 hbm hom; go_wp2
    go_roundw
    case rel => exact ⟨i + 1, by omega, by go_num, R6.out, RA6.out, B6.out⟩
    case measure => simp [intOf]; omega
  .obtain rfl : i = n := by omega
   rw [HEF.out] at hrs; have HRS := zh hrs; have HBW := zh hbw; clear hrs hra hbw; go_wp2; go_ret2; exact ⟨⟨_, rfl, HGS.out, HRS.out⟩, HBW.out⟩
end
section
open Go.RowKit CrcMath GfMath PolyMath RsMath SolMath GeoMath
def nilFound : List Value := [.slice none 0 0, .slice none 0 0]
theorem ziy : ∀ u, (zeroValue 49).run Tryz.prog u = .ok (.agg nilFound.toArray) u := fun u => by kernel_rfl
theorem found_fits : Fits Tryz.prog 49 2 := ⟨⟨_, Tryz.underlying49, rfl⟩, by kernel_rfl⟩
theorem zml : Tryz.prog.built 49 [] = some nilFound.toArray := by kernel_rfl
theorem Lies.notIn {w : World} {B g : Nat} {t : TypeId} {a : Option Addr} {xs l : List Value} (h : Lies w B a xs) (hr : Row w g t l) (hne : ∀ (j : Nat) (v : Value), l[j]? = some v -> ∀ u ∈ xs, u ≠ v) : ∀ x, a = some x -> 0 < xs.length -> x.block ≠ g := by
 intro x hx h0 he
 obtain ⟨b2, off, e, hlt, hc⟩ := h h0
 rw [hx] at e
 cases e
 have h1 := hc 0 xs[0] (by rw [List.getElem?_eq_getElem h0])
 rw [show b2 = g from he, hr.cell] at h1
 exact hne _ _ h1 _ (List.getElem_mem h0) rfl
def ReadN (B n p : Nat) (S : List (List UInt8)) (e : Ending) (w' : World) : Prop :=
 if okTo n p (seenF S) ((erasedF S n).map fun x : Nat => (x : Int)) 60 = true then
  ∃ g vs, e = .returned (.tuple #[.agg #[.slice (some ⟨g, 0, none⟩) n n, vs], .int .i64 0]) ∧ (Row w' g 40 (bytes (grid n (mdF n p (seenF S) ((erasedF S n).map fun x : Nat => (x : Int))))) ∧ B <= g) ∧
   IReads w' vs (unlF n (seenF S) (mdF n p (seenF S) ((erasedF S n).map fun x : Nat => (x : Int))) (erasedF S n)) ∧ (∀ q, vs.ownBlock = some q -> B <= q)
 else e = .returned (.tuple #[.agg nilFound.toArray, .int .i64 8])
theorem zwp (c cc b sb k p s : Nat) (a : Option Addr) (cap n : Nat) (L : List ByteArray) (w : World) (h : Cdr w c cc b sb k p s) (hn : n = k + p) (hL : L.length = n) (hLs : ∀ x ∈ L, x.size <= 140737488355328) (hr : Lies w w.heap.size a (strs L)) :
  Calls Tryz.prog 37 #[.pointer (some ⟨c, 0, none⟩), .slice a n cap] w fun e w' => ReadN w.heap.size n p (tl L) e w' ∧ Below w.heap.size w w' := by
 have HN : Hid (∀ u, Below w.heap.size w u -> Calls Tryz.prog 68 #[.pointer (some ⟨c, 0, none⟩)] u fun e w' => e = .returned (.bool false) ∧ Below u.heap.size u w') := zh fun u hu => zhk c cc b sb k p s u (h.step hu)
 have HW : Hid (∀ u, Below w.heap.size w u -> Calls Tryz.prog 69 #[.pointer (some ⟨c, 0, none⟩)] u fun e w' => e = .returned (.int .i64 (n : Int)) ∧ Below u.heap.size u w') := zh fun u hu => by rw [hn]; exact zhl c cc b sb k p s u (h.step hu)
 have hn14 : n <= 14 := by have := h.k8; have := h.p6; omega
 have HOP : Hid (∀ u, Below w.heap.size w u -> Calls Tryz.prog 70 #[.pointer (some ⟨c, 0, none⟩), .slice a n cap] u fun e w' =>
   (∃ g vs, e = .returned (.tuple #[.slice (some ⟨g, 0, none⟩) n n, vs]) ∧ u.heap.size <= g ∧ Row w' g 40 (bytes (grid n (seenF (tl L)))) ∧ IReads w' vs (erasedF (tl L) n)) ∧ Below u.heap.size u w') := zh fun u hu => zwo c cc b sb k p s a cap n L u (h.step hu) hL (by omega) hLs ((hr.below hu).mono hu.size)
 obtain ⟨S, hS⟩ : ∃ S, tl L = S := ⟨_, rfl⟩
 rw [hS] at HOP ⊢
 have hEl := zof S n
 have hEn := zog S n
 have HRP : Hid (∀ e w', (okTo n p (seenF S) ((erasedF S n).map fun x : Nat => (x : Int)) 60 = true -> ∃ g vs, e = .returned (.tuple #[.agg #[.slice (some ⟨g, 0, none⟩) n n, vs], .int .i64 0]) ∧ (Row w' g 40 (bytes (grid n (mdF n p (seenF S) ((erasedF S n).map fun x : Nat => (x : Int))))) ∧ w.heap.size <= g) ∧
   IReads w' vs (unlF n (seenF S) (mdF n p (seenF S) ((erasedF S n).map fun x : Nat => (x : Int))) (erasedF S n)) ∧ (∀ q, vs.ownBlock = some q -> w.heap.size <= q)) -> (okTo n p (seenF S) ((erasedF S n).map fun x : Nat => (x : Int)) 60 = false -> e = .returned (.tuple #[.agg nilFound.toArray, .int .i64 8])) -> ReadN w.heap.size n p S e w') := zh fun e w' h1 h2 => by
  unfold ReadN
  cases ho : okTo n p (seenF S) ((erasedF S n).map fun x : Nat => (x : Int)) 60 with
  | true => rw [if_pos rfl]; exact h1 ho
  | false => rw [if_neg (by simp)]; exact h2 ho
 have HME0 : Hid (∀ u a2 c2 ea ecap, Below w.heap.size w u -> Lies u u.heap.size a2 (bytes (grid n (seenF S))) -> Lies u u.heap.size ea (nats (erasedF S n)) -> Calls Tryz.prog 71 #[.pointer (some ⟨c, 0, none⟩), .slice a2 n c2, .slice ea (erasedF S n).length ecap] u fun e w' => MendP u.heap.size n p (seenF S) ((erasedF S n).map fun x : Nat => (x : Int)) e w' ∧ Below u.heap.size u w') := zh fun u a2 c2 ea ecap h1 h2 h3 => zwn c cc b sb k p s a2 c2 n (seenF S) ea ecap (erasedF S n) u (h.step h1) hn h2 h3 (by omega) hEn
 have HUN0 : Hid (∀ u a1 c1 a2 c2 ea ecap, ∀ F : Fb, Lies u u.heap.size a1 (bytes (grid n (seenF S))) -> Lies u u.heap.size a2 (bytes (grid n F)) -> Lies u u.heap.size ea (nats (erasedF S n)) -> Calls Tryz.prog 72 #[.slice a1 n c1, .slice a2 n c2, .slice ea (erasedF S n).length ecap] u fun e w' => (∃ v, e = .returned v ∧ IReads w' v (unlF n (seenF S) F (erasedF S n)) ∧ (∀ q, v.ownBlock = some q -> u.heap.size <= q)) ∧ Below u.heap.size u w') := zh fun u a1 c1 a2 c2 ea ecap F h1 h2 h3 => zqv a1 a2 c1 c2 n (seenF S) F ea ecap (erasedF S n) u (by omega) h1 h2 h3 (by omega)
 obtain ⟨E, hE⟩ : ∃ E, erasedF S n = E := ⟨_, rfl⟩
 rw [hE] at HOP HRP HME0 HUN0
 obtain ⟨er, her⟩ : ∃ er, E.map (fun x : Nat => (x : Int)) = er := ⟨_, rfl⟩
 rw [her] at HRP HME0
 obtain ⟨F0, hF0⟩ : ∃ F, seenF S = F := ⟨_, rfl⟩
 rw [hF0] at HOP HRP HME0 HUN0
 have HZ := zh ziy
 have HBU := zh zml
 have HL : Hid (nilFound.length = 2) := zh rfl
 have H1 : Hid (nilFound.all (·.oneCell') = true) := zh rfl
 have h2 : ((n : Int) == (n : Int)) = true := by simp
 have hni : (n : Int) <= 14 := by omega
 unfold MendP at HME0
 obtain ⟨ok, hok⟩ : ∃ ok, okTo n p F0 er 60 = ok := ⟨_, rfl⟩
 rw [hok] at HME0 HRP
 have HNI : Hid (∀ (j : Nat) (v : Value), nilFound[j]? = some v -> ∀ l : List Nat, ∀ u ∈ nats l, u ≠ v) := zh fun j v hv l u hu e => by
  obtain ⟨y, _, rfl⟩ := List.mem_map.1 hu
  match j, hv with
  | 0, hv => simp [nilFound] at hv; rw [<- hv] at e; cases e
  | 1, hv => simp [nilFound] at hv; rw [<- hv] at e; cases e
  | _ + 2, hv => simp [nilFound] at hv
 generalize nilFound = NF at *
 clear h hn hL hLs hr hn14 hS hEl hEn hE her hF0 hok
 cases ok
 .have HRB : Hid (∀ w', ReadN w.heap.size n p S (.returned (.tuple #[.agg NF.toArray, .int .i64 8])) w') := zh fun w' => HRP.out _ w' (fun h => by cases h) fun _ => rfl
  clear HRP
  go_enter Tryz.func37, Tryz.ntmps37
  go_wp2_with (first
   | ((with_reducible refine wpAllocK (w := w) NF 49 HZ.out ?_ ?_); rfl; intro u1 r1 b1 s1; have R1 := zh r1; have B1 := zh b1; clear r1 b1 s1)
   | (go_at_call 68; (with_reducible refine (HN.out u1 B1.out).mono ?_); rintro e u2 ⟨rfl, b2⟩; have R2 := zh (R1.out.step b2); have B2 := zh (B1.out.next b2); clear b2)
   | (go_at_call 69; (with_reducible refine (HW.out u2 B2.out).mono ?_); rintro e u3 ⟨rfl, b3⟩; have R3 := zh (R2.out.step b3); have B3 := zh (B2.out.next b3); clear b3)
   | (go_at_call 70; (with_reducible refine (HOP.out u3 B3.out).mono ?_); rintro e u4 ⟨⟨g, vs, rfl, q4, r4, ea, ecap, rfl, i4, l4⟩, b4⟩; have R4 := zh (R3.out.step b4); have B4 := zh (B3.out.next b4); have S4 := zh (zbj r4); have E4 := zh l4; clear q4 r4 i4 l4 b4)
   | (go_at_call 71; (with_reducible refine (HME0.out u4 _ _ _ _ B4.out S4.out E4.out).mono ?_); rintro e u5 ⟨h5, b5⟩; rw [if_neg (by simp)] at h5; subst h5; have R5 := zh (R4.out.step b5); have B5 := zh (B4.out.next b5); clear b5)
   | ((with_reducible refine wpBuildZeroK NF 49 HBU.out ?_ ?_); rfl)
   | ((with_reducible refine R5.out.wpStoreK 49 NF found_fits HL.out HL.out H1.out ?_ ?_); rfl; intro u6 r6 o6 s6; have R6 := zh r6; have B6 := zh (B5.out.trans (o6.below (Nat.le_refl _) B5.out.size)); clear r6 o6 s6))
  exact bodyPost_ret (R6.out.resultT (q := 5) rfl _ _ rfl Tryz.underlying49 rfl (by rw [HL.out]; exact found_fits.size)) rfl ⟨HRB.out _, B6.out⟩
 .have HRB : Hid (∀ w' g vs, Row w' g 40 (bytes (grid n (mdF n p F0 er))) -> w.heap.size <= g -> IReads w' vs (unlF n F0 (mdF n p F0 er) E) -> (∀ q, vs.ownBlock = some q -> w.heap.size <= q) -> ReadN w.heap.size n p S (.returned (.tuple #[.agg [.slice (some ⟨g, 0, none⟩) n n, vs].toArray, .int .i64 0])) w') := zh fun w' g vs h1 h1b h2 h2b => HRP.out _ w' (fun _ => ⟨g, vs, rfl, ⟨h1, h1b⟩, h2, h2b⟩) fun h => by cases h
  clear HRP
  generalize mdF n p F0 er = F1 at *
  go_enter Tryz.func37, Tryz.ntmps37
  go_wp2_with (first
   | ((with_reducible refine wpAllocK (w := w) NF 49 HZ.out ?_ ?_); rfl; intro u1 r1 b1 s1; have R1 := zh r1; have B1 := zh b1; have S1 := zh s1; clear r1 b1 s1)
   | (go_at_call 68; (with_reducible refine (HN.out u1 B1.out).mono ?_); rintro e u2 ⟨rfl, b2⟩; have R2 := zh (R1.out.step b2); have B2 := zh (B1.out.next b2); clear b2)
   | (go_at_call 69; (with_reducible refine (HW.out u2 B2.out).mono ?_); rintro e u3 ⟨rfl, b3⟩; have R3 := zh (R2.out.step b3); have B3 := zh (B2.out.next b3); clear b3)
   | (go_at_call 70; (with_reducible refine (HOP.out u3 B3.out).mono ?_); rintro e u4 ⟨⟨g, vs, rfl, q4, r4, ea, ecap, rfl, i4, l4⟩, b4⟩; have R4 := zh (R3.out.step b4); have B4 := zh (B3.out.next b4); have S4 := zh (zbj r4); have E4 := zh l4; clear q4 r4 i4 l4 b4)
   | (go_at_call 71; (with_reducible refine (HME0.out u4 _ _ _ _ B4.out S4.out E4.out).mono ?_); rintro e u5 ⟨h5, b5⟩; (rw [if_pos trivial] at h5; obtain ⟨g5, rfl, q5, r5⟩ := h5; have R5 := zh (R4.out.step b5); have B5 := zh (B4.out.next b5); have S5 := zh (S4.out.step b5); have E5 := zh (E4.out.step b5); have M5 := zh r5; have NE5 : Hid (g5 ≠ w.heap.size) := zh (by have := R4.out.lt; omega); have G5 : Hid (w.heap.size <= g5) := zh (Nat.le_trans B4.out.size q5); clear q5 r5 b5))
   | (go_at_call 72; (with_reducible refine (HUN0.out u5 _ _ _ _ _ _ F1 S5.out (zbj M5.out) E5.out).mono ?_); (rintro e u6 ⟨⟨v6, rfl, ⟨a6, c6, rfl, k6, l6⟩, n6⟩, b6⟩; have N6 : Hid (∀ q, (Value.slice a6 (unlF n F0 F1 E).length c6).ownBlock = some q -> w.heap.size <= q) := zh fun q hq => Nat.le_trans B5.out.size (n6 q hq); have R6 := zh (R5.out.step b6); have B6 := zh (B5.out.next b6); have M6 := zh (M5.out.step b6); have K6 := zh k6; have L6 := zh l6; clear k6 l6 n6 b6))
   | ((with_reducible refine R6.out.wpStoreK 49 [.slice (some ⟨g5, 0, none⟩) n n, .slice a6 (unlF n F0 F1 E).length c6] found_fits HL.out rfl rfl ?_ ?_); rfl; intro u7 r7 o7 s7; have R7 := zh r7; have O7 := zh o7; have B7 := zh (B6.out.trans (o7.below (Nat.le_refl _) B6.out.size)); clear r7 o7 s7))
  have M7 := zh (M6.out.only O7.out NE5.out)
  have HI : Hid (IReads u7 (.slice a6 (unlF n F0 F1 E).length c6) (unlF n F0 F1 E)) := zh ⟨a6, c6, rfl, K6.out, L6.out.onlyNe O7.out (L6.out.notIn R6.out fun j v hv u hu => HNI.out j v hv _ u hu)⟩
  exact bodyPost_ret (R7.out.resultT (q := 5) rfl _ _ rfl Tryz.underlying49 rfl found_fits.size) rfl ⟨HRB.out _ _ _ M7.out G5.out HI.out N6.out, B7.out⟩
end
section
open Go.RowKit
section
variable {P : Program}
def buildSOf (o : Oper) (a : Act) : Option (TypeId × Nat × List (Nat × Value)) := match o.guard, o.op with | none, .buildSlice t n parts => some (t, n, parts.toList.map fun (i, x) => (i, a.eval x)) | _, _ => none
theorem wpBuildBK {ops : Array Oper} {rest : List Oper} {o : Oper} {a : Act} {w : World} {Q : Exit -> Act -> World -> Prop} (vs : List (List Value)) (s : Nat) (T e : TypeId) (hT : P.underlying T = some (.slice e)) (hsz : (P.info? e).map (fun i => (i.size, i.zero.isSome)) = some (s, true))
  (hs : 0 < s) (hv : ∀ l ∈ vs, l.length = s) (hpos : 0 < vs.length) (hsm : vs.length * s <= 2 ^ 24)
  (ho : buildSOf o a = some (T, vs.length, (vs.zipIdx 0).map fun x => (x.2, .agg x.1.toArray)))
  (k : ∀ w', Row w' w.heap.size e vs.flatten -> Below w.heap.size w w' -> w'.heap.size = w.heap.size + 1 -> wpList P ops Q rest (a.put o.dst (.slice (some ⟨w.heap.size, 0, none⟩) vs.length vs.length)) w') : wpList P ops Q (o :: rest) a w := by
 unfold buildSOf at ho
 split at ho
 .rename_i t n parts hg hop
  simp only [Option.some.injEq, Prod.mk.injEq] at ho
  obtain ⟨rfl, rfl, hp⟩ := ho
  cases hie : P.info? e with
  | none => simp [hie] at hsz
  | some ie =>
   simp only [hie, Option.map_some, Option.some.injEq, Prod.mk.injEq] at hsz
   obtain ⟨z, hzz⟩ := Option.isSome_iff_exists.1 hsz.2; have hpp := Nat.mul_pos hpos hs
   have e1 : ((vs.map fun l => Value.agg l.toArray).zipIdx 0).map (fun x => (x.2, x.1)) = (vs.zipIdx 0).map fun x => (x.2, Value.agg x.1.toArray) := by
    rw [List.zipIdx_map, List.map_map]; rfl
   have hf := Great.fill_whole hs (vs.map fun l => Value.agg l.toArray) ((Array.range (vs.length * s)).map (z.cells[· % z.cells.size]!)) (fun v hm => by
    obtain ⟨l, hl, rfl⟩ := List.mem_map.1 hm
    show l.toArray.size = s
    simpa using hv l hl) (by simp)
   rw [e1] at hf
   have e2 : (vs.map fun l => Value.agg l.toArray).flatMap (fun v => v.cells.toList) = vs.flatten := by
    rw [List.flatMap_map, List.flatten_eq_flatMap]
    rfl
   rw [e2] at hf
   refine wpList_buildSlice hg t e vs.length parts hop _ ie z hT hie hzz (by rw [hsz.1]; omega) (by rw [hsz.1]; omega) (by rw [hsz.1, Array.toList_map, hp]; exact hf) ?_
   exact k _ (Row.new w e vs.flatten) ((zb).alloc (Nat.le_refl _) _) (by simp)
 .cases ho
end
end
section
open Go.RowKit CrcMath GfMath PolyMath RsMath SolMath GeoMath
theorem zbgn (f : Fb) (k p i : Nat) : (secF f k p i).size = 64 := by rw [secF, zbc, zdh, zay]
theorem zxt : (Tryz.prog.info? 40).map (fun i => (i.size, i.zero.isSome)) = some (60, true) := by kernel_rfl
end
section
open Go.RowKit FlaMath CrcMath GfMath PolyMath RsMath SolMath GeoMath
theorem Row.offDev {w : World} {sh : Sh} {D : Dv} {g : Nat} {t : TypeId} {l : List Value} (h : Row w g t l) (hd : Dev w sh D) (h1 : t ≠ 110) (h2 : t ≠ 5) (h3 : t ≠ 4) (h4 : t ≠ 3) : g ∉ sh.S := by
 intro hm
 simp only [Sh.S, List.mem_cons, List.not_mem_nil, or_false] at hm
 rcases hm with e | e | e | e
 .exact zhd h hd.row h1 e
 .exact zhd h hd.c h2 e
 .exact zhd h hd.l h3 e
 .exact zhd h hd.e h4 e
theorem zbka {p : Nat} (h2 : 2 <= p) (h6 : p <= 6) : ∃ r, rt (exs p) = 1 :: r ∧ 0 < r.length := by
 have hp : p = 2 ∨ p = 3 ∨ p = 4 ∨ p = 5 ∨ p = 6 := by omega
 have hl : (rt (exs p)).length = p + 1 := by
  have := (zdw (exs p) (zeh p)).2.1
  rw [this, zdl]
 have hh : (rt (exs p)).head? = some 1 := by
  rcases hp with rfl | rfl | rfl | rfl | rfl <;> decide +kernel
 cases hr : rt (exs p) with
 | nil => rw [hr] at hl; simp at hl
 | cons a r =>
  rw [hr] at hh hl
  simp at hh hl
  subst hh
  exact ⟨r, rfl, by omega⟩
theorem zblm {w w' : World} {c cc b sb k p s : Nat} {sh : Sh} {D D' : Dv} (h : Cdr w c cc b sb k p s) (hd : Dev w sh D) (hf : ∀ x ∈ D.C, x = 255) (ho : Onl sh.S w w') (hd' : Dev w' sh D') (hl : D'.C.length = D.C.length) : Cdr w' c cc b sb k p s := by
 have hcl := hd.ok.cells
 have hone := hd.ok.one
 have hLL : D'.L.length = D.L.length := by have := hd'.ok.cells; omega
 have hc := h.row.offDev hd (by decide) (by decide) (by decide) (by decide)
 refine ⟨h.k1, h.k8, h.p2, h.p6, h.row.onl ho hc, ?_, ?_⟩
 .obtain ⟨a, cap, h1, h2, h3⟩ := h.cod.cor
  have hcc := h1.1.offDev hd (by decide) (by decide) (by decide) (by decide)
  obtain ⟨P, hP, hf1⟩ := h1.2
  have hb := hf1.offDev hd (by decide) (by decide) (by decide) (by decide)
  refine ⟨h.cod.k1, h.cod.p1, h.cod.n255, h.cod.p64, a, cap, ⟨h1.1.onl ho hcc, P, hP, hf1.onl ho hb⟩, h2, ?_⟩
  intro h0
  obtain ⟨bl, off, e, hlt, hce⟩ := h3 h0
  refine ⟨bl, off, e, Nat.lt_of_lt_of_le hlt ho.size, fun j u hj => ?_⟩
  obtain ⟨r, hr, hr0⟩ := zbka h.p2 h.p6
  have q0 : w.cell? ⟨bl, off + 0, none⟩ = some (.int .u8 1) := hce 0 _ (by rw [hr]; rfl)
  have q1 : ∃ x, w.cell? ⟨bl, off + 1, none⟩ = some (.int .u8 x) := by
   cases r with
   | nil => simp at hr0
   | cons y r => exact ⟨_, hce 1 _ (by rw [hr]; rfl)⟩
  by_cases hm : bl ∈ sh.S
  .simp only [Sh.S, List.mem_cons, List.not_mem_nil, or_false] at hm
   rcases hm with rfl | rfl | rfl | rfl
   .obtain ⟨x, q1⟩ := q1
    rw [hd.row.cell] at q0 q1
    match off, q0, q1 with
    | 0, q0, _ => simp [devL] at q0
    | 1, _, q1 => simp [devL] at q1
    | 2, q0, _ => simp [devL] at q0
    | 3, q0, _ => simp [devL] at q0
    | 4, q0, _ => simp [devL] at q0
    | 5, q0, _ => simp [devL] at q0
    | 6, q0, _ => simp [devL] at q0
    | 7, q0, _ => simp [devL] at q0
    | 8, q0, _ => simp [devL] at q0
    | n + 9, q0, _ => simp [devL] at q0
   .have hge : D.C.length <= off := by
     rcases Nat.lt_or_ge off D.C.length with hlt2 | hge
     .have q2 := hd.cc off hlt2
      rw [Nat.add_zero] at q0; rw [q0, hf _ (List.getElem_mem hlt2)] at q2
      simp at q2
     .exact hge
    have q2 := hce j u hj; rw [hd.c.cell, List.getElem?_append_right (by rw [zaa]; omega), zaa] at q2
    rw [hd'.c.cell, List.getElem?_append_right (by rw [zaa]; omega), zaa, hl]
    exact q2
   .have hge : D.L.length <= off := by
     rcases Nat.lt_or_ge off D.L.length with hlt2 | hge
     .have q2 := hd.cl off hlt2
      rw [Nat.add_zero, q2] at q0
      simp at q0
     .exact hge
    have q2 := hce j u hj; rw [hd.l.cell, List.getElem?_append_right (by rw [zdn]; omega), zdn] at q2
    rw [hd'.l.cell, List.getElem?_append_right (by rw [zdn]; omega), zdn, hLL]
    exact q2
   .have hge : D.E.length <= off := by
     rcases Nat.lt_or_ge off D.E.length with hlt2 | hge
     .have q2 := hd.ce off hlt2
      rw [Nat.add_zero, q2] at q0
      simp at q0
     .exact hge
    have q2 := hce j u hj
    have hEE : D'.E.length = D.E.length := by rw [hd'.ok.worn, hd.ok.worn, hLL]
    rw [hd.e.cell, List.getElem?_append_right (by rw [zbp]; omega), zbp] at q2
    rw [hd'.e.cell, List.getElem?_append_right (by rw [zbp]; omega), zbp, hEE]
    exact q2
  .rw [World.cell?_of_block (a := ⟨bl, off + j, none⟩) (ho.2.2.2.2 bl hlt hm)]
   exact hce j u hj
 .obtain ⟨b', e, hlt, ht⟩ := h.smr
  refine ⟨b', e, Nat.lt_of_lt_of_le hlt ho.size, fun j hj => ?_⟩
  have q0 := ht 0 (by omega)
  by_cases hm : b' ∈ sh.S
  .exfalso
   simp only [Sh.S, List.mem_cons, List.not_mem_nil, or_false] at hm
   rcases hm with rfl | rfl | rfl | rfl
   .rw [hd.row.cell] at q0; simp [devL] at q0
   .rw [hd.cc 0 (by omega)] at q0; simp at q0
   .rw [hd.cl 0 (by omega)] at q0; simp at q0
   .rw [hd.ce 0 (by have := hd.ok.worn; omega)] at q0; simp at q0
  .rw [World.cell?_of_block (a := ⟨b', 0 + j, none⟩) (ho.2.2.2.2 b' hlt hm)]
   exact ht j hj
structure ArD where
 a : Nat
 c : Nat
 cc : Nat
 b : Nat
 sb : Nat
 k : Nat
 p : Nat
 s : Nat
 sh : Sh
def ArD.n (A : ArD) : Nat := A.k + A.p
def arL (A : ArD) : List Value := [.pointer (some ⟨A.c, 0, none⟩), .pointer (some ⟨A.sh.b, 0, none⟩)]
structure Are (wB : World) (A : ArD) (w : World) (D : Dv) : Prop where
 base : ∀ w' D', Onl A.sh.S wB w' -> Dev w' A.sh D' -> D'.C.length = D.C.length -> Cdr w' A.c A.cc A.b A.sb A.k A.p A.s ∧ Row w' A.a 87 (arL A)
 onl : Onl A.sh.S wB w
 dev : Dev w A.sh D
 s1 : 1 <= A.s
 s8 : A.s <= 8
 fit : 3 * (A.n * A.s) + 18 <= D.L.length
section
variable {wB w w' : World} {A : ArD} {D D' : Dv}
theorem Are.cdr (h : Are wB A w D) : Cdr w A.c A.cc A.b A.sb A.k A.p A.s := (h.base w D h.onl h.dev rfl).1
theorem Are.row (h : Are wB A w D) : Row w A.a 87 (arL A) := (h.base w D h.onl h.dev rfl).2
theorem Are.a0 (h : Are wB A w D) : w.cell? ⟨A.a, 0, none⟩ = some (.pointer (some ⟨A.c, 0, none⟩)) := by rw [h.row.cell]; rfl
theorem Are.a1 (h : Are wB A w D) : w.cell? ⟨A.a, 1, none⟩ = some (.pointer (some ⟨A.sh.b, 0, none⟩)) := by rw [h.row.cell]; rfl
theorem Are.lt (h : Are wB A w D) : A.a < w.heap.size := h.row.lt
theorem Are.step (h : Are wB A w D) (hb : Below w.heap.size w w') : Are wB A w' D := ⟨h.base, h.onl.step hb, h.dev.step hb, h.s1, h.s8, h.fit⟩
theorem Are.go (h : Are wB A w D) (ho : Onl A.sh.S w w') (hd : Dev w' A.sh D') (hl : D'.C.length = D.C.length) : Are wB A w' D' :=
 ⟨fun u E h1 h2 h3 => h.base u E h1 h2 (h3.trans hl), h.onl.trans ho, hd, h.s1, h.s8, by have := h.fit; have h1 := h.dev.ok.cells; have h2 := hd.ok.cells; omega⟩
theorem Are.k1 (h : Are wB A w D) : 1 <= A.k := h.cdr.k1
theorem Are.k8 (h : Are wB A w D) : A.k <= 8 := h.cdr.k8
theorem Are.p2 (h : Are wB A w D) : 2 <= A.p := h.cdr.p2
theorem Are.p6 (h : Are wB A w D) : A.p <= 6 := h.cdr.p6
theorem Are.right (h : Are wB A w D) : right (gmN A.k A.p A.s) = true := zht h.k1 h.k8 h.p2 h.p6 h.s1 h.s8
end
theorem zyz {k p s : Nat} (h : right (gmN k p s) = true) : GeoMath.all (gmN k p s) = ((3 * ((k + p) * s) + 18 : Nat) : Int) := by
 have hr := (zbl _).1 h
 unfold GeoMath.all
 rw [if_pos h, tal, log, zwk hr]
 show 3 * (((k : Int) + p) * s) + 16 + 2 = _
 push_cast
 omega
end
section
open Go.RowKit FlaMath CrcMath GfMath PolyMath RsMath SolMath GeoMath
theorem zju (c cc b sb k p s : Nat) (sh : Sh) (D : Dv) (w : World) (h : Cdr w c cc b sb k p s) (hd : Dev w sh D) (hs1 : 1 <= s) (hs8 : s <= 8) (hf : 3 * ((k + p) * s) + 18 <= D.L.length) :
  Calls Tryz.prog 65 #[.pointer (some ⟨sh.b, 0, none⟩), .pointer (some ⟨c, 0, none⟩)] w fun e w' => e = .returned (.bool true) ∧ Below w.heap.size w w' := by
 have hr := zht h.k1 h.k8 h.p2 h.p6 hs1 hs8
 have ha := zyz hr
 have HG : Hid (∀ u, Below w.heap.size w u -> Calls Tryz.prog 46 #[.pointer (some ⟨c, 0, none⟩)] u fun e w' => e = .returned (geoV (gmN k p s)) ∧ Below u.heap.size u w') := zh fun u hu => zmy c cc b sb k p s u (h.step hu)
 have HR : Hid (∀ u, Calls Tryz.prog 26 #[geoV (gmN k p s)] u fun e w' => e = .returned (.bool true) ∧ Below u.heap.size u w') := zh fun u => by rw [<- hr]; exact zcm (gmN k p s) u
 have HS : Hid (∀ u, Below w.heap.size w u -> Calls Tryz.prog 54 #[.pointer (some ⟨sh.b, 0, none⟩)] u fun e w' => e = .returned (.int .i64 (D.L.length : Int)) ∧ u = w') := zh fun u hu => zif sh D u (hd.step hu)
 have HA : Hid (∀ u, Calls Tryz.prog 32 #[geoV (gmN k p s)] u fun e w' => e = .returned (.int .i64 ((3 * ((k + p) * s) + 18 : Nat) : Int)) ∧ Below u.heap.size u w') := zh fun u => by rw [<- ha]; exact zyy (gmN k p s) u
 obtain ⟨V, hV⟩ : ∃ V, geoV (gmN k p s) = V := ⟨_, rfl⟩
 obtain ⟨N, hN⟩ : ∃ N, 3 * ((k + p) * s) + 18 = N := ⟨_, rfl⟩
 obtain ⟨M, hM⟩ : ∃ M, D.L.length = M := ⟨_, rfl⟩
 rw [hV] at HG HR HA
 rw [hN] at HA hf
 rw [hM] at HS hf
 have h1 : (N : Int) <= (M : Int) := by omega
 have h2 : decide ((N : Int) <= (M : Int)) = true := decide_eq_true h1
 have h3 : ¬ (M : Int) < (N : Int) := by omega
 clear h hd hs1 hs8 hf hr ha hV hN hM
 go_enter Tryz.func65, Tryz.ntmps65
 go_wp2_with (first
  | (go_at_call 46; (with_reducible refine (HG.out w (zb)).mono ?_); rintro e w1 ⟨rfl, b1⟩; have B1 := zh b1; clear b1)
  | (go_at_call 26; (with_reducible refine (HR.out w1).mono ?_); rintro e w2 ⟨rfl, b2⟩; have B2 := zh (B1.out.next b2); clear b2)
  | (go_at_call 54; (with_reducible refine (HS.out w2 B2.out).mono ?_); rintro e w3 ⟨rfl, rfl⟩)
  | (go_at_call 46; (with_reducible refine (HG.out w2 B2.out).mono ?_); rintro e w4 ⟨rfl, b4⟩; have B4 := zh (B2.out.next b4); clear b4)
  | (go_at_call 32; (with_reducible refine (HA.out w4).mono ?_); rintro e w5 ⟨rfl, b5⟩; have B5 := zh (B4.out.next b5); clear b5))
 go_ret
 exact ⟨rfl, B5.out⟩
theorem zsf (a c d : Nat) (w : World) (hlt : a < w.heap.size) (h0 : w.cell? ⟨a, 0, none⟩ = some (.pointer (some ⟨c, 0, none⟩))) (h1 : w.cell? ⟨a, 1, none⟩ = some (.pointer (some ⟨d, 0, none⟩)))
  (hf : ∀ u, Below w.heap.size w u -> Calls Tryz.prog 65 #[.pointer (some ⟨d, 0, none⟩), .pointer (some ⟨c, 0, none⟩)] u fun e w' => e = .returned (.bool true) ∧ Below u.heap.size u w') :
  Calls Tryz.prog 51 #[.pointer (some ⟨a, 0, none⟩)] w fun e w' => e = .returned (.bool false) ∧ Below w.heap.size w w' := by
 have HLT := zh hlt
 have C0 := zh h0
 have C1 := zh h1
 have HF := zh hf
 clear hlt h0 h1 hf
 go_enter Tryz.func51, Tryz.ntmps51
 go_wp2
 refine zak [(0, 3), (1, 4), (2, 5), (3, 6), (4, 7), (5, 8), (6, 9), (7, 10), (8, 11), (9, 12), (10, 13), (11, 14), (12, 15), (13, 16), (14, 2)]
  (fun ii => [Is (.pointer (some ⟨a, 0, none⟩)), Is (.bool false), Is (.bool false), Is (.pointer (some ⟨a, 0, none⟩)), Is (.pointer (some ⟨a, 0, none⟩)), Is (.pointer (some ⟨a, 1, none⟩)), Is (.pointer (some ⟨d, 0, none⟩)), Is (.pointer (some ⟨a, 0, none⟩)), Is (.pointer (some ⟨a, 0, none⟩)), Is (.pointer (some ⟨a, 0, none⟩)), Is (.pointer (some ⟨c, 0, none⟩)), Is (.bool true), Is (.bool false), Is (.bool false), Is (.bool false)].getD ii (Is undef))
  (fun w' => Below w.heap.size w w') (by kernel_rfl) (by kernel_rfl) (by decide) (by decide) (by kernel_rfl) rfl ?monoq ((zb).drew) ?stepq ?finq
 case monoq =>
  intro i
  match i with
  | 0 | 1 | 2 | 3 | 4 | 5 | 6 | 7 | 8 | 9 | 10 | 11 | 12 | 13 | 14 => exact Is.monot _
  | _ + 15 => exact Is.monot _
 case stepq =>
  refine zf ⟨?qs0, zf ⟨?qs1, zf ⟨?qs2, zf ⟨?qs3, zf ⟨?qs4, zf ⟨?qs5, zf ⟨?qs6, zf ⟨?qs7, zf ⟨?qs8, zf ⟨?qs9, zf ⟨?qs10, zf ⟨?qs11, zf ⟨?qs12, zf ⟨?qs13, zf ⟨?qs14, List.forall_mem_nil _⟩⟩⟩⟩⟩⟩⟩⟩⟩⟩⟩⟩⟩⟩⟩
  case qs0 =>
   intro u wx hg hC; clear hC; refine wpOp_step rfl fun K hK => ?_
   simp only [puts, List.foldl]; go_simp; exact zK hK hg
  case qs1 =>
   intro u wx hg hC; have hJ0 := zj hC 0; clear hC; refine wpOp_step rfl fun K hK => ?_
   simp only [puts, List.foldl]; go_simp; exact zK hK hg
  case qs2 =>
   intro u wx hg hC; have hJ1 := zj hC 1; clear hC; refine wpOp_step rfl fun K hK => ?_
   simp only [puts, List.foldl]; go_simp; exact zK hK hg
  case qs3 | qs7 =>
   intro u wx hg hC; have hJ2 := zj hC 2; clear hC; generalize hA : puts [(0, 3), (1, 4), (2, 5), (3, 6), (4, 7), (5, 8), (6, 9), (7, 10), (8, 11), (9, 12), (10, 13), (11, 14), (12, 15), (13, 16), (14, 2)] _ u = A
   refine zgA hA rfl 2 5 false rfl rfl hJ2 (fun K hK => ?_)
   subst hA; simp only [puts, List.foldl]; go_simp; exact zK hK hg
  case qs4 =>
   intro u wx hg hC; have hJ2 := zj hC 2; have hJ3 := zj hC 3; clear hC; generalize hA : puts [(0, 3), (1, 4), (2, 5), (3, 6), (4, 7), (5, 8), (6, 9), (7, 10), (8, 11), (9, 12), (10, 13), (11, 14), (12, 15), (13, 16), (14, 2)] _ u = A
   refine zgA hA rfl 2 5 false rfl rfl hJ2 (fun K hK => ?_)
   subst hA; simp only [puts, List.foldl]; go_simp; exact zK hK hg
  case qs5 =>
   intro u wx hg hC; have hJ2 := zj hC 2; have hJ4 := zj hC 4; clear hC; generalize hA : puts [(0, 3), (1, 4), (2, 5), (3, 6), (4, 7), (5, 8), (6, 9), (7, 10), (8, 11), (9, 12), (10, 13), (11, 14), (12, 15), (13, 16), (14, 2)] _ u = A
   refine zgA hA rfl 2 5 false rfl rfl hJ2 (fun K hK => ?_)
   subst hA; simp only [puts, List.foldl]; go_simp; exact zK hK hg
  case qs6 =>
   intro u wx hg hC; have hJ2 := zj hC 2; have hJ5 := zj hC 5; clear hC
   have hcl : wx.cell? ⟨a, 1, none⟩ = some (.pointer (some ⟨d, 0, none⟩)) := (hg.cell (p := ⟨a, 1, none⟩) HLT.out).trans C1.out
   generalize hA : puts [(0, 3), (1, 4), (2, 5), (3, 6), (4, 7), (5, 8), (6, 9), (7, 10), (8, 11), (9, 12), (10, 13), (11, 14), (12, 15), (13, 16), (14, 2)] _ u = A
   refine zgA hA rfl 2 5 false rfl rfl hJ2 (fun K hK => ?_)
   subst hA; simp only [puts, List.foldl]; go_simp; exact zK hK hg
  case qs8 =>
   intro u wx hg hC; have hJ2 := zj hC 2; have hJ7 := zj hC 7; clear hC; generalize hA : puts [(0, 3), (1, 4), (2, 5), (3, 6), (4, 7), (5, 8), (6, 9), (7, 10), (8, 11), (9, 12), (10, 13), (11, 14), (12, 15), (13, 16), (14, 2)] _ u = A
   refine zgA hA rfl 2 5 false rfl rfl hJ2 (fun K hK => ?_)
   subst hA; simp only [puts, List.foldl]; go_simp; exact zK hK hg
  case qs9 =>
   intro u wx hg hC; have hJ2 := zj hC 2; have hJ8 := zj hC 8; clear hC; generalize hA : puts [(0, 3), (1, 4), (2, 5), (3, 6), (4, 7), (5, 8), (6, 9), (7, 10), (8, 11), (9, 12), (10, 13), (11, 14), (12, 15), (13, 16), (14, 2)] _ u = A
   refine zgA hA rfl 2 5 false rfl rfl hJ2 (fun K hK => ?_)
   subst hA; simp only [puts, List.foldl]; go_simp; exact zK hK hg
  case qs10 =>
   intro u wx hg hC; have hJ2 := zj hC 2; have hJ9 := zj hC 9; clear hC
   have hcl : wx.cell? ⟨a, 0, none⟩ = some (.pointer (some ⟨c, 0, none⟩)) := (hg.cell (p := ⟨a, 0, none⟩) HLT.out).trans C0.out
   generalize hA : puts [(0, 3), (1, 4), (2, 5), (3, 6), (4, 7), (5, 8), (6, 9), (7, 10), (8, 11), (9, 12), (10, 13), (11, 14), (12, 15), (13, 16), (14, 2)] _ u = A
   refine zgA hA rfl 2 5 false rfl rfl hJ2 (fun K hK => ?_)
   subst hA; simp only [puts, List.foldl]; go_simp; exact zK hK hg
  case qs11 =>
   intro u wx hg hC; have hJ2 := zj hC 2; have hJ6 := zj hC 6; have hJ10 := zj hC 10; clear hC; generalize hA : puts [(0, 3), (1, 4), (2, 5), (3, 6), (4, 7), (5, 8), (6, 9), (7, 10), (8, 11), (9, 12), (10, 13), (11, 14), (12, 15), (13, 16), (14, 2)] _ u = A
   refine zgA hA rfl 2 5 false rfl rfl hJ2 (fun K hK => ?_)
   subst hA; simp only [puts, List.foldl]; go_simp
   refine (HF.out wx hg).mono ?_
   rintro e w' ⟨rfl, hb'⟩
   exact hK _ _ ⟨rfl, rfl, hg.next hb', hb'⟩
  case qs12 =>
   intro u wx hg hC; have hJ2 := zj hC 2; have hJ11 := zj hC 11; clear hC; generalize hA : puts [(0, 3), (1, 4), (2, 5), (3, 6), (4, 7), (5, 8), (6, 9), (7, 10), (8, 11), (9, 12), (10, 13), (11, 14), (12, 15), (13, 16), (14, 2)] _ u = A
   refine zgA hA rfl 2 5 false rfl rfl hJ2 (fun K hK => ?_)
   subst hA; simp only [puts, List.foldl]; go_simp; exact zK hK hg
  case qs13 =>
   intro u wx hg hC; have hJ2 := zj hC 2; have hJ12 := zj hC 12; clear hC; refine wpOp_step rfl fun K hK => ?_
   simp only [puts, List.foldl]; go_simp; exact zK hK hg
  case qs14 =>
   intro u wx hg hC; have hJ13 := zj hC 13; clear hC; refine wpOp_step rfl fun K hK => ?_
   simp only [puts, List.foldl]; go_simp; exact zK hK hg
 case finq =>
  intro u wq hbq hφ
  have e2 : u 14 = .bool false := hφ (14, 2) (by decide)
  clear hφ
  simp only [puts, List.foldl]
  go_simp
  have HBQ := zh hbq
  clear hbq e2
  go_wp2
  go_ret
  exact ⟨rfl, HBQ.out⟩
theorem Are.nn {wB w : World} {A : ArD} {D : Dv} (h : Are wB A w D) : Calls Tryz.prog 51 #[.pointer (some ⟨A.a, 0, none⟩)] w fun e w' => e = .returned (.bool false) ∧ Below w.heap.size w w' :=
 zsf A.a A.c A.sh.b w h.lt h.a0 h.a1 fun u hu => zju A.c A.cc A.b A.sb A.k A.p A.s A.sh D u (h.step hu).cdr (h.step hu).dev h.s1 h.s8 h.fit
theorem zti (c cc b sb k p s : Nat) (sh : Sh) (D : Dv) (w : World) (h : Cdr w c cc b sb k p s) (hd : Dev w sh D) (hb : ∀ x ∈ D.C, x = 255) (hs1 : 1 <= s) (hs8 : s <= 8) (hf : 3 * ((k + p) * s) + 18 <= D.L.length) :
  Calls Tryz.prog 34 #[.pointer (some ⟨sh.b, 0, none⟩), .pointer (some ⟨c, 0, none⟩)] w fun e w' => (∃ a, e = .returned (.tuple #[.pointer (some ⟨a, 0, none⟩), .int .i64 0]) ∧ Are w' ⟨a, c, cc, b, sb, k, p, s, sh⟩ w' D) ∧ Below w.heap.size w w' := by
 have HF := zh (zju c cc b sb k p s sh D w h hd hs1 hs8 hf)
 have HA : Hid (∀ (a : Nat) (u : World), Below w.heap.size w u -> Row u a 87 [.pointer (some ⟨c, 0, none⟩), .pointer (some ⟨sh.b, 0, none⟩)] -> Are u ⟨a, c, cc, b, sb, k, p, s, sh⟩ u D) := zh fun a u hu hr =>
  ⟨fun w' D' ho hd' hl => ⟨zblm (h.step hu) (hd.step hu) hb ho hd' hl, hr.onl ho (hr.offDev (hd.step hu) (by decide) (by decide) (by decide) (by decide))⟩, Onl.refl _ _, hd.step hu, hs1, hs8, hf⟩
 clear h hd hb hs1 hs8 hf
 go_enter Tryz.func34, Tryz.ntmps34
 go_wp2_with (first
  | (go_at_call 65; (with_reducible refine HF.out.mono ?_); rintro e w1 ⟨rfl, b1⟩; have B1 := zh b1; clear b1)
  | ((with_reducible refine wpBoxK (w := w1) [Value.pointer (some ⟨c, 0, none⟩), .pointer (some ⟨sh.b, 0, none⟩)] 87 ?_ ?_); rfl; intro w2 r2 b2 s2; have R2 := zh r2; have B2 := zh (B1.out.next b2); clear r2 b2 s2))
 go_ret2
 exact ⟨⟨_, rfl, HA.out _ _ B2.out R2.out⟩, B2.out⟩
def pvT (n : Nat) (f : Nat -> Value) (z : Value) (i : Nat) : List Value := (List.range n).map fun j => if j < i then f j else z
theorem zec (n : Nat) (f : Nat -> Value) (z : Value) (i : Nat) : (pvT n f z i).length = n := by simp [pvT]
theorem zvt (n : Nat) (f : Nat -> Value) (z : Value) : List.replicate n z = pvT n f z 0 := by
 refine List.ext_getElem? fun q => ?_
 by_cases h : q < n
 .simp [pvT, h]
 .rw [List.getElem?_eq_none (by simp; omega), List.getElem?_eq_none (by rw [zec]; omega)]
theorem zvr (n : Nat) (f : Nat -> Value) (z : Value) : pvT n f z n = (List.range n).map f := List.map_congr_left fun i hi => if_pos (List.mem_range.1 hi)
theorem zvs (n : Nat) (f : Nat -> Value) (z : Value) (i : Nat) (h : i < n) : (pvT n f z i).set i (f i) = pvT n f z (i + 1) := by
 refine List.ext_getElem? fun q => ?_
 rw [List.getElem?_set]
 by_cases hq : q < n
 .by_cases e : i = q
  .subst e
   rw [if_pos rfl, if_pos (by rw [zec]; exact h)]
   simp [pvT, h]
  .rw [if_neg e]
   simp only [pvT, List.getElem?_map, List.getElem?_range hq, Option.map_some]
   by_cases h1 : q < i
   .rw [if_pos h1, if_pos (by omega)]
   .rw [if_neg h1, if_neg (by omega)]
 .have e1 : (pvT n f z (i + 1))[q]? = none := List.getElem?_eq_none (by rw [zec]; omega)
  rw [e1]
  by_cases e : i = q
  .omega
  .rw [if_neg e]; exact List.getElem?_eq_none (by rw [zec]; omega)
def plV (n s slot t : Nat) (i : Nat) : Value := .int .i64 ((plF n s slot t i : Nat) : Int)
def plL (n s slot t : Nat) : List Value := (List.range n).map (plV n s slot t)
theorem zbmq {n s slot t i : Nat} (h : i < n) : (plL n s slot t)[i]? = some (.int .i64 ((plF n s slot t i : Nat) : Int)) := by simp [plL, plV, h]
theorem zpo : (Tryz.prog.info? 3).map (fun i => (i.zero, i.size)) = some (some (.int .i64 0), 1) := by kernel_rfl
theorem zpp : ((Tryz.prog.info? 3).map fun i => decide (i.bytes <= 4096)) = some true := by kernel_rfl
theorem zzz {k p s slot t i : Nat} (hr : right (gmN k p s) = true) (hs : slot < 3) (ht : t < s) (hi : i < k + p) : sect (gmN k p s) slot t i = ((plF (k + p) s slot t i : Nat) : Int) ∧ sectQ (gmN k p s) slot t i = 0 := by
 have h0 := (zbl _).1 hr
 have hq : sectQ (gmN k p s) slot t i = 0 := (zjn _ _ _ _).2 ⟨h0, by omega, by omega, by omega, by show (t : Int) < (s : Int); omega, by omega, by show (i : Int) < (k : Int) + (p : Int); omega⟩
 refine ⟨?_, hq⟩
 rw [sect, if_pos hq, zwk h0]
 show (slot : Int) * (((k : Int) + p) * s) + i * s + t = _
 unfold plF
 push_cast
 rfl
theorem zbgo {k p s : Nat} {x y z : Int} (hr : right (gmN k p s) = true) (ho : ¬ (0 <= x ∧ x < 3 ∧ 0 <= y ∧ y < (s : Int))) : sectQ (gmN k p s) x y z = 2 := by
 have h0 : sectQ (gmN k p s) x y z ≠ 0 := fun h => by
  have := (zjn _ _ _ _).1 h
  refine ho ⟨this.a0, by have := this.a2; omega, this.b0, this.bs⟩
 unfold sectQ at h0 ⊢
 rcases GeoMath.ask_cases (gmN k p s) [⟨x, 0, 2⟩, ⟨y, 0, (gmN k p s).s - 1⟩, ⟨z, 0, wide (gmN k p s) - 1⟩] with ⟨h1, h2⟩ | ⟨h1, h2, h3⟩ | ⟨h1, h2, h3⟩
 .rw [h1] at hr; cases hr
 .exact h3
 .exact absurd h3 h0
section
variable {wB w : World} {A : ArD} {D : Dv}
theorem Are.geo (h : Are wB A w D) : Calls Tryz.prog 46 #[.pointer (some ⟨A.c, 0, none⟩)] w fun e w' => e = .returned (geoV (gmN A.k A.p A.s)) ∧ Below w.heap.size w w' := zmy _ _ _ _ _ _ _ w h.cdr
theorem Are.wide (h : Are wB A w D) (u : World) : Calls Tryz.prog 17 #[geoV (gmN A.k A.p A.s)] u fun e w' => e = .returned (.int .i64 (A.n : Int)) ∧ Below u.heap.size u w' := by
 have := zjr (gmN A.k A.p A.s) u
 rwa [zey h.right, show (gmN A.k A.p A.s).d + (gmN A.k A.p A.s).p = (A.n : Int) from by show (A.k : Int) + A.p = ((A.k + A.p : Nat) : Int); omega] at this
theorem Are.sector (h : Are wB A w D) {slot t i : Nat} (hs : slot < 3) (ht : t < A.s) (hi : i < A.n) (u : World) : Calls Tryz.prog 66 #[geoV (gmN A.k A.p A.s), .int .i64 (slot : Int), .int .i64 (t : Int), .int .i64 (i : Int)] u fun e w' => e = .returned (.tuple #[.int .i64 ((plF A.n A.s slot t i : Nat) : Int), .int .i64 0]) ∧ Below u.heap.size u w' := by
 have := zox (gmN A.k A.p A.s) slot t i u
 rwa [(zzz h.right hs ht hi).1, (zzz h.right hs ht hi).2] at this
theorem Are.sector_out (h : Are wB A w D) {x y z : Int} (ho : ¬ (0 <= x ∧ x < 3 ∧ 0 <= y ∧ y < (A.s : Int))) (u : World) : Calls Tryz.prog 66 #[geoV (gmN A.k A.p A.s), .int .i64 x, .int .i64 y, .int .i64 z] u fun e w' => e = .returned (.tuple #[.int .i64 (sect (gmN A.k A.p A.s) x y z), .int .i64 2]) ∧ Below u.heap.size u w' := by
 have := zox (gmN A.k A.p A.s) x y z u
 rwa [zbgo h.right ho] at this
end
theorem zhm (wB : World) (A : ArD) (w : World) (D : Dv) (h : Are wB A w D) (slot t : Nat) (hs : slot < 3) (ht : t < A.s) :
  Calls Tryz.prog 35 #[.pointer (some ⟨A.a, 0, none⟩), .int .i64 (slot : Int), .int .i64 (t : Int)] w fun e w' => (∃ g, e = .returned (.tuple #[.slice (some ⟨g, 0, none⟩) A.n A.n, .int .i64 0]) ∧ w.heap.size <= g ∧ Row w' g 3 (plL A.n A.s slot t)) ∧ Below w.heap.size w w' := by
 have HN := zh h.nn
 have HG : Hid (∀ u, Below w.heap.size w u -> Calls Tryz.prog 46 #[.pointer (some ⟨A.c, 0, none⟩)] u fun e w' => e = .returned (geoV (gmN A.k A.p A.s)) ∧ Below u.heap.size u w') := zh fun u hu => (h.step hu).geo
 have HW := zh h.wide
 have HS : Hid (∀ i, i < A.n -> ∀ u, Calls Tryz.prog 66 #[geoV (gmN A.k A.p A.s), .int .i64 (slot : Int), .int .i64 (t : Int), .int .i64 (i : Int)] u fun e w' => e = .returned (.tuple #[.int .i64 ((plF A.n A.s slot t i : Nat) : Int), .int .i64 0]) ∧ Below u.heap.size u w') := zh fun i hi u => h.sector hs ht hi u
 have HA0 : Hid (∀ u, Below w.heap.size w u -> u.cell? ⟨A.a, 0, none⟩ = some (.pointer (some ⟨A.c, 0, none⟩))) := zh fun u hu => (h.step hu).a0
 have HAL : Hid (A.a < w.heap.size) := zh h.lt
 have HIS := zh zpo
 have HIS2 := zh zpp
 have HZC : Hid ((Value.int .i64 0).cells = #[.int .i64 0]) := zh rfl
 have hn14 : A.n <= 14 := by have := h.k8; have := h.p6; unfold ArD.n; omega
 obtain ⟨V, hV⟩ : ∃ V, geoV (gmN A.k A.p A.s) = V := ⟨_, rfl⟩
 rw [hV] at HG HW HS
 obtain ⟨n, hn⟩ : ∃ n, A.n = n := ⟨_, rfl⟩
 rw [hn] at HW HS hn14 ⊢
 have HNM : Hid (n <= 1000000) := zh (by omega)
 have hni : (n : Int) <= 14 := by omega
 have HP : Hid (List.replicate n (.int .i64 0) = pvT n (plV n A.s slot t) (.int .i64 0) 0) := zh (zvt _ _ _)
 have HF : Hid (pvT n (plV n A.s slot t) (.int .i64 0) n = plL n A.s slot t) := zh (zvr _ _ _)
 have HX : Hid (∀ i, i < n -> (pvT n (plV n A.s slot t) (.int .i64 0) i).set i (.int .i64 ((plF n A.s slot t i : Nat) : Int)) = pvT n (plV n A.s slot t) (.int .i64 0) (i + 1)) := zh fun i hi => zvs n (plV n A.s slot t) _ i hi
 have HLN : Hid (∀ i, (pvT n (plV n A.s slot t) (.int .i64 0) i).length = n) := zh fun i => zec _ _ _ _
 obtain ⟨a, ha⟩ : ∃ a, A.a = a := ⟨_, rfl⟩
 obtain ⟨c, hc⟩ : ∃ c, A.c = c := ⟨_, rfl⟩
 obtain ⟨s, hss⟩ : ∃ s, A.s = s := ⟨_, rfl⟩
 rw [ha] at HN HA0 HAL ⊢
 rw [hc] at HG HA0
 rw [hss] at HS HP HF HX HLN ⊢
 clear h hs ht hV hn hn14 ha hc hss
 go_enter Tryz.func35, Tryz.ntmps35
 go_wp2_with (first
  | (go_at_call 51; (with_reducible refine HN.out.mono ?_); rintro e w1 ⟨rfl, b1⟩; have c1 := HA0.out w1 b1; have B1 := zh b1; clear b1)
  | (go_at_call 46; (with_reducible refine (HG.out w1 B1.out).mono ?_); rintro e w2 ⟨rfl, b2⟩; have B2 := zh (B1.out.next b2); clear b2)
  | (go_at_call 17; (with_reducible refine (HW.out w2).mono ?_); rintro e w3 ⟨rfl, b3⟩; have B3 := zh (B2.out.next b3); clear b3)
  | ((with_reducible refine wpMake1 47 3 (.int .i64 0) n Tryz.underlying47 HIS.out HZC.out HIS2.out HNM.out ?_ ?_); rfl; intro w4 r4 b4 s4; rw [HP.out] at r4; have R4 := zh r4; have B4 := zh (B3.out.next b4); clear r4 b4 s4))
 have HGS : Hid (w.heap.size <= w3.heap.size) := zh B3.out.size
 obtain ⟨g, hg⟩ : ∃ g, w3.heap.size = g := ⟨_, rfl⟩
 rw [hg] at R4 HGS ⊢
 clear hg B1 B2 B3 HN
 go_loopw [23] (fun x wr => ∃ i : Nat, i <= n ∧ x = .int .i64 i ∧ Row wr g 3 (pvT n (plV n s slot t) (.int .i64 0) i) ∧ Below w.heap.size w wr) (fun x _ => n - (intOf x).toNat)
 case atStart => exact ⟨0, Nat.zero_le _, rfl, R4.out, B4.out⟩
 case round =>
  clear R4 B4
  obtain ⟨i, hi, rfl, hrr, hbw⟩ := hrel
  by_cases hlt : i < n
  .have hii : (i : Int) < (n : Int) := by omega
   have HSI := zh (HS.out i hlt); have HXI := zh (HX.out i hlt)
   have HLI : Hid (i < (pvT n (plV n s slot t) (.int .i64 0) i).length) := zh (by rw [HLN.out]; exact hlt)
   have cr := HA0.out wr hbw; have HR := zh hrr; have HBW := zh hbw; obtain ⟨q, hq⟩ : ∃ q, ((plF n s slot t i : Nat) : Int) = q := ⟨_, rfl⟩; rw [hq] at HSI HXI; clear hrr hbw hlt hq
   go_wp2_with (first
    | (go_at_call 46; (with_reducible refine (HG.out wr HBW.out).mono ?_); rintro e u1 ⟨rfl, b1⟩; have B1 := zh (HBW.out.next b1); have R1 := zh (HR.out.step b1); clear b1)
    | (go_at_call 66; (with_reducible refine (HSI.out u1).mono ?_); rintro e u2 ⟨rfl, b2⟩; have B2 := zh (B1.out.next b2); have R2 := zh (R1.out.step b2); clear b2)
    | ((with_reducible refine R2.out.wpStore1K i 3 (.int .i64 q) zdj HLI.out (zce _ _) (zcx _ _) ?_ ?_); rfl; intro u3 r3 o3 s3; rw [HXI.out] at r3; have R3 := zh r3; have B3 := zh (B2.out.trans (o3.below HGS.out B2.out.size)); clear r3 o3 s3))
   go_roundw
   case rel => exact ⟨i + 1, by omega, by go_num, R3.out, B3.out⟩
   case measure => simp [intOf]; omega
  .obtain rfl : i = n := by omega
   rw [HF.out] at hrr; have HR := zh hrr; have HBW := zh hbw; clear hrr hbw hlt hi; go_wp2; go_ret2; exact ⟨⟨g, rfl, HGS.out, HR.out⟩, HBW.out⟩
def askL (L : List Int) : Bool := L.all fun x => decide (0 <= x ∧ x < 3)
theorem ztg (wB : World) (A : ArD) (w : World) (D : Dv) (h : Are wB A w D) (la : Option Addr) (m cap : Nat) (L : List Int) (hm : L.length = m) (hm2 : m <= 1000) (hr : Lies w w.heap.size la (ints L)) :
  Calls Tryz.prog 78 #[.pointer (some ⟨A.a, 0, none⟩), .slice la m cap] w fun e w' => e = .returned (.int .i64 (if askL L = true then 0 else 2)) ∧ Below w.heap.size w w' := by
 have HN := zh h.nn
 have HG : Hid (∀ u, Below w.heap.size w u -> Calls Tryz.prog 46 #[.pointer (some ⟨A.c, 0, none⟩)] u fun e w' => e = .returned (geoV (gmN A.k A.p A.s)) ∧ Below u.heap.size u w') := zh fun u hu => (h.step hu).geo
 have HS : Hid (∀ (u : World) (x : Int), ∃ q, Calls Tryz.prog 66 #[geoV (gmN A.k A.p A.s), .int .i64 x, .int .i64 0, .int .i64 0] u fun e w' => e = .returned (.tuple #[.int .i64 q, .int .i64 (if 0 <= x ∧ x < 3 then 0 else 2)]) ∧ Below u.heap.size u w') := zh fun u x => by
  have hs1 := h.s1
  by_cases hx : 0 <= x ∧ x < 3
  .obtain ⟨j, rfl⟩ : ∃ j : Nat, x = j := ⟨x.toNat, by omega⟩
   rw [if_pos hx]; exact ⟨_, h.sector (t := 0) (i := 0) (by omega) (by omega) (by have := h.k1; unfold ArD.n; omega) u⟩
  .rw [if_neg hx]
   exact ⟨_, h.sector_out (fun hh => hx ⟨hh.1, hh.2.1⟩) u⟩
 have HA0 : Hid (∀ u, Below w.heap.size w u -> u.cell? ⟨A.a, 0, none⟩ = some (.pointer (some ⟨A.c, 0, none⟩))) := zh fun u hu => (h.step hu).a0
 obtain ⟨V, hV⟩ : ∃ V, geoV (gmN A.k A.p A.s) = V := ⟨_, rfl⟩
 rw [hV] at HG HS
 have HML := zh hm
 have HR := zh hr
 have hmi : (m : Int) <= 1000 := by omega
 obtain ⟨a, ha⟩ : ∃ a, A.a = a := ⟨_, rfl⟩
 obtain ⟨c, hc⟩ : ∃ c, A.c = c := ⟨_, rfl⟩
 rw [ha] at HN HA0 ⊢
 rw [hc] at HG HA0
 obtain ⟨ra, hra⟩ : ∃ r : Int, (if askL L = true then 0 else 2) = r := ⟨_, rfl⟩
 rw [hra]
 have HRA := zh hra
 clear h hm hm2 hr hV ha hc hra
 go_enter Tryz.func78, Tryz.ntmps78
 go_wp2_with (first
  | (go_at_call 51; (with_reducible refine HN.out.mono ?_); rintro e w1 ⟨rfl, b1⟩; have B1 := zh b1; clear b1))
 go_loopw [13] (fun x wr => ∃ i : Nat, i <= m ∧ x = .int .i64 i ∧ (∀ j (hj : j < L.length), j < i -> 0 <= L[j] ∧ L[j] < 3) ∧ Below w.heap.size w wr) (fun x _ => m - (intOf x).toNat)
 case atStart => exact ⟨0, Nat.zero_le _, rfl, fun j _ hj => by omega, B1.out⟩
 case round =>
  clear B1
  obtain ⟨i, hi, rfl, hall, hbw⟩ := hrel
  by_cases hlt : i < m
  .have hii : (i : Int) < (m : Int) := by omega
   have hil : i < L.length := by rw [HML.out]; exact hlt
   obtain ⟨bl, off, rfl, hbl, hce⟩ := HR.out (by rw [zbp]; omega)
   have hc := (hbw.cell (p := ⟨bl, off + i, none⟩) hbl).trans (hce i _ (zet L i hil)); obtain ⟨x, hx⟩ : ∃ x, L[i] = x := ⟨_, rfl⟩; rw [hx] at hc; have cr := HA0.out wr hbw
   have cr2 : ∀ u, Below wr.heap.size wr u -> u.cell? ⟨a, 0, none⟩ = some (.pointer (some ⟨c, 0, none⟩)) := fun u hu => HA0.out u (hbw.next hu)
   have HBW := zh hbw; have HALL := zh hall; have HXX := zh hx; clear hall hbw hce hbl
   by_cases hin : 0 <= x ∧ x < 3
   .have HS2 : Hid (∀ u, ∃ q, Calls Tryz.prog 66 #[V, .int .i64 x, .int .i64 0, .int .i64 0] u fun e w' => e = .returned (.tuple #[.int .i64 q, .int .i64 0]) ∧ Below u.heap.size u w') := zh fun u => by
     have := HS.out u x; rwa [if_pos hin] at this
    have HN2 : Hid (∀ j (hj : j < L.length), j < i + 1 -> 0 <= L[j] ∧ L[j] < 3) := zh fun j hj hj2 => by
     by_cases e : j = i
     .subst e; rw [hx]; exact hin
     .exact HALL.out j hj (by omega)
    clear hin hx HXX hlt
    go_wp2_with (first
     | (go_at_call 46; (with_reducible refine (HG.out wr HBW.out).mono ?_); rintro e u1 ⟨rfl, b1⟩; have B1 := zh (HBW.out.next b1); clear b1)
     | (go_at_call 66; obtain ⟨q, hq⟩ := HS2.out u1; (with_reducible refine hq.mono ?_); clear hq; rintro e u2 ⟨rfl, b2⟩; have B2 := zh (B1.out.next b2); clear b2))
    go_roundw
    case rel => exact ⟨i + 1, by omega, by go_num, HN2.out, B2.out⟩
    case measure => simp [intOf]; omega
   .have HS2 : Hid (∀ u, ∃ q, Calls Tryz.prog 66 #[V, .int .i64 x, .int .i64 0, .int .i64 0] u fun e w' => e = .returned (.tuple #[.int .i64 q, .int .i64 2]) ∧ Below u.heap.size u w') := zh fun u => by
     have := HS.out u x; rwa [if_neg hin] at this
    have HN2 : Hid ((if askL L = true then (0 : Int) else 2) = 2) := zh (if_neg fun hh => hin (by
     have := List.all_eq_true.1 hh L[i] (List.getElem_mem hil)
     rw [hx] at this; exact of_decide_eq_true this))
    clear hin hx HXX hlt
    go_wp2_with (first
     | (go_at_call 46; (with_reducible refine (HG.out wr HBW.out).mono ?_); rintro e u1 ⟨rfl, b1⟩; have B1 := zh (HBW.out.next b1); clear b1)
     | (go_at_call 66; obtain ⟨q, hq⟩ := HS2.out u1; (with_reducible refine hq.mono ?_); clear hq; rintro e u2 ⟨rfl, b2⟩; have B2 := zh (B1.out.next b2); clear b2))
    go_ret; exact ⟨congrArg (fun z => Ending.returned (.int .i64 z)) (HN2.out.symm.trans HRA.out), B2.out⟩
  .obtain rfl : i = m := by omega
   have HN2 : Hid ((if askL L = true then (0 : Int) else 2) = 0) := zh (if_pos (by
    unfold askL
    rw [List.all_eq_true]; intro y hy; obtain ⟨j, hj, rfl⟩ := List.mem_iff_getElem.1 hy; exact decide_eq_true (hall j hj (by have := HML.out; omega))))
   have HBW := zh hbw; clear hall hbw hlt hi; go_wp2; go_ret; exact ⟨congrArg (fun z => Ending.returned (.int .i64 z)) (HN2.out.symm.trans HRA.out), HBW.out⟩
end
section
open Go.RowKit FlaMath CrcMath GfMath PolyMath RsMath SolMath GeoMath
theorem zbmx {o : List Fop} {D : Dv} {w : World} {sh : Sh} (h : D.Ok) (hd : Dev w sh (runD o D)) : (runD o D).C.length = D.C.length := by
 have h1 := hd.ok.cells
 have h2 := h.cells
 rw [zbby] at h1
 omega
theorem zbaj (sh : Sh) (D : Dv) (n : Nat) (w : World) (h : Dev w sh D) : Calls Tryz.prog 49 #[.pointer (some ⟨sh.b, 0, none⟩), .int .i64 (n : Int)] w fun e w' => e = .returned (.int .i64 (runE (eraF n) D)) ∧ Dev w' sh (runD (eraF n) D) ∧ Onl sh.S w w' := by
 unfold eraF
 rw [zhf, zhe]
 exact zsl sh D n w h
theorem ztl (sh : Sh) (D : Dv) (n j : Nat) (X : List UInt8) (Z : ByteArray) (w : World) (h : Dev w sh D) (hn : n <= 1000) (hj : j < 4) (hZ : Z = str ((X.drop (j * 16)).take 16)) :
  Calls Tryz.prog 75 #[.pointer (some ⟨sh.b, 0, none⟩), .int .i64 ((n * 64 + j * 16 : Nat) : Int), .string Z] w fun e w' => e = .returned (.int .i64 (runE (pageF n X j) D)) ∧ Dev w' sh (runD (pageF n X j) D) ∧ Onl sh.S w w' := by
 unfold pageF
 rw [zhf, zhe]
 have hz : Z.data.toList = (X.drop (j * 16)).take 16 := by rw [hZ, zcc]
 have hs : Z.size <= 16 := by rw [hZ, zbc, List.length_take]; omega
 have := zyd sh D ((n * 64 + j * 16 : Nat) : Int) Z w h (by omega) (by omega)
 rwa [hz] at this
theorem zfs (L : List UInt8) (a b : Nat) : (str L).extract a b = str ((L.drop a).take (b - a)) := by
 have h : ((str L).extract a b).data.toList = (L.drop a).take (b - a) := by
  rw [ByteArray.data_extract, Array.toList_extract, List.extract_eq_take_drop, zcc]
 rw [<- h, zfy]
theorem zth (wB : World) (A : ArD) (w : World) (D : Dv) (h : Are wB A w D) (n : Nat) (hn : n <= 1000) (S : ByteArray) (hS : S.size = 64) :
  Calls Tryz.prog 39 #[.pointer (some ⟨A.a, 0, none⟩), .int .i64 (n : Int), .string S] w fun e w' => e = .returned (.int .i64 (runE (layF n S.data.toList) D)) ∧ Are wB A w' (runD (layF n S.data.toList) D) ∧ Onl A.sh.S w w' := by
 have HAR := zh h
 have HAT : Hid (∀ o w', Dev w' A.sh (runD o D) -> Onl A.sh.S w w' -> Are wB A w' (runD o D)) := zh fun o w' h1 h2 => h.go h2 h1 (zbmx h.dev.ok h1)
 have a1 := h.a1
 have HLT0 : Hid (A.a < w.heap.size) := zh h.lt
 have HSZ : Hid (S.size = 64) := zh hS
 obtain ⟨X, hX⟩ : ∃ X, S.data.toList = X := ⟨_, rfl⟩
 have hSX : S = str X := by rw [<- hX]; exact (zfy S).symm
 have hXl : X.length = 64 := by rw [<- hX, zai]; exact hS
 rw [hX]
 obtain ⟨a, ha⟩ : ∃ a, A.a = a := ⟨_, rfl⟩
 obtain ⟨d, hd⟩ : ∃ d, A.sh.b = d := ⟨_, rfl⟩
 have HER : Hid (Calls Tryz.prog 49 #[.pointer (some ⟨d, 0, none⟩), .int .i64 (n : Int)] w fun e w' => e = .returned (.int .i64 (runE (eraF n) D)) ∧ Dev w' A.sh (runD (eraF n) D) ∧ Onl A.sh.S w w') := zh (by rw [<- hd]; exact zbaj A.sh D n w h.dev)
 have HPG : Hid (∀ (u : World) (D' : Dv) (j : Nat) (Z : ByteArray), Dev u A.sh D' -> j < 4 -> Z = str ((X.drop (j * 16)).take 16) -> Calls Tryz.prog 75 #[.pointer (some ⟨d, 0, none⟩), .int .i64 ((n * 64 + j * 16 : Nat) : Int), .string Z] u fun e w' => e = .returned (.int .i64 (runE (pageF n X j) D')) ∧ Dev w' A.sh (runD (pageF n X j) D') ∧ Onl A.sh.S u w') := zh fun u D' j Z h1 h2 h3 => by
  rw [<- hd]; exact ztl A.sh D' n j X Z u h1 hn h2 h3
 have HC1 : Hid (∀ o w', Dev w' A.sh (runD o D) -> Onl A.sh.S w w' -> w'.cell? ⟨a, 1, none⟩ = some (.pointer (some ⟨d, 0, none⟩)) ∧ a < w'.heap.size) := zh fun o w' h1 h2 => by
  have h3 := HAT.out o w' h1 h2
  have h4 := h3.a1
  have h5 := h3.lt
  rw [ha] at h4 h5
  rw [hd] at h4
  exact ⟨h4, h5⟩
 obtain ⟨m, hm⟩ : ∃ m, n * 64 = m := ⟨_, rfl⟩
 have HW1 : Hid (IntKind.i64.wrap ((n : Int) * 64) = (m : Int)) := zh (by rw [IntKind.wrap_i64]; omega)
 have HW1b : Hid ((n : Int) * 64 = (m : Int)) := zh (by omega)
 have HM := zh hm
 have HMB : Hid (m <= 64000) := zh (by omega)
 have HSX := zh hSX
 have HXL := zh hXl
 rw [ha, hd] at a1
 rw [ha]
 rw [ha] at HLT0
 obtain ⟨F, hF⟩ : ∃ F, runE (layF n X) D = F := ⟨_, rfl⟩
 have HFIN : Hid (∀ o (E : Int), runE (layF n X) D = E ∧ runD (layF n X) D = runD o D -> ∀ w', Dev w' A.sh (runD o D) -> Onl A.sh.S w w' -> Ending.returned (.int .i64 E) = .returned (.int .i64 (runE (layF n X) D)) ∧ Are wB A w' (runD (layF n X) D) ∧ Onl A.sh.S w w') := zh fun o E h1 w' h2 h3 => by
  rw [h1.1, h1.2]
  exact ⟨rfl, HAT.out o w' h2 h3, h3⟩
 obtain ⟨E0, hE0⟩ : ∃ E, runE (eraF n) D = E := ⟨_, rfl⟩
 have HE0 := zh hE0
 rw [hE0] at HER
 clear h hS hX hSX hXl ha hd hm hF hE0 HAR hn
 go_enter Tryz.func39, Tryz.ntmps39
 cases hez : decide (E0 = 0)
 .have hne : ¬ E0 = 0 := of_decide_eq_false hez
  have hn1 : (E0 != 0) = true := bne_iff_ne.2 hne
  have hn2 : (E0 == 0) = false := beq_eq_false_iff_ne.2 hne
  have HST : Hid (runE (layF n X) D = E0 ∧ runD (layF n X) D = runD (eraF n) D) := zh (by
   have := zno (a := []) (b := eraF n) (D := D) (seqF 4 (pageF n X)) rfl (by show runE (eraF n) D ≠ 0; rw [HE0.out]; exact hne)
   exact ⟨this.1.trans HE0.out, this.2⟩)
  clear hez hne
  go_wp2_with (go_at_call 49; (with_reducible refine HER.out.mono ?_); rintro e w1 ⟨rfl, d1, o1⟩; have D1 := zh d1; have O1 := zh o1; clear d1 o1)
  go_ret
  exact HFIN.out _ _ HST.out w1 D1.out O1.out
 have hne : E0 = 0 := of_decide_eq_true hez
 have HE1 : Hid (runE (eraF n ++ seqF 0 (pageF n X)) D = 0 ∧ runD (eraF n ++ seqF 0 (pageF n X)) D = runD (eraF n) D) := zh (by
  rw [zry, List.append_nil]; exact ⟨HE0.out.trans hne, rfl⟩)
 rw [hne] at HER
 clear hez hne HE0
 go_wp2_with (go_at_call 49; (with_reducible refine HER.out.mono ?_); rintro e w1 ⟨rfl, d1, o1⟩; have D1 := zh d1; have O1 := zh o1; clear d1 o1)
 go_loopw [8] (fun x wr => ∃ j : Nat, j <= 4 ∧ x = .int .i64 ((j * 16 : Nat) : Int) ∧ runE (eraF n ++ seqF j (pageF n X)) D = 0 ∧ Dev wr A.sh (runD (eraF n ++ seqF j (pageF n X)) D) ∧ Onl A.sh.S w wr) (fun x _ => 64 - (intOf x).toNat)
 case atStart => exact ⟨0, by omega, rfl, HE1.out.1, HE1.out.2 ▸ D1.out, O1.out⟩
 case round =>
  clear D1 O1 HE1 HER a1
  obtain ⟨j, hj, rfl, hrz, hdv, hon⟩ := hrel
  by_cases hlt : j < 4
  .obtain ⟨q, hq⟩ : ∃ q, j * 16 = q := ⟨_, rfl⟩
   have hcc := HC1.out _ wr hdv hon; have C1 := zh hcc.1; have HLT := zh hcc.2
   have HXY : Hid (S.extract q S.size = str (X.drop q)) := zh (by
    have hl := HXL.out; rw [HSX.out, zbc, zfs X q X.length, List.take_of_length_le (by rw [List.length_drop]; omega)])
   obtain ⟨Y, hY⟩ : ∃ Y, str (X.drop q) = Y := ⟨_, rfl⟩
   have HYZ : Hid (16 <= Y.size) := zh (by have hl := HXL.out; rw [<- hY, zbc, List.length_drop]; omega)
   have HY : Hid (S.extract q S.size = Y) := zh (by rw [HXY.out, hY])
   obtain ⟨Z, hZ⟩ : ∃ Z, str ((X.drop q).take 16) = Z := ⟨_, rfl⟩
   have HZ : Hid (Y.extract 0 16 = Z) := zh (by
    have hl := HXL.out; rw [<- hY, zfs _ 0 16, List.drop_zero, hZ])
   obtain ⟨r, hr⟩ : ∃ r, m + q = r := ⟨_, rfl⟩
   have HW2 : Hid (IntKind.i64.wrap ((m : Int) + (q : Int)) = (r : Int)) := zh (by have := HMB.out; rw [IntKind.wrap_i64]; omega)
   obtain ⟨Dj, hDj⟩ : ∃ D', runD (eraF n ++ seqF j (pageF n X)) D = D' := ⟨_, rfl⟩; obtain ⟨E, hE⟩ : ∃ E, runE (pageF n X j) Dj = E := ⟨_, rfl⟩
   have HPR : Hid (∀ u, Below wr.heap.size wr u -> Calls Tryz.prog 75 #[.pointer (some ⟨d, 0, none⟩), .int .i64 (r : Int), .string Z] u fun e w' => e = .returned (.int .i64 E) ∧ Dev w' A.sh (runD (eraF n ++ seqF j (pageF n X) ++ pageF n X j) D) ∧ Onl A.sh.S w w') := zh fun u hu => by
    have h1 := HPG.out u Dj j Z (by rw [<- hDj]; exact hdv.step hu) hlt (by rw [hq, hZ])
    rw [hq, HM.out, hr] at h1
    refine h1.mono ?_
    rintro e w' ⟨rfl, h2, h3⟩
    refine ⟨by rw [hE], ?_, (hon.step hu).trans h3⟩
    have h4 := (zed (eraF n ++ seqF j (pageF n X)) (pageF n X j) D).2; rw [if_pos hrz, hDj] at h4; rw [h4]; exact h2
   have HST : Hid (¬ E = 0 -> runE (layF n X) D = E ∧ runD (layF n X) D = runD (eraF n ++ seqF j (pageF n X) ++ pageF n X j) D) := zh fun hne => by
    obtain ⟨rr, hrr⟩ := zoz (pageF n X) hlt; have h1 := zno (a := eraF n ++ seqF j (pageF n X)) (b := pageF n X j) (D := D) rr hrz (by rw [hDj, hE]; exact hne)
    have h2 : layF n X = eraF n ++ seqF j (pageF n X) ++ pageF n X j ++ rr := by unfold layF; rw [hrr]; simp
    have h4 := (zed (eraF n ++ seqF j (pageF n X)) (pageF n X j) D).2; rw [if_pos hrz] at h4; rw [h2]; exact ⟨by rw [h1.1, hDj, hE], by rw [h1.2, h4]⟩
   have HGO : Hid (E = 0 -> runE (eraF n ++ seqF (j + 1) (pageF n X)) D = 0 ∧ runD (eraF n ++ seqF j (pageF n X) ++ pageF n X j) D = runD (eraF n ++ seqF (j + 1) (pageF n X)) D) := zh fun he => by
    have h1 := zwe (a := eraF n ++ seqF j (pageF n X)) (b := pageF n X j) (D := D) hrz (by rw [hDj, hE]; exact he)
    rw [zhu, <- List.append_assoc]; exact ⟨h1.1, rfl⟩
   have HQ1 : Hid (Value.int .i64 ((q : Int) + 16) = .int .i64 (((j + 1) * 16 : Nat) : Int)) := zh (congrArg (Value.int .i64) (by omega))
   have hq64 : (q : Int) < 64 := by omega
   have hq16 : q + 16 <= 64 := by omega
   rw [hq]; clear hrz hdv hon hcc hY hZ hr hDj hE HXY; go_wp2
   refine zdr 12 [(0, 23), (1, 24), (2, 25), (3, 26), (4, 27), (5, 28), (6, 29), (7, 30), (8, 31), (9, 32), (10, 33), (11, 34)]
    (fun ii => [Is (.pointer (some ⟨a, 0, none⟩)), Is (.pointer (some ⟨a, 0, none⟩)), Is (.pointer (some ⟨a, 1, none⟩)), Is (.pointer (some ⟨d, 0, none⟩)), Is (.int .i64 (n : Int)), Is (.int .i64 (m : Int)), Is (.int .i64 (q : Int)), Is (.int .i64 (r : Int)), Is (.string S), Is (.int .i64 (q : Int)), Is (.string Y), Is (.string Z)].getD ii (Is undef))
    (fun w' => Below wr.heap.size wr w') (by kernel_rfl) (by decide) (by kernel_rfl) (by kernel_rfl) (by kernel_rfl) (by decide) (by decide) (by kernel_rfl) rfl ?monoq ((zb).drew) ?stepq ?finq
   case monoq =>
    intro i
    match i with
    | 0 | 1 | 2 | 3 | 4 | 5 | 6 | 7 | 8 | 9 | 10 | 11 => exact Is.monot _
    | _ + 12 => exact Is.monot _
   case stepq =>
    refine zf ⟨?qs0, zf ⟨?qs1, zf ⟨?qs2, zf ⟨?qs3, zf ⟨?qs4, zf ⟨?qs5, zf ⟨?qs6, zf ⟨?qs7, zf ⟨?qs8, zf ⟨?qs9, zf ⟨?qs10, zf ⟨?qs11, List.forall_mem_nil _⟩⟩⟩⟩⟩⟩⟩⟩⟩⟩⟩⟩
    case qs0 | qs4 | qs6 | qs8 | qs9 =>
     intro u wx hg hC; clear hC; refine wpOp_step rfl fun K hK => ?_
     simp only [puts, List.foldl]; go_simp; exact zK hK hg
    case qs1 =>
     intro u wx hg hC; have hJ0 := zj hC 0; clear hC; refine wpOp_step rfl fun K hK => ?_
     simp only [puts, List.foldl]; go_simp; exact zK hK hg
    case qs2 =>
     intro u wx hg hC; have hJ1 := zj hC 1; clear hC; refine wpOp_step rfl fun K hK => ?_
     simp only [puts, List.foldl]; go_simp; exact zK hK hg
    case qs3 =>
     intro u wx hg hC; have hJ2 := zj hC 2; clear hC
     have hcl : wx.cell? ⟨a, 1, none⟩ = some (.pointer (some ⟨d, 0, none⟩)) := (hg.cell (p := ⟨a, 1, none⟩) HLT.out).trans C1.out
     refine wpOp_step rfl fun K hK => ?_
     simp only [puts, List.foldl]; go_simp; exact zK hK hg
    case qs5 =>
     intro u wx hg hC; have hJ4 := zj hC 4; clear hC
     have hw : IntKind.i64.wrap ((n : Int) * 64) = (m : Int) := HW1.out
     refine wpOp_step rfl fun K hK => ?_
     simp only [puts, List.foldl]; go_simp; exact zK hK hg
    case qs7 =>
     intro u wx hg hC; have hJ5 := zj hC 5; have hJ6 := zj hC 6; clear hC
     have hw : IntKind.i64.wrap ((m : Int) + (q : Int)) = (r : Int) := HW2.out
     refine wpOp_step rfl fun K hK => ?_
     simp only [puts, List.foldl]; go_simp; exact zK hK hg
    case qs10 =>
     intro u wx hg hC; have hJ8 := zj hC 8; have hJ9 := zj hC 9; clear hC
     have hy : S.extract q S.size = Y := HY.out
     have h1 : (q : Int) <= (S.size : Int) := by have hs := HSZ.out; omega
     have h2 : q <= S.size := by have hs := HSZ.out; omega
     refine wpOp_step rfl fun K hK => ?_
     simp only [puts, List.foldl]; go_simp; exact zK hK hg
    case qs11 =>
     intro u wx hg hC; have hJ10 := zj hC 10; clear hC
     have hz : Y.extract 0 16 = Z := HZ.out
     have h1 : (16 : Int) <= (Y.size : Int) := by have hs := HYZ.out; omega
     have h2 : 16 <= Y.size := HYZ.out
     refine wpOp_step rfl fun K hK => ?_
     simp only [puts, List.foldl]; go_simp; exact zK hK hg
   case finq =>
    intro u w4 hb4 hφ
    have e26 : u 3 = .pointer (some ⟨d, 0, none⟩) := hφ (3, 26) (by decide)
    have e30 : u 7 = .int .i64 (r : Int) := hφ (7, 30) (by decide)
    have e34 : u 11 = .string Z := hφ (11, 34) (by decide)
    clear hφ; simp only [puts, List.foldl]; rw [e26, e30, e34]; go_simp; have HB4 := zh hb4; clear hb4 e26 e30 e34
    cases hez : decide (E = 0)
    .have hne : ¬ E = 0 := of_decide_eq_false hez
     have hn1 : (E != 0) = true := bne_iff_ne.2 hne
     have hn2 : (E == 0) = false := beq_eq_false_iff_ne.2 hne
     have HSTOP := zh (HST.out hne); clear hez hne
     go_wp2_with (go_at_call 75; (with_reducible refine (HPR.out w4 HB4.out).mono ?_); rintro e w5 ⟨rfl, d5, o5⟩; have D5 := zh d5; have O5 := zh o5; clear d5 o5)
     go_ret; exact HFIN.out _ _ HSTOP.out w5 D5.out O5.out
    .have hne : E = 0 := of_decide_eq_true hez
     have HGO0 := zh (HGO.out hne); rw [hne] at HPR; clear hez hne
     go_wp2_with (go_at_call 75; (with_reducible refine (HPR.out w4 HB4.out).mono ?_); rintro e w5 ⟨rfl, d5, o5⟩; have D5 := zh d5; have O5 := zh o5; clear d5 o5)
     go_roundw
     case rel => exact ⟨j + 1, by omega, HQ1.out, HGO0.out.1, HGO0.out.2 ▸ D5.out, O5.out⟩
     case measure => simp [intOf]; omega
  .obtain rfl : j = 4 := by omega
   have HST : Hid (runE (layF n X) D = 0 ∧ runD (layF n X) D = runD (eraF n ++ seqF 4 (pageF n X)) D) := zh ⟨hrz, rfl⟩
   have D5 := zh hdv; have O5 := zh hon; clear hrz hdv hon hlt; go_wp2; go_ret; exact HFIN.out _ _ HST.out wr D5.out O5.out
def opsN (o : Int) : Nat -> Int
 | 0 => o
 | m + 1 => wrap64 (opsN o m + 1)
def opsD (D : Dv) (m : Nat) : Dv := { D with ops := opsN D.ops m }
theorem zvh (o : Int) (m : Nat) : ∀ j, opsN (opsN o m) j = opsN o (m + j)
 | 0 => rfl
 | j + 1 => by show wrap64 (opsN (opsN o m) j + 1) = wrap64 (opsN o (m + j) + 1); rw [zvh o m j]
theorem zbjn (D : Dv) (m j : Nat) : opsD (opsD D m) j = opsD D (m + j) := by
 unfold opsD
 rw [zvh]
theorem Up.ops {D : Dv} (h : Up D) (m : Nat) : Up (opsD D m) := ⟨h.dn, h.lit, ⟨h.ok.one, h.ok.top, h.ok.cells, h.ok.worn⟩⟩
theorem zhx {w w' : World} {base s : Nat} {S : List Nat} {e : TypeId} {v : Value} {n : Nat} {xs : List Value} (h : w.ownsRow base e s v n xs) (ho : Onl S w w') (hg : ∀ k ∈ S, k < base) : w'.ownsRow base e s v n xs := by
 refine ⟨h.1, ?_⟩
 rcases h.2 with h | ⟨g', cap, cur, h1, h2, h3, h4⟩
 .exact .inl h
 .exact .inr ⟨g', cap, cur, h1, h2, (ho.2.2.2.2 g' (Array.getElem?_eq_some_iff.1 h3).1 fun hm => by have := hg g' hm; omega).trans h3, h4⟩
theorem OffS.of_row {w : World} {S : List Nat} {g : Nat} {t : TypeId} {l : List Value} (h : Row w g t l) (hg : g ∉ S) : OffS w S (some ⟨g, 0, none⟩) l := fun _ => ⟨g, 0, rfl, h.lt, hg, fun j u hj => by rw [Nat.zero_add, h.cell]; exact hj⟩
def numsV (P : Nat -> Nat) (m : Nat) : List Value := (List.range m).map fun i => .int .i64 ((P i : Nat) : Int)
theorem zbfk {P : Nat -> Nat} {m i : Nat} (h : i < m) : (numsV P m)[i]? = some (.int .i64 ((P i : Nat) : Int)) := by simp [numsV, h]
theorem zvf (P : Nat -> Nat) (m : Nat) : (numsV P m).length = m := by simp [numsV]
def secV (D : Dv) (P : Nat -> Nat) (i : Nat) : Value := .string (str (sec D.C (P i)))
theorem zbep : (Tryz.prog.info? 9).map (·.size) = some 1 := by kernel_rfl
theorem ztm (wB : World) (A : ArD) (w : World) (D : Dv) (h : Are wB A w D) (hu : Up D) (la : Option Addr) (m cap : Nat) (P : Nat -> Nat) (hP : ∀ i, i < m -> P i < D.L.length) (hm : m <= 1000) (hr : OffS w A.sh.S la (numsV P m)) :
  Calls Tryz.prog 36 #[.pointer (some ⟨A.a, 0, none⟩), .slice la m cap] w fun e w' => (∃ g, e = .returned (.tuple #[.slice (some ⟨g, 0, none⟩) m m, .int .i64 0]) ∧ w.heap.size <= g ∧ Row w' g 9 ((List.range m).map (secV D P))) ∧ Are wB A w' (opsD D m) ∧ Onl A.sh.S w w' := by
 have HAT : Hid (∀ w' i, Onl A.sh.S w w' -> Dev w' A.sh (opsD D i) -> Are wB A w' (opsD D i)) := zh fun w' i h1 h2 => h.go h1 h2 rfl
 have HSL : Hid (∀ k ∈ A.sh.S, k < w.heap.size) := zh h.dev.lt
 have HDV := zh h.dev
 have HUP := zh hu
 have HPL := zh hP
 have HRD : Hid (∀ (u : World) (i : Nat) (p : Nat), Dev u A.sh (opsD D i) -> p < D.L.length -> Calls Tryz.prog 67 #[.pointer (some ⟨A.sh.b, 0, none⟩), .int .i64 ((p * 64 : Nat) : Int), .int .i64 64] u fun e w' => e = .returned (.tuple #[.string (str (sec D.C p)), .int .i64 0]) ∧ Dev w' A.sh (opsD D (i + 1)) ∧ Onl A.sh.S u w') := zh fun u i p h1 h2 => by
  have hc := h1.ok.cells
  have hc2 : (opsD D i).L.length = D.L.length := rfl
  have hrm := h1.room
  exact zbbu A.sh (opsD D i) (p * 64) 64 u h1 hu.dn (by omega) (by omega)
 have HTOP : Hid (D.L.length <= 512) := zh hu.ok.top
 have HAC : Hid (∀ w' i, Onl A.sh.S w w' -> Dev w' A.sh (opsD D i) -> w'.cell? ⟨A.a, 1, none⟩ = some (.pointer (some ⟨A.sh.b, 0, none⟩))) := zh fun w' i h1 h2 => (HAT.out w' i h1 h2).a1
 have HIS := zh zut
 have HIS2 := zh zro
 have HZC : Hid ((Value.string ByteArray.empty).cells = #[.string ByteArray.empty]) := zh rfl
 have HPZ : Hid (List.replicate m (.string ByteArray.empty) = pvT m (secV D P) (.string ByteArray.empty) 0) := zh (zvt _ _ _)
 have HPF : Hid (pvT m (secV D P) (.string ByteArray.empty) m = (List.range m).map (secV D P)) := zh (zvr _ _ _)
 have HX : Hid (∀ i, i < m -> (pvT m (secV D P) (.string ByteArray.empty) i).set i (.string (str (sec D.C (P i)))) = pvT m (secV D P) (.string ByteArray.empty) (i + 1)) := zh fun i hi => zvs m (secV D P) _ i hi
 have HLN : Hid (∀ i, (pvT m (secV D P) (.string ByteArray.empty) i).length = m) := zh fun i => zec _ _ _ _
 have HNM : Hid (m <= 1000000) := zh (by omega)
 have hmi : (m : Int) <= 1000 := by omega
 have HR := zh hr
 obtain ⟨a, ha⟩ : ∃ a, A.a = a := ⟨_, rfl⟩
 obtain ⟨d, hd⟩ : ∃ d, A.sh.b = d := ⟨_, rfl⟩
 rw [ha, hd] at HAC
 rw [hd] at HRD
 rw [ha]
 clear h hu hP hm hr ha hd
 go_enter Tryz.func36, Tryz.ntmps36
 go_wp2_with ((with_reducible refine wpMake1 83 9 (.string ByteArray.empty) m Tryz.underlying83 HIS.out HZC.out HIS2.out HNM.out ?_ ?_); rfl; intro w1 r1 b1 s1; rw [HPZ.out] at r1; have R1 := zh r1; have B1 := zh b1; clear r1 b1 s1)
 obtain ⟨g, hg⟩ : ∃ g, w.heap.size = g := ⟨_, rfl⟩
 have HGS : Hid (w.heap.size <= g) := zh (by omega)
 have HGN : Hid (g ∉ A.sh.S) := zh fun hm => by have := HSL.out g hm; omega
 rw [hg] at R1 ⊢
 clear hg
 go_loopw [16] (fun x wr => ∃ i : Nat, i <= m ∧ x = .int .i64 i ∧ Row wr g 9 (pvT m (secV D P) (.string ByteArray.empty) i) ∧ Dev wr A.sh (opsD D i) ∧ Onl A.sh.S w wr) (fun x _ => m - (intOf x).toNat)
 case atStart => exact ⟨0, Nat.zero_le _, rfl, R1.out, HDV.out.step B1.out, Onl.of_below B1.out⟩
 case round =>
  clear R1 B1
  obtain ⟨i, hi, rfl, hrr, hdv, hon⟩ := hrel
  by_cases hlt : i < m
  .have hii : (i : Int) < (m : Int) := by omega
   obtain ⟨bl, off, rfl, hbl, hns, hce⟩ := (HR.out.onl hon) (by rw [zvf]; omega)
   have hc := hce i _ (zbfk hlt); have hpl := HPL.out i hlt; have HXI := zh (HX.out i hlt); obtain ⟨p, hp⟩ : ∃ p, P i = p := ⟨_, rfl⟩; rw [hp] at hc hpl HXI
   have HLI : Hid (i < (pvT m (secV D P) (.string ByteArray.empty) i).length) := zh (by rw [HLN.out]; exact hlt)
   have HRI : Hid (Calls Tryz.prog 67 #[.pointer (some ⟨d, 0, none⟩), .int .i64 ((p * 64 : Nat) : Int), .int .i64 64] wr fun e w' => e = .returned (.tuple #[.string (str (sec D.C p)), .int .i64 0]) ∧ Dev w' A.sh (opsD D (i + 1)) ∧ Onl A.sh.S wr w') := zh (HRD.out wr i p hdv hpl)
   have cr := HAC.out wr i hon hdv; obtain ⟨r, hr⟩ : ∃ r, p * 64 = r := ⟨_, rfl⟩; have ht := HTOP.out
   have hw : wrap64 ((p : Int) * 64) = (r : Int) := by unfold wrap64; omega
   rw [hr] at HRI; obtain ⟨T, hT⟩ : ∃ T, str (sec D.C p) = T := ⟨_, rfl⟩; rw [hT] at HRI HXI; have HRR := zh hrr; have HON := zh hon; clear hrr hdv hon hlt hce hbl hns hp hpl hr hT ht
   go_wp2_with (first
    | (go_at_call 67; (with_reducible refine HRI.out.mono ?_); rintro e u1 ⟨rfl, d1, o1⟩; have D1 := zh d1; have O1 := zh (HON.out.trans o1); have R1 := zh (HRR.out.onl o1 HGN.out); clear d1 o1)
    | ((with_reducible refine R1.out.wpStore1K i 9 (.string T) zbep HLI.out rfl rfl ?_ ?_); rfl; intro u2 r2 o2 s2; rw [HXI.out] at r2; have R2 := zh r2; have O2 := zh (O1.out.only o2 (Or.inr HGS.out)); have D2 := zh (D1.out.onl (S := [g]) (Onl.of_only o2 (by simp)) (fun k hk hq => HGN.out (by simp at hq; rw [<- hq]; exact hk))); clear r2 o2 s2))
   go_roundw
   case rel => exact ⟨i + 1, by omega, by go_num, R2.out, D2.out, O2.out⟩
   case measure => simp [intOf]; omega
  .obtain rfl : i = m := by omega
   rw [HPF.out] at hrr; have HRR := zh hrr; have HF := zh (HAT.out wr i hon hdv); have HON := zh hon; clear hrr hdv hon hlt hi; go_wp2; go_ret2; exact ⟨⟨g, rfl, HGS.out, HRR.out⟩, HF.out, HON.out⟩
theorem Are.only {wB w w' : World} {A : ArD} {D : Dv} {g : Nat} (h : Are wB A w D) (o : Only g w w') (hg : wB.heap.size <= g) (hn : g ∉ A.sh.S) : Are wB A w' D :=
 ⟨h.base, h.onl.only o (Or.inr hg), h.dev.onl (S := [g]) (Onl.of_only o (by simp)) (fun k hk hq => hn (by simp at hq; rw [<- hq]; exact hk)), h.s1, h.s8, h.fit⟩
theorem zbmz (D : Dv) (n s slot t : Nat) : tl ((List.range n).map fun i => str (sec D.C (plF n s slot t i))) = secS (sec D.C) n s slot t := by
 unfold tl secS
 rw [List.map_map]
 exact List.map_congr_left fun i _ => zcc _
theorem zbmy (C : List UInt8) (j : Nat) : (sec C j).length <= 64 := by rw [sec, List.length_take]; omega
theorem zsg (wB : World) (A : ArD) (w : World) (D : Dv) (h : Are wB A w D) (hu : Up D) (slot t : Nat) (hs : slot < 3) (ht : t < A.s) :
  Calls Tryz.prog 11 #[.pointer (some ⟨A.a, 0, none⟩), .int .i64 (slot : Int), .int .i64 (t : Int)] w fun e w' => ReadN w.heap.size A.n A.p (secS (sec D.C) A.n A.s slot t) e w' ∧ Are wB A w' (opsD D A.n) ∧ Onl A.sh.S w w' := by
 have HSL : Hid (∀ k ∈ A.sh.S, k < w.heap.size) := zh h.dev.lt
 have HWB : Hid (wB.heap.size <= w.heap.size) := zh h.onl.size
 have HST : Hid (∀ u, Below w.heap.size w u -> Calls Tryz.prog 35 #[.pointer (some ⟨A.a, 0, none⟩), .int .i64 (slot : Int), .int .i64 (t : Int)] u fun e w' => (∃ g, e = .returned (.tuple #[.slice (some ⟨g, 0, none⟩) A.n A.n, .int .i64 0]) ∧ u.heap.size <= g ∧ Row w' g 3 (plL A.n A.s slot t)) ∧ Below u.heap.size u w') := zh fun u hu => zhm wB A u D (h.step hu) slot t hs ht
 have hpl : ∀ i, i < A.n -> plF A.n A.s slot t i < D.L.length := fun i hi => by have := zsy hs ht hi; have := h.fit; omega
 have hn14 : A.n <= 14 := by have := h.k8; have := h.p6; unfold ArD.n; omega
 have HSE : Hid (∀ u g, Below w.heap.size w u -> w.heap.size <= g -> Row u g 3 (plL A.n A.s slot t) -> Calls Tryz.prog 36 #[.pointer (some ⟨A.a, 0, none⟩), .slice (some ⟨g, 0, none⟩) A.n A.n] u fun e w' => (∃ g2, e = .returned (.tuple #[.slice (some ⟨g2, 0, none⟩) A.n A.n, .int .i64 0]) ∧ u.heap.size <= g2 ∧ Row w' g2 9 ((List.range A.n).map (secV D (plF A.n A.s slot t)))) ∧ Are wB A w' (opsD D A.n) ∧ Onl A.sh.S u w') := zh fun u g hu2 hg hr => by
  refine ztm wB A u D (h.step hu2) hu (some ⟨g, 0, none⟩) A.n A.n (plF A.n A.s slot t) hpl (by omega) (OffS.of_row (t := 3) hr fun hm => by have := HSL.out g hm; omega)
 have HRD : Hid (∀ u g2, Are wB A u (opsD D A.n) -> Row u g2 9 ((List.range A.n).map (secV D (plF A.n A.s slot t))) -> Calls Tryz.prog 37 #[.pointer (some ⟨A.c, 0, none⟩), .slice (some ⟨g2, 0, none⟩) A.n A.n] u fun e w' => ReadN u.heap.size A.n A.p (secS (sec D.C) A.n A.s slot t) e w' ∧ Below u.heap.size u w') := zh fun u g2 h1 h2 => by
  have h3 := zwp A.c A.cc A.b A.sb A.k A.p A.s (some ⟨g2, 0, none⟩) A.n A.n ((List.range A.n).map fun i => str (sec D.C (plF A.n A.s slot t i))) u h1.cdr rfl (by simp) (fun x hx => by
   obtain ⟨i, _, rfl⟩ := List.mem_map.1 hx; rw [zbc]
   have := zbmy D.C (plF A.n A.s slot t i)
   omega) (by
   have h4 := zbj h2; rw [show (List.range A.n).map (secV D (plF A.n A.s slot t)) = strs ((List.range A.n).map fun i => str (sec D.C (plF A.n A.s slot t i))) from by unfold strs; rw [List.map_map]; rfl] at h4
   exact h4)
  rwa [zbmz] at h3
 have HA0 : Hid (∀ u D', Are wB A u D' -> u.cell? ⟨A.a, 0, none⟩ = some (.pointer (some ⟨A.c, 0, none⟩))) := zh fun u D' h1 => h1.a0
 obtain ⟨S, hS⟩ : ∃ S, secS (sec D.C) A.n A.s slot t = S := ⟨_, rfl⟩
 rw [hS] at HRD ⊢
 obtain ⟨n, hn⟩ : ∃ n, A.n = n := ⟨_, rfl⟩
 rw [hn] at HST HSE HRD ⊢
 obtain ⟨p, hp⟩ : ∃ p, A.p = p := ⟨_, rfl⟩
 rw [hp] at HRD ⊢
 obtain ⟨a, ha⟩ : ∃ a, A.a = a := ⟨_, rfl⟩
 rw [ha] at HST HSE HA0 ⊢
 obtain ⟨c, hc⟩ : ∃ c, A.c = c := ⟨_, rfl⟩
 rw [hc] at HRD HA0
 obtain ⟨PV, hPV⟩ : ∃ P, plL n A.s slot t = P := ⟨_, rfl⟩
 rw [hPV] at HST HSE
 obtain ⟨SV, hSV⟩ : ∃ P, (List.range n).map (secV D (plF n A.s slot t)) = P := ⟨_, rfl⟩
 rw [hSV] at HSE HRD
 have HZ := zh ziy
 have HBU := zh zml
 have HL : Hid (nilFound.length = 2) := zh rfl
 have H1 : Hid (nilFound.all (·.oneCell') = true) := zh rfl
 clear h hu hs ht hpl hn14 hS hn hp ha hc hPV hSV
 unfold ReadN at HRD ⊢
 cases hok : okTo n p (seenF S) ((erasedF S n).map fun x : Nat => (x : Int)) 60 with
 | false =>
  rw [hok] at HRD
  generalize nilFound = NF at *
  clear hok
  go_enter Tryz.func11, Tryz.ntmps11
  go_wp2_with (first
   | ((with_reducible refine wpAllocK (w := w) NF 49 HZ.out ?_ ?_); rfl; intro u1 r1 b1 s1; have R1 := zh r1; have B1 := zh b1; have GN : Hid (w.heap.size ∉ A.sh.S) := zh (fun hm => by have := HSL.out _ hm; omega); clear r1 b1 s1)
   | (go_at_call 35; (with_reducible refine (HST.out u1 B1.out).mono ?_); rintro e u2 ⟨⟨g2, rfl, q2, r2⟩, b2⟩; have R2 := zh (R1.out.step b2); have B2 := zh (B1.out.next b2); have W2 := zh r2; have G2 : Hid (w.heap.size <= g2) := zh (Nat.le_trans B1.out.size q2); clear q2 r2 b2)
   | (go_at_call 36; (with_reducible refine (HSE.out u2 g2 B2.out G2.out W2.out).mono ?_); rintro e u3 ⟨⟨g3, rfl, q3, r3⟩, a3, o3⟩; have cA := HA0.out u3 _ a3; have R3 := zh (R2.out.onl o3 GN.out); have O3 := zh ((Onl.of_below B2.out).trans o3); have A3 := zh a3; have W3 := zh r3; clear q3 r3 a3 o3)
   | (go_at_call 37; (with_reducible refine (HRD.out u3 g3 A3.out W3.out).mono ?_); rintro e u4 ⟨h4, b4⟩; rw [if_neg (by simp)] at h4; subst h4; have R4 := zh (R3.out.step b4); have O4 := zh (O3.out.step b4); have A4 := zh (A3.out.step b4); clear b4)
   | ((with_reducible refine R4.out.wpStoreK 49 NF found_fits HL.out HL.out H1.out ?_ ?_); rfl; intro u5 r5 o5 s5; have R5 := zh r5; have O5 := zh (O4.out.only o5 (Or.inr (Nat.le_refl _))); have A5 := zh (A4.out.only o5 HWB.out GN.out); clear r5 o5 s5))
  exact bodyPost_ret (R5.out.resultT (q := 7) rfl _ _ rfl Tryz.underlying49 rfl (by rw [HL.out]; exact found_fits.size)) rfl ⟨rfl, A5.out, O5.out⟩
 | true =>
  have HRB : Hid (∀ w' g vs, Row w' g 40 (bytes (grid n (mdF n p (seenF S) ((erasedF S n).map fun x : Nat => (x : Int))))) -> w.heap.size <= g -> IReads w' vs (unlF n (seenF S) (mdF n p (seenF S) ((erasedF S n).map fun x : Nat => (x : Int))) (erasedF S n)) -> (∀ q, vs.ownBlock = some q -> w.heap.size <= q) ->
   ∃ g' vs', (Ending.returned (.tuple #[.agg [.slice (some ⟨g, 0, none⟩) n n, vs].toArray, .int .i64 0])) = .returned (.tuple #[.agg #[.slice (some ⟨g', 0, none⟩) n n, vs'], .int .i64 0]) ∧ (Row w' g' 40 (bytes (grid n (mdF n p (seenF S) ((erasedF S n).map fun x : Nat => (x : Int))))) ∧ w.heap.size <= g') ∧
   IReads w' vs' (unlF n (seenF S) (mdF n p (seenF S) ((erasedF S n).map fun x : Nat => (x : Int))) (erasedF S n)) ∧ (∀ q, vs'.ownBlock = some q -> w.heap.size <= q)) := zh fun w' g vs h1 h2 h3 h4 => ⟨g, vs, rfl, ⟨h1, h2⟩, h3, h4⟩
  rw [hok] at HRD
  generalize nilFound = NF at *
  generalize mdF n p (seenF S) ((erasedF S n).map fun x : Nat => (x : Int)) = F1 at *
  generalize unlF n (seenF S) F1 (erasedF S n) = U at *
  clear hok
  go_enter Tryz.func11, Tryz.ntmps11
  go_wp2_with (first
   | ((with_reducible refine wpAllocK (w := w) NF 49 HZ.out ?_ ?_); rfl; intro u1 r1 b1 s1; have R1 := zh r1; have B1 := zh b1; have GN : Hid (w.heap.size ∉ A.sh.S) := zh (fun hm => by have := HSL.out _ hm; omega); clear r1 b1 s1)
   | (go_at_call 35; (with_reducible refine (HST.out u1 B1.out).mono ?_); rintro e u2 ⟨⟨g2, rfl, q2, r2⟩, b2⟩; have R2 := zh (R1.out.step b2); have B2 := zh (B1.out.next b2); have W2 := zh r2; have G2 : Hid (w.heap.size <= g2) := zh (Nat.le_trans B1.out.size q2); clear q2 r2 b2)
   | (go_at_call 36; (with_reducible refine (HSE.out u2 g2 B2.out G2.out W2.out).mono ?_); rintro e u3 ⟨⟨g3, rfl, q3, r3⟩, a3, o3⟩; have cA := HA0.out u3 _ a3; have R3 := zh (R2.out.onl o3 GN.out); have O3 := zh ((Onl.of_below B2.out).trans o3); have A3 := zh a3; have W3 := zh r3; clear q3 r3 a3 o3)
   | (go_at_call 37; (with_reducible refine (HRD.out u3 g3 A3.out W3.out).mono ?_); rintro e u4 ⟨h4, b4⟩; rw [if_pos trivial] at h4; (obtain ⟨g4, v4, rfl, ⟨r4, q4⟩, ⟨a6, c6, rfl, k6, l6⟩, n6⟩ := h4; have R4 := zh (R3.out.step b4); have O4 := zh (O3.out.step b4); have A4 := zh (A3.out.step b4); have M4 := zh r4; have NE4 : Hid (g4 ≠ w.heap.size) := zh (by have := R3.out.lt; omega); have G4 : Hid (w.heap.size <= g4) := zh (Nat.le_trans O3.out.size q4); have K6 := zh k6; have L6 := zh l6; have N6 : Hid (∀ q, (Value.slice a6 U.length c6).ownBlock = some q -> w.heap.size <= q ∧ q ≠ w.heap.size) := zh (fun q hq => by have h1 := n6 q hq; have h2 := R3.out.lt; omega); clear r4 q4 k6 l6 n6 b4))
   | ((with_reducible refine R4.out.wpStoreK 49 [.slice (some ⟨g4, 0, none⟩) n n, .slice a6 U.length c6] found_fits HL.out rfl rfl ?_ ?_); rfl; intro u5 r5 o5 s5; have R5 := zh r5; have P5 := zh o5; have O5 := zh (O4.out.only o5 (Or.inr (Nat.le_refl _))); have A5 := zh (A4.out.only o5 HWB.out GN.out); clear r5 o5 s5))
  have M5 := zh (M4.out.only P5.out NE4.out)
  have HI : Hid (IReads u5 (.slice a6 U.length c6) U) := zh ⟨a6, c6, rfl, K6.out, L6.out.onlyNe P5.out (fun x hx h0 he => by
   subst hx; exact (N6.out x.block (by cases x; rfl)).2 he)⟩
  exact bodyPost_ret (R5.out.resultT (q := 7) rfl _ _ rfl Tryz.underlying49 rfl found_fits.size) rfl ⟨HRB.out _ _ _ M5.out G4.out HI.out (fun q hq => (N6.out q hq).1), A5.out, O5.out⟩
theorem zbed {f : Fb} {k p i : Nat} (h : i < k + p) : (strs (encF f k p))[i]? = some (.string (secF f k p i)) := by
 unfold strs
 rw [List.getElem?_map, zbhw f k p i h]; rfl
theorem zpv (wB : World) (A : ArD) (w : World) (D : Dv) (h : Are wB A w D) (slot t : Nat) (hs : slot < 3) (ht : t < A.s) (la : Option Addr) (cap : Nat) (f : Fb) (hr : Lies w w.heap.size la (bytes (grid A.k f))) :
  Calls Tryz.prog 12 #[.pointer (some ⟨A.a, 0, none⟩), .int .i64 (slot : Int), .int .i64 (t : Int), .slice la A.k cap] w fun e w' => e = .returned (.int .i64 (runE (writeF A.n A.s slot t (wrS A.k A.p f)) D)) ∧ Are wB A w' (runD (writeF A.n A.s slot t (wrS A.k A.p f)) D) ∧ Onl A.sh.S w w' := by
 have HS := zh (zhm wB A w D h slot t hs ht)
 have HE : Hid (∀ u, Below w.heap.size w u -> Calls Tryz.prog 38 #[.pointer (some ⟨A.c, 0, none⟩), .slice la A.k cap] u fun e w' => (∃ g, e = .returned (.tuple #[.slice (some ⟨g, 0, none⟩) A.n A.n, .int .i64 0]) ∧ u.heap.size <= g ∧ Row w' g 9 (strs (encF f A.k A.p))) ∧ Below u.heap.size u w') := zh fun u hu => zqu A.c A.cc A.b A.sb A.k A.p A.s la cap f u (h.step hu).cdr ((hr.below hu).mono hu.size)
 have HA0 : Hid (∀ u, Below w.heap.size w u -> u.cell? ⟨A.a, 0, none⟩ = some (.pointer (some ⟨A.c, 0, none⟩))) := zh fun u hu => (h.step hu).a0
 have HAR : Hid (∀ u, Below w.heap.size w u -> Are wB A u D) := zh fun u hu => h.step hu
 have HSL : Hid (∀ k ∈ A.sh.S, k < w.heap.size) := zh h.dev.lt
 have hpl : ∀ i, i < A.n -> plF A.n A.s slot t i <= 1000 := fun i hi => by have := zsy hs ht hi; have := h.fit; have := h.dev.ok.top; omega
 have HLAY : Hid (∀ u D' i, Are wB A u D' -> i < A.n -> Calls Tryz.prog 39 #[.pointer (some ⟨A.a, 0, none⟩), .int .i64 ((plF A.n A.s slot t i : Nat) : Int), .string (secF f A.k A.p i)] u fun e w' => e = .returned (.int .i64 (runE (layF (plF A.n A.s slot t i) (wrS A.k A.p f i)) D')) ∧ Are wB A w' (runD (layF (plF A.n A.s slot t i) (wrS A.k A.p f i)) D') ∧ Onl A.sh.S u w') := zh fun u D' i h1 hi => by
  have h2 := zth wB A u D' h1 (plF A.n A.s slot t i) (hpl i hi) (secF f A.k A.p i) (zbgn f A.k A.p i)
  rwa [show (secF f A.k A.p i).data.toList = wrS A.k A.p f i from zcc _] at h2
 have HES : Hid (∀ i, i < A.n -> (strs (encF f A.k A.p))[i]? = some (.string (secF f A.k A.p i))) := zh fun i hi => zbed hi
 have HPG : Hid (∀ i, i < A.n -> (plL A.n A.s slot t)[i]? = some (.int .i64 ((plF A.n A.s slot t i : Nat) : Int))) := zh fun i hi => zbmq hi
 have hn14 : A.n <= 14 := by have := h.k8; have := h.p6; unfold ArD.n; omega
 obtain ⟨G, hG⟩ : ∃ G : Nat -> List Fop, (fun i => layF (plF A.n A.s slot t i) (wrS A.k A.p f i)) = G := ⟨_, rfl⟩
 have HGG : Hid (∀ i, layF (plF A.n A.s slot t i) (wrS A.k A.p f i) = G i) := zh fun i => congrFun hG i
 have HWF : Hid (writeF A.n A.s slot t (wrS A.k A.p f) = seqF A.n G) := zh (by rw [<- hG]; rfl)
 rw [HWF.out]
 simp only [HGG.out] at HLAY
 obtain ⟨SF, hSF⟩ : ∃ SF, (fun i => secF f A.k A.p i) = SF := ⟨_, rfl⟩
 have HSF : Hid (∀ i, secF f A.k A.p i = SF i) := zh fun i => congrFun hSF i
 obtain ⟨SV, hSV⟩ : ∃ V, strs (encF f A.k A.p) = V := ⟨_, rfl⟩
 obtain ⟨PV, hPV⟩ : ∃ V, plL A.n A.s slot t = V := ⟨_, rfl⟩
 obtain ⟨PF, hPF⟩ : ∃ V, plF A.n A.s slot t = V := ⟨_, rfl⟩
 simp only [HSF.out, hPF] at HLAY HES HPG
 rw [hPV] at HS HPG
 rw [hSV] at HE HES
 obtain ⟨n, hn⟩ : ∃ n, A.n = n := ⟨_, rfl⟩
 rw [hn] at HS HE HLAY HES HPG hn14 ⊢
 obtain ⟨k, hk⟩ : ∃ k, A.k = k := ⟨_, rfl⟩
 rw [hk] at HE ⊢
 obtain ⟨a, ha⟩ : ∃ a, A.a = a := ⟨_, rfl⟩
 obtain ⟨c, hc⟩ : ∃ c, A.c = c := ⟨_, rfl⟩
 rw [ha] at HS HA0 HLAY ⊢
 rw [hc] at HE HA0
 have hni : (n : Int) <= 14 := by omega
 clear h hs ht hr hpl hn14 hG HGG HWF hSF HSF hSV hPV hPF hn hk ha hc
 go_enter Tryz.func12, Tryz.ntmps12
 go_wp2_with (first
  | (go_at_call 35; (with_reducible refine HS.out.mono ?_); rintro e w1 ⟨⟨g1, rfl, q1, r1⟩, b1⟩; have c1 := HA0.out w1 b1; have B1 := zh b1; have R1 := zh r1; have N1 : Hid (g1 ∉ A.sh.S) := zh (fun hm => by have := HSL.out _ hm; omega); clear b1 q1 r1)
  | (go_at_call 38; (with_reducible refine (HE.out w1 B1.out).mono ?_); rintro e w2 ⟨⟨g2, rfl, q2, r2⟩, b2⟩; have B2 := zh (B1.out.next b2); have R2 := zh (R1.out.step b2); have T2 := zh r2; have N2 : Hid (g2 ∉ A.sh.S) := zh (fun hm => by have := HSL.out _ hm; have := B1.out.size; omega); clear b2 q2 r2))
 have HA2 := zh (HAR.out w2 B2.out)
 clear R1
 go_loopw [39] (fun x wr => ∃ i : Nat, i <= n ∧ x = .int .i64 i ∧ runE (seqF i G) D = 0 ∧ Are wB A wr (runD (seqF i G) D) ∧ Onl A.sh.S w2 wr) (fun x _ => n - (intOf x).toNat)
 case atStart => exact ⟨0, Nat.zero_le _, rfl, rfl, HA2.out, Onl.refl _ _⟩
 case round =>
  obtain ⟨i, hi, rfl, hrz, hav, hon⟩ := hrel
  by_cases hlt : i < n
  .have hii : (i : Int) < (n : Int) := by omega
   have k1 : wr.cell? ⟨g1, i, none⟩ = some (.int .i64 ((PF i : Nat) : Int)) := ((R2.out.onl hon N1.out).cell i).trans (HPG.out i hlt)
   have k2 : wr.cell? ⟨g2, i, none⟩ = some (.string (SF i)) := ((T2.out.onl hon N2.out).cell i).trans (HES.out i hlt)
   have HLI := zh (HLAY.out wr _ i hav hlt); obtain ⟨E, hE⟩ : ∃ E, runE (G i) (runD (seqF i G) D) = E := ⟨_, rfl⟩
   have HST : Hid (¬ E = 0 -> runE (seqF n G) D = E ∧ runD (seqF n G) D = runD (G i) (runD (seqF i G) D)) := zh fun hne => by
    have h1 := zwf (f := G) hlt hrz (by rw [hE]; exact hne)
    exact ⟨h1.1.trans hE, h1.2⟩
   have HGO : Hid (E = 0 -> runE (seqF (i + 1) G) D = 0 ∧ runD (seqF (i + 1) G) D = runD (G i) (runD (seqF i G) D)) := zh fun he => zpa (n := n) hrz (by rw [hE]; exact he)
   rw [hE] at HLI; obtain ⟨DI, hDI⟩ : ∃ D', runD (G i) (runD (seqF i G) D) = D' := ⟨_, rfl⟩; rw [hDI] at HLI HST HGO; obtain ⟨q, hq⟩ : ∃ q, ((PF i : Nat) : Int) = q := ⟨_, rfl⟩; rw [hq] at k1 HLI; obtain ⟨T, hT⟩ : ∃ T, SF i = T := ⟨_, rfl⟩; rw [hT] at k2 HLI; have HON := zh hon; clear hrz hav hon hlt hE hDI hq hT
   cases hez : decide (E = 0)
   .have hne : ¬ E = 0 := of_decide_eq_false hez
    have hn1 : (E != 0) = true := bne_iff_ne.2 hne
    have hn2 : (E == 0) = false := beq_eq_false_iff_ne.2 hne
    have HSTOP := zh (HST.out hne); clear hez hne HGO HST
    go_wp2_with (go_at_call 39; (with_reducible refine HLI.out.mono ?_); rintro e u1 ⟨rfl, a1, o1⟩; have A1 := zh a1; have O1 := zh (HON.out.trans o1); clear a1 o1)
    go_ret; rw [HSTOP.out.1, HSTOP.out.2]; exact ⟨rfl, A1.out, (Onl.of_below B2.out).trans O1.out⟩
   .have hne : E = 0 := of_decide_eq_true hez
    have HGO1 := zh (HGO.out hne); rw [hne] at HLI; clear hez hne HGO HST
    go_wp2_with (go_at_call 39; (with_reducible refine HLI.out.mono ?_); rintro e u1 ⟨rfl, a1, o1⟩; have A1 := zh a1; have O1 := zh (HON.out.trans o1); clear a1 o1)
    go_roundw
    case rel => exact ⟨i + 1, by omega, by go_num, HGO1.out.1, HGO1.out.2 ▸ A1.out, O1.out⟩
    case measure => simp [intOf]; omega
  .obtain rfl : i = n := by omega
   have HRZ := zh hrz; have A1 := zh hav; have O1 := zh hon; clear hrz hav hon hlt hi; go_wp2; go_ret; rw [HRZ.out]; exact ⟨rfl, A1.out, (Onl.of_below B2.out).trans O1.out⟩
end
end Go.Proofs.YtojimgbcghiblaaGreatDoor
namespace Go.Proofs.YtojimgbcghiblaaGreatDoor.HeadMath
open NumMath
def vOk (x : Int) : Bool := decide (0 <= x ∧ x <= 65535)
def lOk (n : Int) : Bool := decide (0 <= n ∧ n <= 16777215)
def hOk (a b c n : Int) : Bool := vOk a && vOk b && vOk c && lOk n
def headB (a b c n : Int) (H : List UInt8) : List UInt8 := [84, 82, 73, 80] ++ (be 2 a.toNat ++ be 2 b.toNat ++ be 2 c.toNat) ++ be 4 n.toNat ++ H ++ [0, 0]
theorem zcu (a b c n : Int) (H : List UInt8) (h : H.length = 32) : (headB a b c n H).length = 48 := by
 simp [headB, be_length, h]
theorem zkw {a b c n : Int} (h : hOk a b c n = true) : (0 <= a ∧ a <= 65535) ∧ (0 <= b ∧ b <= 65535) ∧ (0 <= c ∧ c <= 65535) ∧ (0 <= n ∧ n <= 16777215) := by
 simp only [hOk, vOk, lOk, Bool.and_eq_true, decide_eq_true_eq] at h
 exact ⟨h.1.1.1, h.1.1.2, h.1.2, h.2⟩
theorem zon {a b c n : Int} (h : (0 <= a ∧ a <= 65535) ∧ (0 <= b ∧ b <= 65535) ∧ (0 <= c ∧ c <= 65535) ∧ (0 <= n ∧ n <= 16777215)) : hOk a b c n = true := by
 simp only [hOk, vOk, lOk, Bool.and_eq_true, decide_eq_true_eq]
 exact ⟨⟨⟨h.1, h.2.1⟩, h.2.2.1⟩, h.2.2.2⟩
theorem zaw {a b c n : Int} (h : ¬ ((0 <= a ∧ a <= 65535) ∧ (0 <= b ∧ b <= 65535) ∧ (0 <= c ∧ c <= 65535) ∧ (0 <= n ∧ n <= 16777215))) : hOk a b c n = false := by
 cases hh : hOk a b c n with
 | false => rfl
 | true => exact absurd (zkw hh) h
def rA (L : List UInt8) : Int := (val ((L.drop 4).take 2) : Int)
def rB (L : List UInt8) : Int := (val ((L.drop 6).take 2) : Int)
def rC (L : List UInt8) : Int := (val ((L.drop 8).take 2) : Int)
def rN (L : List UInt8) : Int := (val ((L.drop 10).take 4) : Int)
def rH (L : List UInt8) : List UInt8 := (L.drop 14).take 32
theorem zru (L : List UInt8) (h : 48 <= L.length) : (rH L).length = 32 := by rw [rH, List.length_take, List.length_drop]; omega
theorem zrm (a b c n : Int) (H M : List UInt8) (h : hOk a b c n = true) (hH : H.length = 32) :
  rA (headB a b c n H ++ M) = a ∧ rB (headB a b c n H ++ M) = b ∧ rC (headB a b c n H ++ M) = c ∧ rN (headB a b c n H ++ M) = n ∧ rH (headB a b c n H ++ M) = H ∧ (headB a b c n H ++ M).take 48 = headB a b c n H := by
 obtain ⟨h1, h2, h3, h4⟩ := zkw h
 obtain ⟨A, hA⟩ : ∃ X, be 2 a.toNat = X := ⟨_, rfl⟩
 obtain ⟨B, hB⟩ : ∃ X, be 2 b.toNat = X := ⟨_, rfl⟩
 obtain ⟨C, hC⟩ : ∃ X, be 2 c.toNat = X := ⟨_, rfl⟩
 obtain ⟨D, hD⟩ : ∃ X, be 4 n.toNat = X := ⟨_, rfl⟩
 have lA : A.length = 2 := by rw [<- hA, be_length]
 have lB : B.length = 2 := by rw [<- hB, be_length]
 have lC : C.length = 2 := by rw [<- hC, be_length]
 have lD : D.length = 4 := by rw [<- hD, be_length]
 have e : headB a b c n H = 84 :: 82 :: 73 :: 80 :: (A ++ (B ++ (C ++ (D ++ (H ++ [0, 0]))))) := by
  simp [headB, hA, hB, hC, hD]
 have vA : (val A : Int) = a := by rw [<- hA, zpf _ _ (by omega)]; omega
 have vB : (val B : Int) = b := by rw [<- hB, zpf _ _ (by omega)]; omega
 have vC : (val C : Int) = c := by rw [<- hC, zpf _ _ (by omega)]; omega
 have vD : (val D : Int) = n := by rw [<- hD, zpf _ _ (by omega)]; omega
 have hl := zcu a b c n H hH
 refine ⟨?_, ?_, ?_, ?_, ?_, ?_⟩
 .rw [rA, e, <- vA]
  congr 2
  simp only [List.cons_append, List.drop_succ_cons, List.drop_zero, List.append_assoc]
  exact List.take_left' lA
 .rw [rB, e, <- vB]
  congr 2
  simp only [List.cons_append, List.drop_succ_cons, List.append_assoc]
  rw [List.drop_left' lA]
  exact List.take_left' lB
 .rw [rC, e, <- vC]
  congr 2
  simp only [List.cons_append, List.drop_succ_cons, List.append_assoc]
  rw [<- List.append_assoc A, List.drop_left' (by simp [lA, lB])]
  exact List.take_left' lC
 .rw [rN, e, <- vD]
  congr 2
  simp only [List.cons_append, List.drop_succ_cons, List.append_assoc]
  rw [<- List.append_assoc A, <- List.append_assoc (A ++ B), List.drop_left' (by simp [lA, lB, lC])]
  exact List.take_left' lD
 .rw [rH, e]
  simp only [List.cons_append, List.drop_succ_cons, List.append_assoc]
  rw [<- List.append_assoc A, <- List.append_assoc (A ++ B), <- List.append_assoc (A ++ B ++ C), List.drop_left' (by simp [lA, lB, lC, lD])]
  exact List.take_left' hH
 .exact List.take_left' hl
def isH (L : List UInt8) : Bool := hOk (rA L) (rB L) (rC L) (rN L) && decide (headB (rA L) (rB L) (rC L) (rN L) (rH L) = L.take 48)
theorem zbiu (a b c n : Int) (H M : List UInt8) (h : hOk a b c n = true) (hH : H.length = 32) : isH (headB a b c n H ++ M) = true := by
 obtain ⟨h1, h2, h3, h4, h5, h6⟩ := zrm a b c n H M h hH
 simp only [isH, h1, h2, h3, h4, h5, h6, h, decide_true, Bool.and_true]
end Go.Proofs.YtojimgbcghiblaaGreatDoor.HeadMath
namespace Go.Proofs.YtojimgbcghiblaaGreatDoor.ShaMath
abbrev W := BitVec 32
def rr (x : W) (n : Nat) : W := (x >>> n) ||| (x <<< (32 - n))
def bs1 (e : W) : W := rr e 6 ^^^ rr e 11 ^^^ rr e 25
def bs0 (a : W) : W := rr a 2 ^^^ rr a 13 ^^^ rr a 22
def ss0 (x : W) : W := rr x 7 ^^^ rr x 18 ^^^ x >>> 3
def ss1 (x : W) : W := rr x 17 ^^^ rr x 19 ^^^ x >>> 10
def ch (e f g : W) : W := (e &&& f) ^^^ (~~~e &&& g)
def maj (a b c : W) : W := (a &&& b) ^^^ (a &&& c) ^^^ (b &&& c)
def trn (l : List W) (kw : W) : List W :=
 match l with
 | [a, b, c, d, e, f, g, h] => [h + bs1 e + ch e f g + kw + (bs0 a + maj a b c), a, b, c, d + (h + bs1 e + ch e f g + kw), e, f, g]
 | l => l
def first : List W := [0x6a09e667#32, 0xbb67ae85#32, 0x3c6ef372#32, 0xa54ff53a#32, 0x510e527f#32, 0x9b05688c#32, 0x1f83d9ab#32, 0x5be0cd19#32]
def roots : List W := [
 0x428a2f98#32, 0x71374491#32, 0xb5c0fbcf#32, 0xe9b5dba5#32, 0x3956c25b#32, 0x59f111f1#32, 0x923f82a4#32, 0xab1c5ed5#32,
 0xd807aa98#32, 0x12835b01#32, 0x243185be#32, 0x550c7dc3#32, 0x72be5d74#32, 0x80deb1fe#32, 0x9bdc06a7#32, 0xc19bf174#32,
 0xe49b69c1#32, 0xefbe4786#32, 0x0fc19dc6#32, 0x240ca1cc#32, 0x2de92c6f#32, 0x4a7484aa#32, 0x5cb0a9dc#32, 0x76f988da#32,
 0x983e5152#32, 0xa831c66d#32, 0xb00327c8#32, 0xbf597fc7#32, 0xc6e00bf3#32, 0xd5a79147#32, 0x06ca6351#32, 0x14292967#32,
 0x27b70a85#32, 0x2e1b2138#32, 0x4d2c6dfc#32, 0x53380d13#32, 0x650a7354#32, 0x766a0abb#32, 0x81c2c92e#32, 0x92722c85#32,
 0xa2bfe8a1#32, 0xa81a664b#32, 0xc24b8b70#32, 0xc76c51a3#32, 0xd192e819#32, 0xd6990624#32, 0xf40e3585#32, 0x106aa070#32,
 0x19a4c116#32, 0x1e376c08#32, 0x2748774c#32, 0x34b0bcb5#32, 0x391c0cb3#32, 0x4ed8aa4a#32, 0x5b9cca4f#32, 0x682e6ff3#32,
 0x748f82ee#32, 0x78a5636f#32, 0x84c87814#32, 0x8cc70208#32, 0x90befffa#32, 0xa4506ceb#32, 0xbef9a3f7#32, 0xc67178f2#32]
theorem zhc : roots.length = 64 := rfl
def ex (b : UInt8) : W := BitVec.ofNat 32 b.toNat
theorem zbib (b : UInt8) : (ex b).toNat = b.toNat := by
 have := b.toNat_lt
 rw [ex, BitVec.toNat_ofNat]
 omega
def word4 (l : List UInt8) : W := l.foldl (fun x c => (x <<< 8) ||| ex c) 0#32
theorem zbck (l : List UInt8) (c : UInt8) : word4 (l ++ [c]) = (word4 l <<< 8) ||| ex c := by simp [word4]
def loaded (b : List UInt8) (i : Nat) : List W := (List.range 64).map fun j => word4 (((b.take i).drop (4 * j)).take 4)
theorem zka (b : List UInt8) (i : Nat) : (loaded b i).length = 64 := by simp [loaded]
theorem zgk (b : List UInt8) (i j : Nat) (h : j < (loaded b i).length) : (loaded b i)[j] = word4 (((b.take i).drop (4 * j)).take 4) := by simp [loaded]
theorem zxw (b : List UInt8) : loaded b 0 = List.replicate 64 0#32 := by
 apply List.ext_getElem
 .simp [loaded]
 .intro j h1 h2
  rw [zgk, List.getElem_replicate, List.take_zero, List.drop_nil, List.take_nil]
  rfl
theorem zxv (b : List UInt8) (i : Nat) (hi : i < b.length) (hq : i / 4 < (loaded b i).length) :
  loaded b (i + 1) = (loaded b i).set (i / 4) (((loaded b i)[i / 4] <<< 8) ||| ex b[i]) := by
 apply List.ext_getElem
 .simp [loaded]
 .intro j h1 h2
  rw [List.getElem_set, zgk, List.take_succ_eq_append_getElem hi]
  by_cases e : i / 4 = j
  .rw [if_pos e]
   subst e; rw [zgk, <- zbck]
   congr 1
   have hl : (b.take i).length = i := by simp; omega
   rw [List.drop_append_of_le_length (by omega), List.take_append]
   have h3 : ((b.take i).drop (4 * (i / 4))).length = i % 4 := by rw [List.length_drop, hl]; omega
   rw [h3]
   congr 1
   rw [List.take_of_length_le]
   simp
   omega
  .rw [if_neg e, zgk]
   congr 1
   have hl : (b.take i).length = i := by simp; omega
   by_cases hlt : 4 * j <= i
   .rw [List.drop_append_of_le_length (by omega), List.take_append_of_le_length]
    rw [List.length_drop, hl]
    omega
   .rw [List.drop_of_length_le (by simp; omega), List.drop_of_length_le (by omega)]
def ext (w : List W) (t : Nat) : W := ss1 (w.getD (t - 2) 0) + w.getD (t - 7) 0 + ss0 (w.getD (t - 15) 0) + w.getD (t - 16) 0
def sch (b : List UInt8) : Nat -> List W
 | 0 => loaded b 64
 | k + 1 => (sch b k).set (16 + k) (ext (sch b k) (16 + k))
theorem zow (b : List UInt8) (k : Nat) : (sch b k).length = 64 := by
 induction k with
 | zero => exact zka _ _
 | succ k ih => rw [sch, List.length_set, ih]
def spr (b : List UInt8) : List W := sch b 48
theorem zpc (b : List UInt8) : (spr b).length = 64 := zow _ _
theorem zpe (l : List W) (kw : W) : (trn l kw).length = l.length := by
 unfold trn
 split <;> rfl
def trns (w l : List W) : Nat -> List W
 | 0 => l
 | k + 1 => trn (trns w l k) (roots.getD k 0 + w.getD k 0)
theorem zih (w l : List W) (k : Nat) : (trns w l k).length = l.length := by
 induction k with
 | zero => rfl
 | succ k ih => rw [trns, zpe, ih]
def addK (l v : List W) (k : Nat) : List W := (List.zipWith (· + ·) l v).take k ++ l.drop k
theorem zhw (l v : List W) (k : Nat) (h : l.length = v.length) : (addK l v k).length = l.length := by
 simp [addK]; omega
theorem zbcs (l v : List W) : addK l v 0 = l := by simp [addK]
theorem zbhg (l v : List W) (k : Nat) (h : l.length = v.length) (hk : k < l.length) : (addK l v k)[k]'(by rw [zhw l v k h]; exact hk) = l[k] := by
 simp only [addK]
 rw [List.getElem_append_right (by simp; omega)]
 rw [List.getElem_drop]
 congr 1
 simp
 omega
theorem zbcr (l v : List W) (k : Nat) (h : l.length = v.length) (hk : k < l.length) : addK l v (k + 1) = (addK l v k).set k (l[k] + v[k]'(by omega)) := by
 simp only [addK]
 have h1 : ((List.zipWith (· + ·) l v).take k).length = k := by simp; omega
 rw [List.take_succ_eq_append_getElem (by simp; omega), List.getElem_zipWith, List.set_append_right _ _ (by omega), h1, Nat.sub_self, List.append_assoc]
 congr 1
 rw [List.drop_eq_getElem_cons hk, List.set_cons_zero]
 rfl
def mixed (l : List W) (b : List UInt8) : List W := addK l (trns (spr b) l 64) 8
theorem zla (l : List W) (b : List UInt8) : (mixed l b).length = l.length := by rw [mixed, zhw _ _ _ (zih _ _ _).symm]
def blk (l : List UInt8) : Nat -> List W
 | 0 => first
 | n + 1 => mixed (blk l n) ((l.drop (64 * n)).take 64)
theorem blk_length (l : List UInt8) (n : Nat) : (blk l n).length = 8 := by
 induction n with
 | zero => rfl
 | succ n ih => rw [blk, zla, ih]
theorem znx (l m : List UInt8) (n : Nat) (h : 64 * n <= l.length) : blk (l ++ m) n = blk l n := by
 induction n with
 | zero => rfl
 | succ n ih =>
  rw [blk, blk, ih (by omega), List.drop_append_of_le_length (by omega), List.take_append_of_le_length (by rw [List.length_drop]; omega)]
def eightB (n : Nat) : List UInt8 := (List.range 8).map fun i => UInt8.ofNat (n / 256 ^ (7 - i) % 256)
theorem zjw (n : Nat) : (eightB n).length = 8 := by simp [eightB]
def tailL (n : Nat) : List UInt8 := 128 :: (List.replicate ((119 - n % 64) % 64) 0 ++ eightB (8 * n))
theorem zww (n : Nat) : (tailL n).length = 9 + (119 - n % 64) % 64 := by simp [tailL, zjw]; omega
def padL (l : List UInt8) : List UInt8 := l ++ tailL l.length
def hashB (h : List W) : List UInt8 := (List.range 32).map fun i => UInt8.ofNat ((h.getD (i / 4) 0 >>> (24 - 8 * (i % 4))).toNat % 256)
theorem zkx (h : List W) : (hashB h).length = 32 := by simp [hashB]
def sha (l : List UInt8) : List UInt8 := hashB (blk (padL l) ((padL l).length / 64))
theorem sha_length (l : List UInt8) : (sha l).length = 32 := zkx _
structure Begun (l : List UInt8) (h : List W) (r : List UInt8) : Prop where
 eight : h.length = 8
 block : r.length = 64
 words : h = blk l (l.length / 64)
 rest : r.take (l.length % 64) = l.drop (64 * (l.length / 64))
theorem Begun.step {l : List UInt8} {h : List W} {r : List UInt8} (H : Begun l h r) (x : List UInt8) (hx : 0 < x.length) (q : Nat) (hq : l.length % 64 = q) :
  (q + x.length < 64 -> Begun (l ++ x) h (r.take q ++ x ++ r.drop (q + x.length))) ∧
  (q + x.length = 64 -> Begun (l ++ x) (mixed h (r.take q ++ x ++ r.drop (q + x.length))) (r.take q ++ x ++ r.drop (q + x.length))) := by
 have hb := H.block
 have hr := H.rest
 rw [hq] at hr
 have hll := Nat.div_add_mod l.length 64
 have h1 : (r.take q).length = q := by simp; omega
 have hl : (l ++ x).length = l.length + x.length := List.length_append
 refine ⟨fun hs => ?_, fun hs => ?_⟩
 .have ed : (l ++ x).length / 64 = l.length / 64 := by rw [hl]; omega
  have em : (l ++ x).length % 64 = q + x.length := by rw [hl]; omega
  refine ⟨H.eight, by simp; omega, ?_, ?_⟩
  .rw [ed, znx _ _ _ (by omega)]
   exact H.words
  .rw [ed, em, List.drop_append_of_le_length (by omega), <- hr, List.take_append_of_le_length (by simp; omega), List.take_of_length_le (by simp; omega)]
 .have ed : (l ++ x).length / 64 = l.length / 64 + 1 := by rw [hl]; omega
  have em : (l ++ x).length % 64 = 0 := by rw [hl]; omega
  have e3 : r.take q ++ x ++ r.drop (q + x.length) = r.take q ++ x := by rw [List.drop_of_length_le (by omega), List.append_nil]
  rw [e3]
  refine ⟨by rw [zla]; exact H.eight, by simp; omega, ?_, ?_⟩
  .rw [ed, blk, znx _ _ _ (by omega), <- H.words, List.drop_append_of_le_length (by omega), <- hr, List.take_of_length_le (l := r.take q ++ x) (by simp; omega)]
  .rw [em, ed, List.take_zero, List.drop_of_length_le (by rw [hl]; omega)]
structure Held (l : List UInt8) (h : List W) (r : List UInt8) : Prop where
 eight : h.length = 8
 block : r.length = 64
 begun : l ≠ [] -> Begun l h r
theorem Begun.held {l : List UInt8} {h : List W} {r : List UInt8} (H : Begun l h r) : Held l h r := ⟨H.eight, H.block, fun _ => H⟩
theorem Held.nil (h : List W) (r : List UInt8) (h1 : h.length = 8) (h2 : r.length = 64) : Held [] h r := ⟨h1, h2, fun h => absurd rfl h⟩
theorem Begun.nil (r : List UInt8) (h2 : r.length = 64) : Begun [] first r := ⟨rfl, h2, rfl, rfl⟩
theorem Begun.sha {l : List UInt8} {h : List W} {r : List UInt8} (H : Begun (l ++ tailL l.length) h r) : hashB h = sha l := by rw [ShaMath.sha, H.words]; rfl
end Go.Proofs.YtojimgbcghiblaaGreatDoor.ShaMath
namespace Go.Proofs.YtojimgbcghiblaaGreatDoor
section
open Go.RowKit ShaMath
theorem zbgk (n m : Nat) (h : m + n = 32) (h1 : 1 <= n) : bits .and .u64 (IntKind.u64.wrap (-(n : Int))) 31 = (m : Int) := by
 have e : IntKind.u64.wrap (-(n : Int)) = ((18446744073709551616 - n : Nat) : Int) := by rw [IntKind.wrap_u64]; omega
 rw [e, show (31 : Int) = ((31 : Nat) : Int) from rfl, u64_and_nat _ _ (by omega) (by omega), show (31 : Nat) = 2 ^ 5 - 1 from rfl, Nat.and_two_pow_sub_one_eq_mod]
 omega
theorem zbog (x : W) (n m : Nat) (h : m + n = 32) : bits .or .u32 ((x.toNat : Int) * 2 ^ m % 4294967296) ((x.toNat : Int) / 2 ^ (32 - m)) = ((rr x n).toNat : Int) := by
 have hx := x.isLt
 have e1 : (x.toNat : Int) * 2 ^ m % 4294967296 = ((x.toNat * 2 ^ m % 4294967296 : Nat) : Int) := by simp
 have e2 : (x.toNat : Int) / 2 ^ (32 - m) = ((x.toNat / 2 ^ n : Nat) : Int) := by rw [show 32 - m = n by omega]; simp
 have hd : x.toNat / 2 ^ n < 4294967296 := Nat.lt_of_le_of_lt (Nat.div_le_self _ _) hx
 rw [e1, e2, u32_or_nat _ _ (Nat.mod_lt _ (by omega)) hd, rr, BitVec.toNat_or, BitVec.toNat_ushiftRight, BitVec.toNat_shiftLeft, Nat.shiftRight_eq_div_pow, Nat.shiftLeft_eq, show 32 - n = m by omega, Nat.or_comm]
theorem zbmw (x : W) (n : Nat) (w : World) (h1 : 1 <= n) (h2 : n <= 31) :
  Calls Tryz.prog 187 #[.int .u32 (x.toNat : Int), .int .i64 (-(n : Int))] w fun e w' => e = .returned (.int .u32 ((rr x n).toNat : Int)) ∧ w = w' := by
 obtain ⟨m, hm⟩ : ∃ m, m + n = 32 := ⟨32 - n, by omega⟩
 have hc := zbgk n m hm h1
 have hm1 : m <= 31 := by omega
 have hm2 : (m : Int) <= 31 := by omega
 have hm3 : 1 <= m := by omega
 have HM := zh hm
 have hx := x.isLt
 generalize hX : x.toNat = X at hx
 have HX := zh hX
 clear hm hX
 go_enter Tryz.func187, Tryz.ntmps187
 go_wp2
 go_ret
 exact ⟨zaz (by rw [<- HX.out]; exact zbog x n m HM.out), rfl⟩
theorem zsr (x : W) (N : Int) (w : World) (h1 : 1 <= N) (h2 : N <= 31) :
  Calls Tryz.prog 185 #[.int .u32 (x.toNat : Int), .int .i64 N] w fun e w' => e = .returned (.int .u32 ((rr x N.toNat).toNat : Int)) ∧ w' = w := by
 obtain ⟨n, rfl⟩ : ∃ n : Nat, N = n := ⟨N.toNat, by omega⟩
 have h3 : 1 <= n := by omega
 have h4 : n <= 31 := by omega
 go_enter Tryz.func185, Tryz.ntmps185
 go_wp2_with (go_at_call 187; refine (zbmw _ _ _ h3 h4).mono ?_; rintro e w1 ⟨rfl, rfl⟩)
 go_ret
 exact ⟨rfl, rfl⟩
theorem zyg {P : Program} {f : FuncId} {xs : Array Value} {u : World} {i j : Nat} {x : Value}
  (c : Calls P f xs (u.drewN (i + j)) fun e u' => e = .returned x ∧ u' = u.drewN (i + j)) : Calls P f xs (u.drewN (i + j)) fun e u' => e = .returned x ∧ ∃ k, u' = u.drewN (i + k) :=
 c.mono fun _ _ h => ⟨h.1, j, h.2⟩
def tI (x : W) : Int := (x.toNat : Int)
theorem zblc (x y : W) : bits .xor .u32 (tI x) (tI y) = tI (x ^^^ y) := by
 unfold tI
 rw [u32_xor_nat _ _ x.isLt y.isLt, BitVec.toNat_xor]
theorem zbpj (x y : W) : bits .and .u32 (tI x) (tI y) = tI (x &&& y) := by
 unfold tI
 rw [u32_and_nat _ _ x.isLt y.isLt, BitVec.toNat_and]
theorem w_or (x y : W) : bits .or .u32 (tI x) (tI y) = tI (x ||| y) := by
 unfold tI
 rw [u32_or_nat _ _ x.isLt y.isLt, BitVec.toNat_or]
theorem zta (x y : W) : IntKind.u32.wrap (tI x + tI y) = tI (x + y) := by
 unfold tI
 rw [IntKind.wrap_u32', BitVec.toNat_add]
 omega
theorem ztb (x y : W) : (tI x + tI y) % 4294967296 = tI (x + y) := by
 unfold tI
 rw [BitVec.toNat_add]
 omega
theorem zbpk (x : W) : bits .xor .u32 (if IntKind.u32.signed = true then -1 else IntKind.u32.max) (tI x) = tI (~~~x) := by
 have h1 : (if IntKind.u32.signed = true then -1 else IntKind.u32.max) = ((4294967295 : Nat) : Int) := rfl
 unfold tI
 rw [h1, u32_xor_nat _ _ (by omega) x.isLt, <- BitVec.allOnes_xor, BitVec.toNat_xor, BitVec.toNat_allOnes]
theorem zma (x : W) (N : Int) (w : World) (h1 : 1 <= N) (h2 : N <= 31) :
  Calls Tryz.prog 185 #[.int .u32 (tI x), .int .i64 N] w fun e w' => e = .returned (.int .u32 (tI (rr x N.toNat))) ∧ w' = w := zsr x N w h1 h2
def u32s (l : List W) : List Value := l.map fun x => .int .u32 (tI x)
theorem zax (l : List W) : (u32s l).length = l.length := by simp [u32s]
theorem zcv (l : List W) (j : Nat) (h : j < l.length) : (u32s l)[j]? = some (.int .u32 (tI l[j])) := by simp [u32s, h]
theorem zbkl (a b c d e f g h k : W) (w : World) :
  Calls Tryz.prog 170 #[.agg #[.int .u32 (tI a), .int .u32 (tI b), .int .u32 (tI c), .int .u32 (tI d), .int .u32 (tI e), .int .u32 (tI f), .int .u32 (tI g), .int .u32 (tI h)], .int .u32 (tI k)] w fun e' w' => e' = .returned (.agg (u32s (trn [a, b, c, d, e, f, g, h] k)).toArray) ∧ Below w.heap.size w w' := by
 have hx := zblc
 have ha := zbpj
 have hp := zta
 have hm := ztb
 have hn := zbpk
 go_enter Tryz.func170, Tryz.ntmps170
 go_wp2
 go_quiet (fail)
 go_wp2
 go_quiet ((go_at_call 185; first | exact Calls.quiet_of_same (zma _ _ _ (by omega) (by omega)) | exact zyg (zma _ _ _ (by omega) (by omega))))
 go_wp2_with (go_at_call 185; refine (zma _ _ _ (by omega) (by omega)).mono ?_; rintro e w1 ⟨rfl, rfl⟩)
 refine bodyPost_ret (v := .agg (u32s (trn [a, b, c, d, e, f, g, h] k)).toArray) (by simp [results, Tryz.results170, go_sem, u32s, trn, bs1, bs0, ch, maj]) rfl ⟨rfl, ?_⟩
 repeat' refine Below.setCell ?_ (by simp) _
 exact (((zb).alloc (Nat.le_refl _) _).alloc (by simp) _).drewN _
theorem zbpc (y : W) (c : UInt8) : bits .or .u32 (tI y) (c.toNat : Int) = tI (y ||| ex c) := by
 have := w_or y (ex c)
 have e : tI (ex c) = (c.toNat : Int) := by unfold tI; rw [zbib]
 rwa [e] at this
theorem zbhp (c : UInt8) : (c.toNat : Int) % 4294967296 = (c.toNat : Int) := by
 have := c.toNat_lt
 omega
theorem zbom (y : W) : (tI y * (256 : Int)) % (4294967296 : Int) = tI (y <<< 8) := by
 unfold tI
 rw [BitVec.toNat_shiftLeft, Nat.shiftLeft_eq]
 omega
theorem zbon (y : W) : tI y / (8 : Int) = tI (y >>> 3) := by
 unfold tI
 rw [BitVec.toNat_ushiftRight, Nat.shiftRight_eq_div_pow]
 omega
theorem zbnl (y : W) : tI y / (1024 : Int) = tI (y >>> 10) := by
 unfold tI
 rw [BitVec.toNat_ushiftRight, Nat.shiftRight_eq_div_pow]
 omega
theorem znu (l : List W) (j : Nat) (x : W) : (u32s l).set j (.int .u32 (tI x)) = u32s (l.set j x) := by
 simp [u32s, List.map_set]
theorem zbcd (b : List UInt8) (w : World) (hb : b.length = 64) :
  Calls Tryz.prog 169 #[.agg (bytes b).toArray] w fun e w' => e = .returned (.agg (u32s (spr b)).toArray) ∧ Below w.heap.size w w' := by
 generalize hcs : (bytes b).toArray = cs
 have HCS := zh hcs
 have HB := zh hb
 clear hcs hb
 go_enter Tryz.func169, Tryz.ntmps169
 go_wp2
 have hr0 : Row (((w.alloc (.cells cs 198)).alloc (.cells (u32s (List.replicate 64 0#32)).toArray 249)).alloc (.cells (u32s (List.replicate 64 0#32)).toArray 249)) (w.heap.size + 1 + 1) 249 (u32s (loaded b 0)) := by
  rw [zxw]
  have := Row.new ((w.alloc (.cells cs 198)).alloc (.cells (u32s (List.replicate 64 0#32)).toArray 249)) 249 (u32s (List.replicate 64 0#32))
  simpa using this
 have hr1 : Row (((w.alloc (.cells cs 198)).alloc (.cells (u32s (List.replicate 64 0#32)).toArray 249)).alloc (.cells (u32s (List.replicate 64 0#32)).toArray 249)) (w.heap.size + 1) 249 (u32s (List.replicate 64 0#32)) := by
  have := (Row.new (w.alloc (.cells cs 198)) 249 (u32s (List.replicate 64 0#32))).alloc (.cells (u32s (List.replicate 64 0#32)).toArray 249)
  simpa using this
 have hr2 : Row (((w.alloc (.cells cs 198)).alloc (.cells (u32s (List.replicate 64 0#32)).toArray 249)).alloc (.cells (u32s (List.replicate 64 0#32)).toArray 249)) w.heap.size 198 (bytes b) := by
  rw [<- HCS.out]
  exact ((Row.new w 198 (bytes b)).alloc _).alloc _
 have hb0 : Below w.heap.size w (((w.alloc (.cells cs 198)).alloc (.cells (u32s (List.replicate 64 0#32)).toArray 249)).alloc (.cells (u32s (List.replicate 64 0#32)).toArray 249)) := (((zb).alloc (Nat.le_refl _) _).alloc (by simp) _).alloc (by simp; omega) _
 have HR0 := zh hr0
 have HR1 := zh hr1
 have HR2 := zh hr2
 have HB0 := zh hb0
 clear hr0 hr1 hr2 hb0
 go_loopw [8, 4] (fun i _ wr => ∃ k : Nat, k <= 64 ∧ i = .int .i64 k ∧ Row wr (w.heap.size + 1 + 1) 249 (u32s (loaded b k)) ∧ Row wr (w.heap.size + 1) 249 (u32s (List.replicate 64 0#32)) ∧ Row wr w.heap.size 198 (bytes b) ∧ Below w.heap.size w wr) (fun i _ _ => 64 - (intOf i).toNat)
 case atStart => exact ⟨0, by omega, rfl, HR0.out, HR1.out, HR2.out, HB0.out⟩
 case round =>
  obtain ⟨k, hk, rfl, hp, hz, hy, hbw⟩ := hrel
  by_cases hlt : k < 64
  .obtain ⟨q, hq⟩ : ∃ q, k / 4 = q := ⟨_, rfl⟩
   have hql : q < (loaded b k).length := by rw [zka]; omega
   have hkb : k < b.length := by rw [HB.out]; exact hlt
   have hst : loaded b (k + 1) = (loaded b k).set q (((loaded b k)[q] <<< 8) ||| ex b[k]) := by
    subst hq; exact zxv b k hkb hql
   obtain ⟨x, hx⟩ : ∃ x, (loaded b k)[q] = x := ⟨_, rfl⟩; obtain ⟨c, hc⟩ : ∃ c, b[k] = c := ⟨_, rfl⟩
   have hp2 := hp.set q (.int .u32 (tI ((x <<< 8) ||| ex c)))
   rw [znu, <- hx, <- hc, <- hst, hx, hc] at hp2; have HP := zh hp2
   have HB2 : Hid (Below w.heap.size w (wr.setCell ⟨w.heap.size + 1 + 1, q, none⟩ (.int .u32 (tI ((x <<< 8) ||| ex c))))) := zh (hbw.setCell (p := ⟨_, _, _⟩) (by simp; omega) _)
   have hc1 : wr.cell? ⟨w.heap.size + 1 + 1, q, none⟩ = some (.int .u32 (tI x)) := by rw [hp.cell, zcv _ _ hql, hx]
   have hc2 : wr.cell? ⟨w.heap.size, k, none⟩ = some (.int .u8 (c.toNat : Int)) := by rw [hy.cell, zez _ _ hkb, hc]
   have hf1 := hp.frozen q
   have HZ := zh (hz.far ⟨w.heap.size + 1 + 1, q, none⟩ (.int .u32 (tI ((x <<< 8) ||| ex c))) (by simp))
   have HY := zh (hy.far ⟨w.heap.size + 1 + 1, q, none⟩ (.int .u32 (tI ((x <<< 8) ||| ex c))) (by simp; omega))
   have hq1 : (k : Int) / 4 = (q : Int) := by omega
   have hq2 : (q : Int) < 64 := by omega
   have hq3 : q < 64 := by omega
   have hq0 : 0 <= (q : Int) := by omega
   have hk0 : 0 <= (k : Int) := by omega
   have hk1 : (k : Int) < 64 := by omega
   have hwq : IntKind.i64.wrap (q : Int) = (q : Int) := IntWalk.i64_in _ (by omega)
   have hs8 := zbom x
   have hs9 : IntKind.u32.wrap (tI x * (256 : Int)) = tI (x <<< 8) := by rw [IntKind.wrap_u32]; exact hs8
   have hor := zbpc (x <<< 8) c; have hcm := zbhp c; clear hp hz hy hbw hst hp2 hx hc hq hql hkb; go_wp2
   go_still_tail 13, (by kernel_rfl)
   change wpList _ _ _ _ _ wr.drew
   go_wp2
   go_roundw
   case rel => exact ⟨k + 1, by omega, by go_num, HP.out.drew, HZ.out.drew, HY.out.drew, HB2.out.drew⟩
   case measure => simp [intOf]; omega
  .have ek : k = 64 := by omega
   rw [ek, show loaded b 64 = sch b 0 from rfl] at hp
   clear ek; have HP := zh hp; have HZ := zh hz; have HBW := zh hbw; clear hp hz hy hbw; go_wp2
   go_loopw [5] (fun i wr => ∃ t : Nat, 16 <= t ∧ t <= 64 ∧ i = .int .i64 t ∧ Row wr (w.heap.size + 1 + 1) 249 (u32s (sch b (t - 16))) ∧ Row wr (w.heap.size + 1) 249 (u32s (List.replicate 64 0#32)) ∧ Below w.heap.size w wr) (fun i _ => 64 - (intOf i).toNat)
   case atStart => exact ⟨16, by omega, by omega, rfl, HP.out, HZ.out, HBW.out⟩
   case round =>
    obtain ⟨t, ht1, ht2, rfl, hp, hz, hbw⟩ := hrel
    by_cases hlt : t < 64
    .obtain ⟨i0, h0⟩ : ∃ i, t - 16 = i := ⟨_, rfl⟩
     obtain ⟨i1, h1⟩ : ∃ i, t - 15 = i := ⟨_, rfl⟩; obtain ⟨i2, h2⟩ : ∃ i, t - 2 = i := ⟨_, rfl⟩; obtain ⟨i7, h7⟩ : ∃ i, t - 7 = i := ⟨_, rfl⟩; have hl := zow b i0; rw [h0] at hp; obtain ⟨a, ha⟩ : ∃ x, (sch b i0)[i0]'(by omega) = x := ⟨_, rfl⟩
     obtain ⟨x, hx⟩ : ∃ x, (sch b i0)[i1]'(by omega) = x := ⟨_, rfl⟩
     obtain ⟨y, hy⟩ : ∃ x, (sch b i0)[i2]'(by omega) = x := ⟨_, rfl⟩
     obtain ⟨z, hz7⟩ : ∃ x, (sch b i0)[i7]'(by omega) = x := ⟨_, rfl⟩
     have hst : sch b (i0 + 1) = (sch b i0).set t (ss1 y + z + ss0 x + a) := by
      rw [sch, show 16 + i0 = t by omega, ext, h2, h7, h1, h0]
      simp only [List.getD_eq_getElem?_getD]
      rw [List.getElem?_eq_getElem (by omega), List.getElem?_eq_getElem (by omega), List.getElem?_eq_getElem (by omega), List.getElem?_eq_getElem (by omega), ha, hx, hy, hz7]
      rfl
     have hp2 := hp.set t (.int .u32 (tI (ss1 y + z + ss0 x + a))); rw [znu, <- hst, show i0 + 1 = t + 1 - 16 by omega] at hp2
     have hE : ss1 y + z + ss0 x + a = (rr y 17 ^^^ rr y 19 ^^^ y >>> 10) + z + (rr x 7 ^^^ rr x 18 ^^^ x >>> 3) + a := rfl
     rw [hE] at hp2
     have c0 : wr.cell? ⟨w.heap.size + 1 + 1, i0, none⟩ = some (.int .u32 (tI a)) := by rw [hp.cell, zcv _ _ (by omega), ha]
     have c1 : wr.cell? ⟨w.heap.size + 1 + 1, i1, none⟩ = some (.int .u32 (tI x)) := by rw [hp.cell, zcv _ _ (by omega), hx]
     have c2 : wr.cell? ⟨w.heap.size + 1 + 1, i2, none⟩ = some (.int .u32 (tI y)) := by rw [hp.cell, zcv _ _ (by omega), hy]
     have c7 : wr.cell? ⟨w.heap.size + 1 + 1, i7, none⟩ = some (.int .u32 (tI z)) := by rw [hp.cell, zcv _ _ (by omega), hz7]
     obtain ⟨u, hu⟩ : ∃ u, wr.cell? ⟨w.heap.size + 1 + 1, t, none⟩ = some u := ⟨_, by rw [hp.cell, zcv _ _ (by omega)]⟩
     have hf := hp.frozen t; have HP := zh hp2; have HZ := zh (hz.far ⟨w.heap.size + 1 + 1, t, none⟩ (.int .u32 (tI ((rr y 17 ^^^ rr y 19 ^^^ y >>> 10) + z + (rr x 7 ^^^ rr x 18 ^^^ x >>> 3) + a))) (by simp))
     have HB2 : Hid (Below w.heap.size w (wr.setCell ⟨w.heap.size + 1 + 1, t, none⟩ (.int .u32 (tI ((rr y 17 ^^^ rr y 19 ^^^ y >>> 10) + z + (rr x 7 ^^^ rr x 18 ^^^ x >>> 3) + a))))) := zh (hbw.setCell (p := ⟨_, _, _⟩) (by simp; omega) _)
     have e0 : (t : Int) - 16 = (i0 : Int) := by omega
     have e1 : (t : Int) - 15 = (i1 : Int) := by omega
     have e2 : (t : Int) - 2 = (i2 : Int) := by omega
     have e7 : (t : Int) - 7 = (i7 : Int) := by omega
     have w0 : IntKind.i64.wrap (i0 : Int) = (i0 : Int) := IntWalk.i64_in _ (by omega)
     have w1 : IntKind.i64.wrap (i1 : Int) = (i1 : Int) := IntWalk.i64_in _ (by omega)
     have w2 : IntKind.i64.wrap (i2 : Int) = (i2 : Int) := IntWalk.i64_in _ (by omega)
     have w7 : IntKind.i64.wrap (i7 : Int) = (i7 : Int) := IntWalk.i64_in _ (by omega)
     have b0 : (i0 : Int) < 64 := by omega
     have b1 : (i1 : Int) < 64 := by omega
     have b2 : (i2 : Int) < 64 := by omega
     have b7 : (i7 : Int) < 64 := by omega
     have n0 : i0 < 64 := by omega
     have n1 : i1 < 64 := by omega
     have n2 : i2 < 64 := by omega
     have n7 : i7 < 64 := by omega
     have ht3 : (t : Int) < 64 := by omega
     have ht0 : 0 <= (t : Int) := by omega
     have rx := zblc; have ra := zta; have rm := ztb; clear hp hz hbw hst hp2 hE hl ha hx hy hz7 h0 h1 h2 h7; go_wp2
     go_quiet (fail)
     have c0q : (wr.drewN nq).cell? ⟨w.heap.size + 1 + 1, i0, none⟩ = some (.int .u32 (tI a)) := c0
     have c7q : (wr.drewN nq).cell? ⟨w.heap.size + 1 + 1, i7, none⟩ = some (.int .u32 (tI z)) := c7
     have huq : (wr.drewN nq).cell? ⟨w.heap.size + 1 + 1, t, none⟩ = some u := hu
     have hfq : (wr.drewN nq).frozen? ⟨w.heap.size + 1 + 1, t, none⟩ = false := hf
     have HPq : Hid (Row ((wr.drewN nq).setCell ⟨w.heap.size + 1 + 1, t, none⟩ (.int .u32 (tI ((rr y 17 ^^^ rr y 19 ^^^ y >>> 10) + z + (rr x 7 ^^^ rr x 18 ^^^ x >>> 3) + a)))) _ _ _) := HP
     have HZq : Hid (Row ((wr.drewN nq).setCell ⟨w.heap.size + 1 + 1, t, none⟩ (.int .u32 (tI ((rr y 17 ^^^ rr y 19 ^^^ y >>> 10) + z + (rr x 7 ^^^ rr x 18 ^^^ x >>> 3) + a)))) _ _ _) := HZ
     have HBq : Hid (Below w.heap.size w ((wr.drewN nq).setCell ⟨w.heap.size + 1 + 1, t, none⟩ (.int .u32 (tI ((rr y 17 ^^^ rr y 19 ^^^ y >>> 10) + z + (rr x 7 ^^^ rr x 18 ^^^ x >>> 3) + a))))) := zh (HB2.out.drewN nq)
     clear c0 c1 c2 c7 hu hf HP HZ HB2; generalize wr.drewN nq = wq at *; go_wp2; have r3 := zbon; have r10 := zbnl
     go_still_tail 29, (by kernel_rfl)
     repeat (first | still_step | still_call (zma _ _ _ (by omega) (by omega)))
     refine wpStill_nil ?_
     change wpList _ _ _ _ _ wq.drew
     go_wp2
     go_roundw
     case rel => exact ⟨t + 1, by omega, by omega, by go_num, HPq.out.drew, HZq.out.drew, HBq.out.drew⟩
     case measure => simp [intOf]; omega
    .have et : t = 64 := by omega
     rw [et, show sch b (64 - 16) = spr b from rfl] at hp
     obtain ⟨S, hS⟩ : ∃ S, S = u32s (spr b) := ⟨_, rfl⟩; obtain ⟨Z, hZ⟩ : ∃ Z, Z = u32s (List.replicate 64 0#32) := ⟨_, rfl⟩; rw [<- hS] at hp; rw [<- hZ] at hz
     have hl : S.length = 64 := by rw [hS, zax, zpc]
     have HI : Hid ((Tryz.prog.info? 249).map (·.size) = some S.length) := zh (by rw [hl]; kernel_rfl)
     have HL : Hid (Z.length = S.length) := zh (by rw [hl, hZ]; simp [u32s])
     have H1 : Hid (S.all (·.oneCell') = true) := zh (by rw [hS]; simp [u32s, Value.oneCell'])
     have HRES := zh (hz.put S); have HB2 := zh (hbw.putRow (g := w.heap.size + 1) (by omega) S.toArray)
     have HP := zh hp; have HZ := zh hz; have HS := zh hS; clear hp hz hbw hl et hS hZ
     go_wp2_with (first
      | (refine (HP.out.wpLoad 249 _ Tryz.underlying249 rfl HI.out _ rfl rfl rfl ?_))
      | (refine (HZ.out.wpStore 249 S HI.out HL.out H1.out _ _ rfl rfl rfl rfl ?_)))
     exact bodyPost_ret (HRES.out.result rfl _ _ rfl Tryz.underlying249 rfl HI.out) rfl ⟨by rw [HS.out], HB2.out⟩
structure Glob (w : World) : Prop where
 size : 2 + 1 <= w.heap.size
 first : ∀ i (h : i < first.length), w.cell? ⟨1, i, none⟩ = some (.int .u32 (tI first[i]))
 roots : ∀ i (h : i < roots.length), w.cell? ⟨2, i, none⟩ = some (.int .u32 (tI roots[i]))
theorem Glob.step {w w' : World} (h : Glob w) (hb : Below w.heap.size w w') : Glob w' :=
 ⟨Nat.le_trans h.size hb.size, fun i hi => (hb.cell (p := ⟨1, i, none⟩) (by have := h.size; show 1 < _; omega)).trans (h.first i hi), fun i hi => (hb.cell (p := ⟨2, i, none⟩) (by have := h.size; show 2 < _; omega)).trans (h.roots i hi)⟩
theorem Glob.only {w w' : World} {g : Nat} (h : Glob w) (ho : Only g w w') (hg : 2 + 1 <= g) : Glob w' := by
 have hb := ho.below (B := 2 + 1) hg h.size
 exact ⟨Nat.le_trans h.size hb.size, fun i hi => (hb.cell (p := ⟨1, i, none⟩) (by show 1 < _; omega)).trans (h.first i hi), fun i hi => (hb.cell (p := ⟨2, i, none⟩) (by show 2 < _; omega)).trans (h.roots i hi)⟩
theorem zbcx (b : Nat) (x r : List Value) (w : World) (hg : Glob w) (hr : Row w b 200 (x ++ r)) (hx : x.length = 8) :
  Calls Tryz.prog 148 #[.pointer (some ⟨b, 0, none⟩)] w fun e w' => e = .returned (.tuple #[]) ∧ Row w' b 200 (u32s first ++ r) ∧ Only b w w' := by
 have hrange : w.rangeAt 1 0 (u32s first) := by
  intro j v hv
  have hj : j < first.length := by rw [<- zax]; exact (List.getElem?_eq_some_iff.1 hv).1
  rw [zcv _ _ hj] at hv
  rw [Nat.zero_add, hg.first j hj]
  exact hv
 obtain ⟨F, hF⟩ : ∃ F, F = u32s first := ⟨_, rfl⟩
 rw [<- hF] at hrange ⊢
 have hl : F.length = 8 := by rw [hF, zax]; rfl
 have HI : Hid ((Tryz.prog.info? 196).map (·.size) = some F.length) := zh (by rw [hl]; kernel_rfl)
 have HI2 : Hid ((Tryz.prog.info? 197).map (·.size) = some F.length) := zh (by rw [hl]; kernel_rfl)
 have H1 : Hid (F.all (·.oneCell') = true) := zh (by rw [hF]; simp [u32s, Value.oneCell'])
 have HL : Hid (x.length = F.length) := zh (by rw [hl, hx])
 have HG := zh hrange
 have HR : Hid (Row w b 200 ([] ++ x ++ r)) := zh hr
 have HRES := zh (Row.setCells F HR.out HL.out 0 rfl)
 have HO := zh (Only.setCells (g := b) F 0 (Only.refl b w))
 clear hg hr hrange hF hl hx
 go_enter Tryz.func148, Tryz.ntmps148
 go_wp2_with (first
  | (refine (wpList_load_mid rfl 196 _ rfl 1 0 rfl F _ HG.out Tryz.underlying196 rfl HI.out ?_))
  | (refine (HR.out.wpStoreMid rfl 197 F HL.out HI2.out H1.out _ _ rfl rfl rfl rfl ?_)))
 go_end0
 exact ⟨rfl, HRES.out, HO.out⟩
theorem zero64 : ∀ u, (zeroValue 249).run Tryz.prog u = .ok (.agg (u32s (List.replicate 64 0#32)).toArray) u := fun u => by kernel_rfl
theorem zero8 : ∀ u, (zeroValue 197).run Tryz.prog u = .ok (.agg (u32s (List.replicate 8 0#32)).toArray) u := fun u => by kernel_rfl
theorem znt (l : List W) : (u32s l).all (·.oneCell') = true := by simp [u32s, Value.oneCell']
theorem zkm (l : List UInt8) : (bytes l).all (·.oneCell') = true := by simp [bytes, Value.oneCell']
theorem zbml (b : Nat) (h : List W) (r : List Value) (k : List UInt8) (w : World) (hg : Glob w) (hb2 : 2 + 1 <= b) (hr : Row w b 200 (u32s h ++ r)) (hh : h.length = 8) (hk : k.length = 64) :
  Calls Tryz.prog 149 #[.pointer (some ⟨b, 0, none⟩), .agg (bytes k).toArray] w fun e w' => e = .returned (.tuple #[]) ∧ Row w' b 200 (u32s (mixed h k) ++ r) ∧ Only b w w' := by
 obtain ⟨K, hK⟩ : ∃ K, K = bytes k := ⟨_, rfl⟩
 obtain ⟨sp, hsp⟩ : ∃ sp, sp = spr k := ⟨_, rfl⟩
 have hmx : mixed h k = addK h (trns sp h 64) 8 := by rw [hsp, mixed]
 have lsp : sp.length = 64 := by rw [hsp, zpc]
 obtain ⟨S, hS⟩ : ∃ S, S = u32s sp := ⟨_, rfl⟩
 obtain ⟨Z, hZ⟩ : ∃ Z, Z = u32s (List.replicate 64 0#32) := ⟨_, rfl⟩
 obtain ⟨Z8, hZ8⟩ : ∃ Z, Z = u32s (List.replicate 8 0#32) := ⟨_, rfl⟩
 obtain ⟨H, hH⟩ : ∃ H, H = u32s h := ⟨_, rfl⟩
 have HZ64 : Hid (∀ u, (zeroValue 249).run Tryz.prog u = .ok (.agg Z.toArray) u) := zh (by rw [hZ]; exact zero64)
 have HZ8 : Hid (∀ u, (zeroValue 197).run Tryz.prog u = .ok (.agg Z8.toArray) u) := zh (by rw [hZ8]; exact zero8)
 have HSP : Hid (∀ u, Calls Tryz.prog 169 #[.agg K.toArray] u fun e u' => e = .returned (.agg S.toArray) ∧ Below u.heap.size u u') := zh fun u => by rw [hK, hS, hsp]; exact zbcd k u hk
 have lS : S.length = 64 := by rw [hS, zax, lsp]
 have lZ : Z.length = 64 := by rw [hZ, zax]; simp
 have lZ8 : Z8.length = 8 := by rw [hZ8, zax]; simp
 have lH : H.length = 8 := by rw [hH, zax, hh]
 have lK : K.length = 64 := by rw [hK, zaa, hk]
 have FK : Fits Tryz.prog 198 64 := ⟨⟨_, Tryz.underlying198, rfl⟩, by kernel_rfl⟩
 have FS : Fits Tryz.prog 249 64 := ⟨⟨_, Tryz.underlying249, rfl⟩, by kernel_rfl⟩
 have FH : Fits Tryz.prog 197 8 := ⟨⟨_, Tryz.underlying197, rfl⟩, by kernel_rfl⟩
 have LS := zh lS
 have LZ := zh lZ
 have LZ8 := zh lZ8
 have LH := zh lH
 have LK := zh lK
 have HS1 : Hid (S.all (·.oneCell') = true) := zh (by rw [hS]; exact znt _)
 have HH1 : Hid (H.all (·.oneCell') = true) := zh (by rw [hH]; exact znt _)
 have HG := zh hg
 have HR : Hid (Row w b 200 ([] ++ H ++ r)) := zh (by rw [hH]; exact hr)
 have HbB := zh hr.lt
 rw [<- hK]
 have HK := zh hK
 have HS := zh hS
 have HH := zh hH
 have Hh := zh hh
 have Hk := zh hk
 have HMX := zh hmx
 have Lsp := zh lsp
 clear hg hr hK hS hZ hZ8 hH lS lZ lZ8 lH lK hh hk hsp hmx lsp
 go_enter Tryz.func149, Tryz.ntmps149
 go_wp2_with (first
  | ((with_reducible refine wpBoxK K 198 ?_ ?_); rfl; intro u0 r0 b0 s0; have R0 := zh r0; have B0 := zh b0; have S0 := zh s0; clear r0 b0 s0)
  | ((with_reducible refine R0.out.wpLoadK 198 FK LK.out ?_ ?_); rfl)
  | (go_at_call 169; refine (HSP.out _).mono ?_; rintro e u1 ⟨rfl, b1⟩; have B1 := zh b1; clear b1)
  | ((with_reducible refine wpAllocK Z 249 HZ64.out ?_ ?_); rfl; intro u2 r2 b2 s2; have R2 := zh r2; have B2 := zh b2; have S2 := zh s2; clear r2 b2 s2)
  | ((with_reducible refine R2.out.wpStoreK 249 S FS LZ.out LS.out HS1.out ?_ ?_); rfl; intro u3 r3 o3 s3; have R3 := zh r3; have RB3 : Hid (Row u3 b 200 ([] ++ H ++ r)) := zh ((((HR.out.step B0.out).step B1.out).step B2.out).only o3 (by have := HbB.out; have := B0.out.size; have := B1.out.size; omega)); have O3 := zh o3; have S3 := zh s3; clear r3 o3 s3)
  | ((with_reducible refine RB3.out.wpLoadMidK 0 rfl 197 FH LH.out ?_ ?_); rfl)
  | ((with_reducible refine wpAllocK Z8 197 HZ8.out ?_ ?_); rfl; intro u4 r4 b4 s4; have R4 := zh r4; have B4 := zh b4; have S4 := zh s4; clear r4 b4 s4)
  | ((with_reducible refine R4.out.wpStoreK 197 H FH LZ8.out LH.out HH1.out ?_ ?_); rfl; intro u5 r5 o5 s5; have R5 := zh r5; have O5 := zh o5; have S5 := zh s5; clear r5 o5 s5))
 have z01 : w.heap.size < u1.heap.size := by have := S0.out; have := B1.out.size; omega
 have z13 : u1.heap.size < u3.heap.size := by have := S2.out; have := S3.out; omega
 have z35 : u3.heap.size < u5.heap.size := by have := S4.out; have := S5.out; omega
 have hbw := HbB.out
 have o3 := O3.out
 have o5 := O5.out
 have hB5 : Below w.heap.size w u5 := ((((B0.out.next B1.out).next B2.out).trans (o3.below (by omega) (by have := B2.out.size; omega))).next B4.out).trans (o5.below (by omega) (by have := B4.out.size; omega))
 have hr5 : Row u5 b 200 (H ++ r) := ((show Row u3 b 200 (H ++ r) from RB3.out).step B4.out).only o5 (by omega)
 have hs5 : Row u5 u1.heap.size 249 S := (R3.out.step B4.out).only o5 (by omega)
 have hv5 := R5.out
 have hg5 : Glob u5 := HG.out.step hB5
 have hZ5 : u3.heap.size < u5.heap.size := z35
 rw [HH.out] at hr5 hv5
 rw [HS.out] at hs5
 have A1 := zh hB5
 have A2 := zh hr5
 have A3 := zh hs5
 have A4 := zh hv5
 have A5 := zh hg5
 clear R0 B0 S0 B1 R2 B2 S2 R3 RB3 O3 S3 R4 B4 S4 R5 O5 S5 hB5 hr5 hs5 hv5 hg5 hZ5 o3 o5 HSP HZ64 HZ8 HS1 HH1 LS LZ LZ8 LH LK HR HK HS HH FK FS
 obtain ⟨M, hM⟩ : ∃ M, M = u1.heap.size := ⟨_, rfl⟩
 obtain ⟨N, hN⟩ : ∃ N, N = u3.heap.size := ⟨_, rfl⟩
 rw [<- hM] at A3 z01 z13 ⊢
 rw [<- hN] at A4 z13 z35 ⊢
 clear hM hN
 go_loopw [13] (fun i wr => ∃ t : Nat, t <= 64 ∧ i = .int .i64 t ∧ Row wr b 200 (u32s h ++ r) ∧ Row wr M 249 (u32s sp) ∧ Row wr N 197 (u32s (trns sp h t)) ∧ Glob wr ∧ Below w.heap.size w wr) (fun i _ => 64 - (intOf i).toNat)
 case atStart => exact ⟨0, by omega, rfl, A2.out, A3.out, A4.out, A5.out, A1.out⟩
 case round =>
  clear A1 A2 A3 A4 A5
  obtain ⟨t, ht, rfl, hrb, hrm, hrn, hgl, hbel⟩ := hrel
  have hlS := Lsp.out
  have hlT := zih sp h t
  rw [Hh.out] at hlT
  by_cases hlt : t < 64
  .have hst : trns sp h (t + 1) = trn (trns sp h t) (roots.getD t 0 + sp.getD t 0) := by rw [trns]
   generalize hs : trns sp h t = s at hrn hst hlT
   match s, hlT with
   | [c0, c1, c2, c3, c4, c5, c6, c7], _ =>
   obtain ⟨y, hy⟩ : ∃ y, sp[t]'(by omega) = y := ⟨_, rfl⟩
   obtain ⟨z, hz⟩ : ∃ z, roots[t]'(by rw [zhc]; exact hlt) = z := ⟨_, rfl⟩
   rw [List.getD_eq_getElem?_getD, List.getD_eq_getElem?_getD, List.getElem?_eq_getElem (by rw [zhc]; exact hlt), List.getElem?_eq_getElem (by omega), hy, hz] at hst
   have cy : wr.cell? ⟨M, t, none⟩ = some (.int .u32 (tI y)) := by rw [hrm.cell, zcv _ _ (by omega), hy]
   have cz : wr.cell? ⟨2, t, none⟩ = some (.int .u32 (tI z)) := by rw [hgl.roots t (by rw [zhc]; exact hlt), hz]
   have v0 : wr.cell? ⟨N, 0, none⟩ = some (.int .u32 (tI c0)) := by rw [hrn.cell]; rfl
   have v1 : wr.cell? ⟨N, 1, none⟩ = some (.int .u32 (tI c1)) := by rw [hrn.cell]; rfl
   have v2 : wr.cell? ⟨N, 2, none⟩ = some (.int .u32 (tI c2)) := by rw [hrn.cell]; rfl
   have v3 : wr.cell? ⟨N, 3, none⟩ = some (.int .u32 (tI c3)) := by rw [hrn.cell]; rfl
   have v4 : wr.cell? ⟨N, 4, none⟩ = some (.int .u32 (tI c4)) := by rw [hrn.cell]; rfl
   have v5 : wr.cell? ⟨N, 5, none⟩ = some (.int .u32 (tI c5)) := by rw [hrn.cell]; rfl
   have v6 : wr.cell? ⟨N, 6, none⟩ = some (.int .u32 (tI c6)) := by rw [hrn.cell]; rfl
   have v7 : wr.cell? ⟨N, 7, none⟩ = some (.int .u32 (tI c7)) := by rw [hrn.cell]; rfl
   obtain ⟨T, hT⟩ : ∃ T, T = u32s (trn [c0, c1, c2, c3, c4, c5, c6, c7] (z + y)) := ⟨_, rfl⟩
   have LT : Hid (T.length = 8) := zh (by rw [hT, zax, zpe]; rfl)
   have LN : Hid ((u32s [c0, c1, c2, c3, c4, c5, c6, c7]).length = 8) := zh rfl
   have HT1 : Hid (T.all (·.oneCell') = true) := zh (by rw [hT]; exact znt _)
   have HTN : Hid (u32s (trns sp h (t + 1)) = T) := zh (by rw [hst, hT]; rfl)
   have HRB := zh hrb; have HRM := zh hrm; have HRN := zh hrn; have HGL := zh hgl; have HBE := zh hbel
   have HTU : Hid (∀ u, Calls Tryz.prog 170 #[.agg #[.int .u32 (tI c0), .int .u32 (tI c1), .int .u32 (tI c2), .int .u32 (tI c3), .int .u32 (tI c4), .int .u32 (tI c5), .int .u32 (tI c6), .int .u32 (tI c7)], .int .u32 (tI (z + y))] u fun e u' => e = .returned (.agg T.toArray) ∧ Below u.heap.size u u') := zh fun u => by rw [hT]; exact zbkl _ _ _ _ _ _ _ _ _ u
   have rp := zta; have rm := ztb
   have ht1 : (t : Int) < 64 := by omega
   have ht0 : 0 <= (t : Int) := by omega
   clear hst hs hy hz hT hrb hrm hrn hgl hbel hlS; go_wp2
   go_still_tail 8, (by kernel_rfl)
   change wpList _ _ _ _ _ wr.drew
   have D1 := zh HRB.out.drew; have D2 := zh HRM.out.drew; have D3 := zh HRN.out.drew; have D4 := zh (HGL.out.step (zb).drew); have D5 := zh HBE.out.drew; clear HRB HRM HRN HGL HBE; generalize wr.drew = wq at *
   go_wp2_with (first
    | (go_at_call 170; refine (HTU.out _).mono ?_; rintro e u6 ⟨rfl, b6⟩; have B6 := zh b6; have R6 := zh (D3.out.step b6); clear b6)
    | ((with_reducible refine R6.out.wpStoreK 197 T FH LN.out LT.out HT1.out ?_ ?_); rfl; intro u7 r7 o7 s7; have R7 := zh r7; have O7 := zh o7; clear r7 o7 s7))
   go_roundw
   case rel =>
    have hz6 := B6.out.size; have hz5 := D5.out.size
    refine ⟨t + 1, by omega, by go_num, (D1.out.step B6.out).only O7.out (by omega), (D2.out.step B6.out).only O7.out (by omega), by rw [HTN.out]; exact R7.out, (D4.out.step B6.out).only O7.out (by have := HG.out.size; omega), (D5.out.next B6.out).trans (O7.out.below (by omega) (by omega))⟩
   case measure => simp [intOf]; omega
  .have et : t = 64 := by omega
   rw [et] at hrn; obtain ⟨V, hV⟩ : ∃ V, V = trns sp h 64 := ⟨_, rfl⟩
   have hlV : V.length = 8 := by rw [hV, zih, Hh.out]
   rw [<- hV] at hrn
   have HMX2 : Hid (mixed h k = addK h V 8) := zh (by rw [hV]; exact HMX.out)
   have HRB := zh hrb; have HRN := zh hrn
   have HO : Hid (Only b w wr) := zh (Only.of_below hbel)
   have LV := zh hlV
   have hlt2 : 64 <= (t : Int) := by omega
   have hzN : N < wr.heap.size := hrn.lt
   clear hrb hrm hrn hgl hbel et hV hlV hlS hlT HMX; go_wp2
   go_loopw [26] (fun i wr => ∃ j : Nat, j <= 8 ∧ i = .int .i64 j ∧ Row wr b 200 (u32s (addK h V j) ++ r) ∧ Row wr N 197 (u32s V) ∧ Only b w wr) (fun i _ => 8 - (intOf i).toNat)
   case atStart => exact ⟨0, by omega, rfl, by rw [zbcs]; exact HRB.out, HRN.out, HO.out⟩
   case round =>
    clear HRB HRN HO; obtain ⟨j, hj, rfl, hrb, hrn, ho⟩ := hrel
    by_cases hlt3 : j < 8
    .have hjh : j < h.length := by rw [Hh.out]; exact hlt3
     have hjV : j < V.length := by rw [LV.out]; exact hlt3
     have hhV : h.length = V.length := by rw [Hh.out, LV.out]
     have hlA := zhw h V j hhV; have hst := zbcr h V j hhV hjh; have hget := zbhg h V j hhV hjh; obtain ⟨x, hx⟩ : ∃ x, h[j] = x := ⟨_, rfl⟩; obtain ⟨y, hy⟩ : ∃ y, V[j] = y := ⟨_, rfl⟩
     have cx : wr.cell? ⟨b, j, none⟩ = some (.int .u32 (tI x)) := by
      rw [hrb.cell, List.getElem?_append_left (by rw [zax, hlA]; exact hjh), zcv _ _ (by rw [hlA]; exact hjh), hget, hx]
     have cy : wr.cell? ⟨N, j, none⟩ = some (.int .u32 (tI y)) := by rw [hrn.cell, zcv _ _ hjV, hy]
     have hf := hrb.frozen j; have hset := hrb.set j (.int .u32 (tI (x + y))); rw [List.set_append_left _ _ (by rw [zax, hlA]; exact hjh), znu, <- hx, <- hy, <- hst, hx, hy] at hset
     have HSET := zh hset; have HRN := zh (hrn.far ⟨b, j, none⟩ (.int .u32 (tI (x + y))) (by show N ≠ b; omega))
     have HO := zh (ho.setCell ⟨b, j, none⟩ (.int .u32 (tI (x + y))) (Or.inl rfl)); have rp := zta; have rm := ztb
     have hj1 : (j : Int) < 8 := by omega
     have hj0 : 0 <= (j : Int) := by omega
     clear hrb hrn ho hlA hst hget hx hy hset hjh hjV hhV; go_wp2
     go_still_tail 11, (by kernel_rfl)
     change wpList _ _ _ _ _ wr.drew
     go_wp2
     go_roundw
     case rel => exact ⟨j + 1, by omega, by go_num, HSET.out.drew, HRN.out.drew, HO.out.drew⟩
     case measure => simp [intOf]; omega
    .have ej : j = 8 := by omega
     rw [ej, <- HMX2.out] at hrb; have HRB := zh hrb; have HO := zh ho; clear hrb hrn ho ej; go_wp2
     go_end0
     exact ⟨rfl, HRB.out, HO.out⟩
theorem zero32 : ∀ u, (zeroValue 27).run Tryz.prog u = .ok (.agg (bytes (List.replicate 32 0)).toArray) u := fun u => by kernel_rfl
theorem fits_hash : Fits Tryz.prog 27 32 := ⟨⟨_, Tryz.underlying27, rfl⟩, by kernel_rfl⟩
theorem zbbc : Fits Tryz.prog 197 8 := ⟨⟨_, Tryz.underlying197, rfl⟩, by kernel_rfl⟩
theorem zhh : One Tryz.prog 5 := One.of (by kernel_rfl)
theorem zbex (x : W) (s : Nat) : (tI x / 2 ^ s) % 256 = ((UInt8.ofNat ((x >>> s).toNat % 256)).toNat : Int) := by
 have h := NumMath.toNat_mod (x >>> s).toNat
 rw [h, BitVec.toNat_ushiftRight, Nat.shiftRight_eq_div_pow]
 unfold tI
 simp
theorem zbiq (h : List W) (w : World) (hh : h.length = 8) :
  Calls Tryz.prog 125 #[.agg (u32s h).toArray] w fun e w' => e = .returned (.agg (bytes (hashB h)).toArray) ∧ Below w.heap.size w w' := by
 obtain ⟨D, hD⟩ : ∃ D, D = hashB h := ⟨_, rfl⟩
 obtain ⟨O, hO⟩ : ∃ O : List UInt8, O = List.replicate 32 0 := ⟨_, rfl⟩
 obtain ⟨H, hH⟩ : ∃ H, H = u32s h := ⟨_, rfl⟩
 have lD : D.length = 32 := by rw [hD, zkx]
 have lO : O.length = 32 := by rw [hO]; simp
 have hget : ∀ (i : Nat) (x : W), i < 32 -> h[i / 4]? = some x -> D[i]? = some (UInt8.ofNat ((x >>> (24 - 8 * (i % 4))).toNat % 256)) := by
  intro i x hi hx
  subst hD
  rw [hashB, List.getElem?_map, List.getElem?_eq_getElem (by simpa using hi), List.getElem_range, Option.map_some, List.getD_eq_getElem?_getD, hx]
  rfl
 have HZ : Hid (∀ u, (zeroValue 27).run Tryz.prog u = .ok (.agg (bytes O).toArray) u) := zh (by rw [hO]; exact zero32)
 have F31 := fits_hash
 have LbO : Hid ((bytes O).length = 32) := zh (by rw [zaa, lO])
 have LbD : Hid ((bytes D).length = 32) := zh (by rw [zaa, lD])
 have H1 : Hid ((bytes D).all (·.oneCell') = true) := zh (zkm _)
 rw [<- hH, <- hD]
 have HGET := zh hget
 have HD := zh hD
 have HH := zh hH
 have LH := zh hh
 have LD := zh lD
 have LO := zh lO
 clear hD hO hH lD lO hget hh
 go_enter Tryz.func125, Tryz.ntmps125
 go_wp2_with (first
  | ((with_reducible refine wpBoxK H 197 ?_ ?_); rfl; intro u0 r0 b0 s0; have R0 := zh r0; have B0 := zh b0; have S0 := zh s0; clear r0 b0 s0)
  | ((with_reducible refine wpAllocK (w := u0) (bytes O) 27 HZ.out ?_ ?_); rfl; intro u1 r1 b1 s1; have R1 := zh r1; have B1 := zh b1; have S1 := zh s1; clear r1 b1 s1)
  | ((with_reducible refine wpAllocK (w := u1) (bytes O) 27 HZ.out ?_ ?_); rfl; intro u2 r2 b2 s2; have R2 := zh r2; have B2 := zh b2; have S2 := zh s2; clear r2 b2 s2))
 have z0 := S0.out
 have z1 := S1.out
 have z2 := S2.out
 obtain ⟨M, hM⟩ : ∃ M, M = u0.heap.size := ⟨_, rfl⟩
 obtain ⟨N, hN⟩ : ∃ N, N = u1.heap.size := ⟨_, rfl⟩
 have hr0 := (R0.out.step B1.out).step B2.out
 have hr1 := R1.out.step B2.out
 have hr2 := R2.out
 have hbb := (B0.out.next B1.out).next B2.out
 rw [HH.out] at hr0
 rw [<- hM] at hr1 ⊢
 rw [<- hN] at hr2 ⊢
 have hz1 : w.heap.size < M := by omega
 have hz2 : M < N := by omega
 have A0 := zh hr0
 have A1 := zh hr1
 have A2 := zh hr2
 have AB := zh hbb
 clear R0 B0 S0 R1 B1 S1 R2 B2 S2 hr0 hr1 hr2 hbb hM hN z0 z1 z2 HH HZ
 go_wp2
 go_loopw [5] (fun i wr => ∃ k : Nat, k <= 32 ∧ i = .int .i64 k ∧ Row wr w.heap.size 197 (u32s h) ∧ Row wr M 27 (bytes O) ∧ Row wr N 27 (bytes (over D O k)) ∧ Below w.heap.size w wr) (fun i _ => 32 - (intOf i).toNat)
 case atStart => exact ⟨0, by omega, rfl, A0.out, A1.out, by rw [zbfs]; exact A2.out, AB.out⟩
 case round =>
  clear A0 A1 A2 AB
  obtain ⟨k, hk, rfl, hr0, hr1, hr2, hbw⟩ := hrel
  by_cases hlt : k < 32
  .obtain ⟨q, hq⟩ : ∃ q, k / 4 = q := ⟨_, rfl⟩
   obtain ⟨m, hm⟩ : ∃ m, k % 4 = m := ⟨_, rfl⟩; obtain ⟨s, hs⟩ : ∃ s, 24 - 8 * m = s := ⟨_, rfl⟩
   have hqh : q < h.length := by rw [LH.out]; omega
   obtain ⟨x, hx⟩ : ∃ x, h[q] = x := ⟨_, rfl⟩; have hd := HGET.out k x hlt (by rw [hq, List.getElem?_eq_getElem hqh, hx])
   rw [hm, hs] at hd
   have hkD : k < D.length := by rw [LD.out]; exact hlt
   rw [List.getElem?_eq_getElem hkD] at hd
   have hd2 := Option.some.inj hd; have hhb := zbex x s; rw [<- hd2] at hhb; obtain ⟨c, hc⟩ : ∃ c, D[k] = c := ⟨_, rfl⟩; rw [hc] at hhb
   have hcell : wr.cell? ⟨w.heap.size, q, none⟩ = some (.int .u32 (tI x)) := by rw [hr0.cell, zcv _ _ hqh, hx]
   obtain ⟨u, hu⟩ : ∃ u, wr.cell? ⟨N, k, none⟩ = some u := ⟨_, by rw [hr2.cell, zez _ _ (by rw [zyb _ _ _ (by rw [LD.out, LO.out]), LO.out]; exact hlt)]⟩
   have hf := hr2.frozen k; have hset := hr2.set k (.int .u8 (c.toNat : Int)); rw [zre, <- hc, zbfr D O k (by rw [LD.out, LO.out]) hkD, hc] at hset
   have HSET := zh hset; have H0 := zh (hr0.far ⟨N, k, none⟩ (.int .u8 (c.toNat : Int)) (by show w.heap.size ≠ N; omega))
   have H1' := zh (hr1.far ⟨N, k, none⟩ (.int .u8 (c.toNat : Int)) (by show M ≠ N; omega))
   have HB := zh (hbw.setCell (p := ⟨N, k, none⟩) (by show w.heap.size <= N; omega) (.int .u8 (c.toNat : Int)))
   have e1 : (k : Int) / 4 = (q : Int) := by omega
   have e2 : (k : Int) % 4 = (m : Int) := by omega
   have e3 : 24 - 8 * (m : Int) = (s : Int) := by omega
   have hm4 : (m : Int) < 4 := by omega
   have hs4 : (s : Int) < 32 := by omega
   have hq4 : (q : Int) < 8 := by omega
   have hq5 : q < 8 := by omega
   have hk1 : (k : Int) < 32 := by omega
   clear hr0 hr1 hr2 hbw hd hd2 hc hset hx hqh hkD hq hm hs; go_wp2
   go_roundw
   case rel => exact ⟨k + 1, by omega, by go_num, H0.out, H1'.out, HSET.out, HB.out⟩
   case measure => simp [intOf]; omega
  .have ek : k = 32 := by omega
   rw [ek, zbfq D O 32 (by rw [LD.out]; omega) (by rw [LO.out]; omega)] at hr2
   have R1 := zh hr1; have R2 := zh hr2; have HB := zh hbw; clear hr0 hr1 hr2 hbw ek
   go_wp2_with (first
    | ((with_reducible refine R2.out.wpLoadK 27 F31 LbD.out ?_ ?_); rfl)
    | ((with_reducible refine R1.out.wpStoreK 27 (bytes D) F31 LbO.out LbD.out H1.out ?_ ?_); rfl; intro u3 r3 o3 s3; have R3 := zh r3; have O3 := zh o3; clear r3 o3 s3))
   refine bodyPost_ret (R3.out.result rfl _ _ rfl Tryz.underlying27 rfl (by rw [LbD.out]; exact F31.size)) rfl ⟨rfl, HB.out.trans (O3.out.below (by omega) HB.out.size)⟩
end
section
open Go.RowKit NumMath
def nsum (l : List Int) : Int := l.foldl (· + ·) 0
def nallOk (l : List Int) : Bool := l.all okB
theorem zlb (l : List Int) (s : Int) : nsum (l ++ [s]) = nsum l + s := by simp [nsum]
theorem zzu (l : List Int) (h : nallOk l = true) : 0 <= nsum l ∧ nsum l <= 7 * l.length := by
 induction l using snoc_ind with
 | h0 => simp [nsum]
 | h1 l s ih =>
  simp only [nallOk, List.all_append, List.all_cons, List.all_nil, Bool.and_true, Bool.and_eq_true] at h
  have := ih h.1
  have h2 : 1 <= s ∧ s <= 7 := by simpa [okB] using h.2
  rw [zlb, List.length_append, List.length_singleton]
  omega
theorem zib (l : List Int) (s : Int) : nallOk (l ++ [s]) = (nallOk l && okB s) := by simp [nallOk]
theorem zmn {l : List Int} (k : Nat) (h : nallOk l = true) : nallOk (l.take k) = true := by
 unfold nallOk at *
 rw [List.all_eq_true] at *
 intro x hx
 exact h x (List.mem_of_mem_take hx)
def ntot (l : List Int) : Int := if nallOk l then nsum l else 0
theorem zbae {l : List Int} (h : nallOk l = true) : ntot l = nsum l := by simp [ntot, h]
theorem zbol {l : List Int} (h : nallOk l = false) : ntot l = 0 := by simp [ntot, h]
theorem zkc {l : List Int} {a : Int} {b : Bool} (h1 : a = ntot l) (h2 : b = nallOk l) : Ending.returned (.tuple #[.int .i64 a, .bool b]) = .returned (.tuple #[.int .i64 (ntot l), .bool (nallOk l)]) := by rw [h1, h2]
theorem zgb (a : Option Addr) (cap : Nat) (l : List Int) (w : World) (hl : l.length <= 1152921504606846976) (hr : Lies w w.heap.size a (ints l)) :
  Calls Tryz.prog 146 #[.slice a l.length cap] w fun e w' =>
   e = .returned (.tuple #[.int .i64 (ntot l), .bool (nallOk l)]) ∧ w = w' := by
 go_enter Tryz.func146, Tryz.ntmps146
 go_wp2
 go_loop [4, 9] (fun t i => ∃ k : Nat, k <= l.length ∧ i = .int .i64 k ∧ nallOk (l.take k) = true ∧ t = .int .i64 (nsum (l.take k))) (fun _ i => l.length - (intOf i).toNat)
 case atStart => exact ⟨0, Nat.zero_le _, rfl, rfl, rfl⟩
 case round =>
  obtain ⟨k, hk, rfl, hall, rfl⟩ := hrel
  have hbd := zzu (l.take k) hall
  have hlen : (l.take k).length <= k := List.length_take_le _ _
  by_cases hlt : k < l.length
  .obtain ⟨b, off, rfl, hbb, hc⟩ := hr (by rw [zbp]; omega)
   have hcell : w.cell? ⟨b, off + k, none⟩ = some (.int .i64 l[k]) := hc k _ (zet l k hlt)
   clear hc hr; have HA := zh hall; clear hall; have HT := zh (zbq l k hlt)
   have HN : Hid (okB l[k] = false -> nallOk l = false) := zh fun hn => by
    cases hh : nallOk l with
    | false => rfl
    | true =>
     have := zmn (k + 1) hh
     rw [HT.out, zib, hn, Bool.and_false] at this
     cases this
   by_cases hok : okB l[k] = true
   .have hb2 : 1 <= l[k] ∧ l[k] <= 7 := by simpa [okB] using hok
    go_wp2_with (go_at_call 90; refine (zep _ _).mono ?_; rintro e w' ⟨rfl, rfl⟩)
    go_round
    case rel => exact ⟨k + 1, by omega, by go_num, by rw [HT.out, zib, HA.out, hok]; rfl, by rw [HT.out, zlb]⟩
    case measure => simp [intOf]; omega
   .have hno : okB l[k] = false := by simpa using hok
    clear hok
    go_wp2_with (go_at_call 90; refine (zep _ _).mono ?_; rintro e w' ⟨rfl, rfl⟩)
    go_ret2; have h2 := HN.out hno; exact ⟨zkc (zbol h2).symm h2.symm, rfl⟩
  .have HE : Hid (l.take k = l) := zh (List.take_of_length_le (by omega))
   have HA := zh hall; clear hall; go_wp2; go_ret2; have h1 := HA.out; rw [HE.out] at h1; exact ⟨zkc (by rw [HE.out, zbae h1]) h1.symm, rfl⟩
theorem zve (l : List UInt8) (b : UInt8) (h : l.length <= 6) :
  bits .or .i64 (wrap64 ((val l : Int) * 256)) (wrap64 (b.toNat : Int)) = (val (l ++ [b]) : Int) := by
 have hv := val_lt l
 have hb : b.toNat < 256 := b.toNat_lt
 have hp : 256 ^ l.length <= 256 ^ 6 := Nat.pow_le_pow_right (by omega) h
 have hn : (256 : Nat) ^ 6 = 281474976710656 := rfl
 rw [IntWalk.wrap64_in _ ⟨by omega, by omega⟩, IntWalk.wrap64_in _ ⟨by omega, by omega⟩]
 have e : (val l : Int) * 256 = ((2 ^ 8 * val l : Nat) : Int) := by omega
 rw [e, zbod _ _ (by omega) (by omega), <- Nat.two_pow_add_eq_or_of_lt (by omega), znv]
theorem zqf (s : ByteArray) (w : World) (hs : s.size <= 7) :
  Calls Tryz.prog 147 #[.string s] w fun e w' => e = .returned (.int .i64 (val s.data.toList)) ∧ w = w' := by
 go_enter Tryz.func147, Tryz.ntmps147
 go_wp2
 go_loop [3, 7] (fun t i => ∃ k : Nat, k <= s.size ∧ i = .int .i64 k ∧ t = .int .i64 (val (s.data.toList.take k))) (fun _ i => s.size - (intOf i).toNat)
 case atStart => exact ⟨0, Nat.zero_le _, rfl, rfl⟩
 case round =>
  obtain ⟨k, hk, rfl, rfl⟩ := hrel
  by_cases hlt : k < s.size
  .have HS : Hid (_ = _) := zh (zve (s.data.toList.take k) s[k] (by rw [List.length_take]; omega))
   have HT := zh (zob s k hlt); go_wp2
   go_round
   case rel => exact ⟨k + 1, by omega, by go_num, by rw [HS.out, HT.out]⟩
   case measure => simp [intOf]; omega
  .have HE : Hid (s.data.toList.take k = s.data.toList) := zh (List.take_of_length_le (by simp; omega))
   go_wp2; go_ret; exact ⟨zaz (by rw [HE.out]), rfl⟩
def nnums : List UInt8 -> List Int -> List Int
 | _, [] => []
 | L, s :: r => (val (L.take s.toNat) : Int) :: nnums (L.drop s.toNat) r
theorem zvc (L : List UInt8) (l : List Int) : (nnums L l).length = l.length := by
 induction l generalizing L with
 | nil => rfl
 | cons s r ih => simp [nnums, ih]
def nwidth (l : List Int) : Nat := l.foldr (fun s n => s.toNat + n) 0
theorem zmr (l : List Int) (s : Int) : nwidth (l ++ [s]) = nwidth l + s.toNat := by
 induction l with
 | nil => simp [nwidth]
 | cons x l ih =>
  have e : nwidth (x :: (l ++ [s])) = x.toNat + nwidth (l ++ [s]) := rfl
  have e2 : nwidth (x :: l) = x.toNat + nwidth l := rfl
  rw [List.cons_append, e, ih, e2]
  omega
theorem zbbm (L : List UInt8) (l : List Int) (s : Int) : nnums L (l ++ [s]) = nnums L l ++ [(val ((L.drop (nwidth l)).take s.toNat) : Int)] := by
 induction l generalizing L with
 | nil => simp [nnums, nwidth]
 | cons x l ih =>
  have e2 : nwidth (x :: l) = x.toNat + nwidth l := rfl
  rw [List.cons_append, nnums, ih, nnums, List.cons_append, e2, List.drop_drop]
theorem zbbn (l : List Int) (h : nallOk l = true) : nsum l = nwidth l := by
 induction l using snoc_ind with
 | h0 => rfl
 | h1 l s ih =>
  simp only [nallOk, List.all_append, List.all_cons, List.all_nil, Bool.and_true, Bool.and_eq_true] at h
  have h2 : 1 <= s ∧ s <= 7 := by simpa [okB] using h.2
  rw [zlb, zmr, ih h.1]
  omega
theorem zqi (l : List Int) (k : Nat) : nwidth (l.take k) <= nwidth l := by
 induction l generalizing k with
 | nil => simp
 | cons x l ih =>
  cases k with
  | zero => simp [nwidth]
  | succ k =>
   have e2 : nwidth (x :: l) = x.toNat + nwidth l := rfl
   have e3 : nwidth (x :: l.take k) = x.toNat + nwidth (l.take k) := rfl
   have := ih k
   rw [List.take_succ_cons, e2, e3]
   omega
def takeR (L : List UInt8) (l : List Int) : List Int × Int :=
 if nallOk l then if L.length < nwidth l then ([], 13) else (nnums L l, 0) else ([], 1)
theorem zbgu {L : List UInt8} {l : List Int} (h : nallOk l = false) : takeR L l = ([], 1) := by simp [takeR, h]
theorem zyq {L : List UInt8} {l : List Int} (h : nallOk l = true) (h2 : L.length < nwidth l) : takeR L l = ([], 13) := by simp [takeR, h, h2]
theorem zwx {L : List UInt8} {l : List Int} (h : nallOk l = true) (h2 : nwidth l <= L.length) : takeR L l = (nnums L l, 0) := by simp [takeR, h, Nat.not_lt.2 h2]
def NTakes (L : List UInt8) (l : List Int) (w : World) (e : Ending) (w' : World) : Prop :=
 ∃ v, e = .returned (.tuple #[v, .int .i64 (takeR L l).2]) ∧ w'.ownsRow w.heap.size 3 1 v (takeR L l).1.length (ints (takeR L l).1) ∧ Below w.heap.size w w'
theorem zeu (t : ByteArray) (n : Nat) : (t.extract n t.size).data.toList = t.data.toList.drop n := by
 rw [Lib.extract_data]
 exact List.take_of_length_le (by rw [List.length_drop]; simp)
theorem zgy (t : ByteArray) (n : Nat) : (t.extract 0 n).data.toList = t.data.toList.take n := by
 rw [Lib.extract_data]; simp
theorem zvd (s : ByteArray) (a : Option Addr) (cap : Nat) (l : List Int) (w : World) (hl : l.length <= 100000) (_hs : s.size <= 140737488355328) (hr : Lies w w.heap.size a (ints l)) :
  Calls Tryz.prog 120 #[.string s, .slice a l.length cap] w (NTakes s.data.toList l w) := by
 by_cases hok : nallOk l = true
 .have hT := zzu l hok
  have hW := zbbn l hok
  obtain ⟨p, hp⟩ : ∃ p, p = nwidth l := ⟨_, rfl⟩
  have ht : ntot l = (p : Int) := by rw [zbae hok, hW, hp]
  have hpb : p <= 700000 := by rw [hp]; omega
  have HW := zh hW
  have HP := zh hp
  clear hW hp hT
  obtain ⟨i0, hi, hz0, hz1, hz2⟩ := info_parts zbis
  by_cases hshort : s.size < p
  .go_enter Tryz.func120, Tryz.ntmps120
   go_wp2_with (go_at_call 146; refine (zgb _ _ _ _ (by omega) hr).mono ?_; rintro e w' ⟨rfl, rfl⟩)
   go_ret2; have h2 := zyq (L := s.data.toList) hok (by rw [<- HP.out]; simpa using hshort)
   exact ⟨_, by rw [h2]; rfl, by rw [h2]; exact World.ownsRow_nil _ _ _ _, zb⟩
  .go_enter Tryz.func120, Tryz.ntmps120
   go_wp2_with (first | (go_at_call 146; refine (zgb _ _ _ _ (by omega) hr).mono ?_; rintro e w' ⟨rfl, rfl⟩) | (at_make; refine wpList_make_own _ rfl (.const (.int .i64 0)) (.tmp 23) 47 rfl w.heap.size 3 i0 (.int .i64 0) 1 Tryz.underlying47 hi hz0 hz1 _ _ _ l.length rfl rfl rfl ?b2 ?b3 (Nat.le_refl _) ?_))
   case b2 => rw [hz2]; omega
   case b3 => unfold maxLen; omega
   intro w0 hown0 hg0; go_wp2
   have hb0 : Below w.heap.size w w0 := (zb).grown hg0 (Nat.le_refl _) (fun k h => by cases h)
   clear hg0
   go_loopw [0, 8, 27] (fun t v i wr => ∃ (k : Nat) (T : ByteArray), k <= l.length ∧ i = .int .i64 k ∧ t = .string T ∧ T.data.toList = s.data.toList.drop (nwidth (l.take k)) ∧ v = .slice (some ⟨w.heap.size, 0, none⟩) k l.length ∧
     wr.ownsRow w.heap.size 3 1 (.slice (some ⟨w.heap.size, 0, none⟩) k l.length) k (ints (nnums s.data.toList (l.take k))) ∧ Below w.heap.size w wr)
    (fun _ _ i _ => l.length - (intOf i).toNat)
   case atStart => exact ⟨0, s, Nat.zero_le _, rfl, rfl, by simp [nwidth], rfl, by simpa [ints, nnums] using hown0, hb0⟩
   case round =>
    obtain ⟨k, T, hk, rfl, rfl, hT, rfl, hownr, hbw⟩ := hrel
    by_cases hlt : k < l.length
    .obtain ⟨b, off, rfl, hbb, hc⟩ := hr (by rw [zbp]; omega)
     have hcell0 : wr.cell? ⟨b, off + k, none⟩ = some (.int .i64 l[k]) := (hbw.cell (p := ⟨b, off + k, none⟩) hbb).trans (hc k _ (zet l k hlt))
     have HT := zh (zbq l k hlt)
     have hok1 : 1 <= l[k] ∧ l[k] <= 7 := by
      have := zmn (k + 1) hok
      rw [HT.out, zib, Bool.and_eq_true] at this
      simpa [okB] using this.2
     obtain ⟨m, hm⟩ : ∃ m : Nat, l[k] = (m : Int) := ⟨l[k].toNat, by omega⟩
     have hm1 : 1 <= m := by omega
     have hm7 : m <= 7 := by omega
     rw [hm] at hcell0
     have hwk : nwidth (l.take (k + 1)) = nwidth (l.take k) + m := by rw [HT.out, zmr, hm]; rfl
     have hsz : T.size = s.size - nwidth (l.take k) := by
      have := congrArg List.length hT
      simpa using this
     have hroom : m <= T.size := by
      have h1 := zqi l (k + 1); have h2 := HP.out
      omega
     have HM := zh hm; have HZ := zh hsz; have HWK := zh hwk; have HTT := zh hT
     have hss : (T.extract 0 m).size <= 7 := by
      have := congrArg List.length (zgy T m)
      rw [List.length_take] at this
      have e : (T.extract 0 m).data.toList.length = (T.extract 0 m).size := by simp
      omega
     clear hc hr hown0 hb0 hok1 hm hwk hsz hT ht; have HOK := zh hok; clear hok
     go_wp2_with (first | (go_at_call 147; refine (zqf _ _ hss).mono ?_; rintro e w' ⟨rfl, rfl⟩) | (at_builtin; refine wpList_append_fits _ rfl (.tmp 31) (.tmp 36) 47 rfl w.heap.size 3 i0 1 Tryz.underlying47 hi hz1 w.heap.size k l.length _ rfl (hownr.alloc _) ⟨wr.heap.size, 0, none⟩ 1 1 [.int .i64 ((val (T.extract 0 m).data.toList : Nat) : Int)] rfl rfl ?c1 ?c2 (by omega) ?_))
     case c1 =>
      intro j u hj
      match j, hj with
      | 0, hj =>
       simp at hj
       subst hj
       simp [Addr.add]
     case c2 => intro u hu; simp at hu; subst hu; rfl
     intro w1 hown1 hg1
     have hb1 : Below w.heap.size w w1 := (hbw.alloc hbw.size _).grown hg1 (by have := hbw.size; simp; omega) (fun j hj => by cases hj; exact Nat.le_refl _)
     clear hg1; go_wp2
     go_roundw
     case rel =>
      refine ⟨k + 1, T.extract m T.size, by omega, by go_num, rfl, ?_, rfl, ?_, hb1⟩
      .rw [zeu, HTT.out, List.drop_drop, HWK.out]
      .rw [HT.out, zbbm, zxu, HM.out, <- HTT.out, Int.toNat_natCast]
       exact hown1
     case measure => simp [intOf]; omega
    .have HE : Hid (l.take k = l) := zh (List.take_of_length_le (by omega))
     have HTT := zh hT; have HOK := zh hok; clear hT hok; go_wp2; go_ret2; have h2 := zwx (L := s.data.toList) HOK.out (by rw [<- HP.out]; simp; omega)
     have ek : k = l.length := by omega
     subst ek; rw [HE.out] at hownr; exact ⟨_, by rw [h2]; rfl, by rw [h2]; rw [zvc]; exact hownr, hbw⟩
 .have hno : nallOk l = false := by simpa using hok
  clear hok
  go_enter Tryz.func120, Tryz.ntmps120
  go_wp2_with (go_at_call 146; refine (zgb _ _ _ _ (by omega) hr).mono ?_; rintro e w' ⟨rfl, rfl⟩)
  go_ret2
  have h2 := zbgu (L := s.data.toList) hno
  exact ⟨_, by rw [h2]; rfl, by rw [h2]; exact World.ownsRow_nil _ _ _ _, zb⟩
def NMade (r : List Int) (c : Int) (w : World) (e : Ending) (w' : World) : Prop :=
 ∃ a cap, e = .returned (.tuple #[.slice a r.length cap, .int .i64 c]) ∧ Lies w' w'.heap.size a (ints r) ∧ Below w.heap.size w w'
theorem zxz (s : ByteArray) (L : List UInt8) (a : Option Addr) (n cap : Nat) (l r : List Int) (c : Int) (w : World) (hs : s.data.toList = L) (hz : s.size <= 140737488355328) (hn : l.length = n) (hR : takeR L l = (r, c)) (hl : n <= 100000) (hr : Lies w w.heap.size a (ints l)) :
  Calls Tryz.prog 120 #[.string s, .slice a n cap] w (NMade r c w) := by
 subst hn
 subst hs
 refine (zvd s a cap l w hl hz hr).mono fun e w' h => ?_
 obtain ⟨v, he, hown, hb⟩ := h
 rw [hR] at he hown
 obtain ⟨ra, rc, hv, hlies⟩ := zjh hown
 exact ⟨ra, rc, by rw [he, hv], hlies, hb⟩
theorem zqg (w : World) (x : Int) (h0 : 0 <= x) (h1 : x <= 255) (g : Nat) (hg : w.cell? ⟨g, 0, none⟩ = some (.int .u8 x)) :
  (convert 107 9 (.slice (some ⟨g, 0, none⟩) 1 1)).run Tryz.prog w = .ok (.string (str [UInt8.ofNat x.toNat])) w := by
 refine run_convert_bytes_back w _ _ _ _ _ [UInt8.ofNat x.toNat] Tryz.underlying107 Tryz.underlying5 Tryz.underlying9 fun j hj => ?_
 have : j = 0 := by simpa using hj
 subst this
 have e : ((UInt8.ofNat x.toNat).toNat : Int) = x := by rw [UInt8.toNat_ofNat']; omega
 simp only [List.getElem_cons_zero, e]
 exact hg
theorem zzm (n x : Nat) : fitB n x = decide (x / 256 ^ n = 0) := by
 unfold fitB
 rw [Bool.eq_iff_iff]
 simp only [decide_eq_true_eq, Int.toNat_natCast]
 have hp : 0 < 256 ^ n := Nat.pow_pos (by omega)
 have e : ((256 ^ n : Nat) : Int) = 256 ^ n := by simp
 rw [Nat.div_eq_zero_iff_lt hp]
 omega
theorem zqh (s : Int) (a : Option Addr) (cap : Nat) (l : List Int) (w : World) (hl : l.length <= 100000) (hwf : ∀ x ∈ l, x <= 9223372036854775807) (hr : Lies w w.heap.size a (ints l)) :
  Calls Tryz.prog 59 #[.int .i64 s, .slice a l.length cap] w (Answers s l w) := by
 by_cases hok : okB s = true
 .have hs2 : 1 <= s ∧ s <= 7 := by simpa [okB] using hok
  obtain ⟨n, rfl⟩ := Int.eq_ofNat_of_zero_le (show 0 <= s by omega)
  have hn1 : 1 <= n := by omega
  have hn7 : n <= 7 := by omega
  have HOK := zh hok
  clear hok
  go_enter Tryz.func59, Tryz.ntmps59
  go_wp2
  go_loopw [6, 7] (fun o i wr => ∃ k : Nat, k <= l.length ∧ i = .int .i64 k ∧ fitAll n (l.take k) = true ∧ o = .string (str (putBytes n (l.take k))) ∧ Below w.heap.size w wr)
   (fun _ i _ => l.length - (intOf i).toNat)
  case atStart => exact ⟨0, Nat.zero_le _, rfl, rfl, rfl, zb⟩
  case round =>
   obtain ⟨k, hk, rfl, hall, rfl, hbw⟩ := hrel
   by_cases hlt : k < l.length
   .obtain ⟨b, off, rfl, hbb, hc⟩ := hr (by rw [zbp]; omega)
    have hcell : wr.cell? ⟨b, off + k, none⟩ = some (.int .i64 l[k]) := (hbw.cell (p := ⟨b, off + k, none⟩) hbb).trans (hc k _ (zet l k hlt))
    clear hc hr; have HA := zh hall; clear hall; have HT := zh (zbq l k hlt)
    by_cases hneg : l[k] < 0
    .have hno : fitB n l[k] = false := by unfold fitB; simp; omega
     have hnot : Hid (fitAll n l = false) := zh <| by
      cases hh : fitAll n l with
      | false => rfl
      | true =>
       have := zhz (k + 1) hh
       rw [HT.out, zei, hno, Bool.and_false] at this
       cases this
     clear hno
     have hne : (l[k] != 0) = true := by rw [bne_iff_ne]; omega
     go_wp2
     refine wp_loop_rounds 1 ?_
     rw [rounds_succ]; go_wp2; go_ret2; exact ⟨by rw [zjj HOK.out hnot.out]; rfl, hbw⟩
    .obtain ⟨x, hx⟩ : ∃ x : Nat, l[k] = (x : Int) := ⟨l[k].toNat, by omega⟩
     rw [hx] at hcell
     have hxb : x <= 9223372036854775807 := by have := hwf l[k] (List.getElem_mem hlt); omega
     have HX := zh hx; clear hx hneg; go_wp2
     go_loopw [8, 9, 10] (fun y t j w2 => ∃ q : Nat, q <= n ∧ j = .int .i64 q ∧ y = .int .i64 ((x / 256 ^ q : Nat) : Int) ∧ t = .string (str (be q x)) ∧ Below w.heap.size w w2)
      (fun _ _ j _ => n - (intOf j).toNat)
     case atStart => exact ⟨0, Nat.zero_le _, rfl, by simp, rfl, hbw⟩
     case round =>
      obtain ⟨q, hq, rfl, rfl, rfl, hb2⟩ := hrel; obtain ⟨y, hy⟩ : ∃ y, y = x / 256 ^ q := ⟨_, rfl⟩
      have hyb : y <= 9223372036854775807 := by rw [hy]; exact Nat.le_trans (Nat.div_le_self _ _) hxb
      rw [<- hy]; have HY := zh hy; clear hy hxb
      have hz1 : (str (be q x)).size <= 7 := by rw [zbc, be_length]; omega
      have hz2 : (str (putBytes n (l.take k))).size <= 700000 := by
       rw [zbc, zoq, List.length_take]
       have := Nat.mul_le_mul (show min k l.length <= 100000 by omega) hn7
       simpa using this
      by_cases hqn : q < n
      .have hconv := zqg (wr.alloc (.cells #[.int .u8 ((y : Int) % 256)] 5)) ((y : Int) % 256) (by omega) (by omega) wr.heap.size (World.cell?_alloc_at _ _ _ _ rfl)
       have hz3 : (str [UInt8.ofNat (y % 256)]).size <= 1 := by rw [zbc]; simp
       go_wp2
       go_roundw
       case rel =>
        refine ⟨q + 1, by omega, by go_num, ?_, ?_, hb2.alloc hb2.size _⟩
        .rw [Nat.pow_succ, <- Nat.div_div_eq_div_mul, <- HY.out]
         go_num
        .rw [zcb, zza, <- HY.out]
         rfl
       case measure => simp [intOf]; omega
      .by_cases hy0 : y = 0
       .subst hy0
        go_wp2
        go_roundw
        case rel =>
         have eq : q = n := by omega
         subst eq
         refine ⟨k + 1, by omega, by go_num, ?_, ?_, hb2⟩
         .rw [HT.out, zei, HA.out, HX.out, zzm, <- HY.out]
          rfl
         .rw [HT.out, zkd, zcb, HX.out]
          rfl
        case measure => simp [intOf]; omega
       .have hne : ((y : Int) != 0) = true := by rw [bne_iff_ne]; omega
        go_wp2; go_ret2
        have hnot : fitAll n l = false := by
         cases hh : fitAll n l with
         | false => rfl
         | true =>
          have := zhz (k + 1) hh
          have eq : q = n := by omega
          subst eq; rw [HT.out, zei, HA.out, HX.out, zzm, <- HY.out] at this
          simp [hy0] at this
        exact ⟨by rw [zjj HOK.out hnot]; rfl, hb2⟩
   .have HE : Hid (l.take k = l) := zh (List.take_of_length_le (by omega))
    have HA := zh hall; clear hall; go_wp2; go_ret2; have h1 := HA.out; rw [HE.out] at h1; exact ⟨by rw [ziq HOK.out h1, HE.out]; rfl, hbw⟩
 .have hno : okB s = false := by simpa using hok
  have h2 : ¬ (1 <= s ∧ s <= 7) := by simpa [okB] using hno
  have HN := zh hno
  clear hok hno
  by_cases h1 : s < 1
  all_goals
   go_enter Tryz.func59, Tryz.ntmps59
   go_wp2; go_ret2; exact ⟨by rw [zvn HN.out]; rfl, zb⟩
theorem zkb (s : Int) (a : Option Addr) (n cap : Nat) (l : List Int) (L : List UInt8) (c : Int) (w : World) (hn : l.length = n) (hR : putR s l = (L, c)) (hl : n <= 100000) (hwf : ∀ x ∈ l, x <= 9223372036854775807) (hr : Lies w w.heap.size a (ints l)) :
  Calls Tryz.prog 59 #[.int .i64 s, .slice a n cap] w fun e w' => e = .returned (.tuple #[.string (str L), .int .i64 c]) ∧ Below w.heap.size w w' := by
 subst hn
 refine (zqh s a cap l w hl hwf hr).mono fun e w' h => ?_
 unfold Answers at h
 rw [hR] at h
 exact h
end
end Go.Proofs.YtojimgbcghiblaaGreatDoor