import Derived.Test.YtojimgbcghiblaaGreatDoorL3
set_option linter.unusedVariables false
set_option maxRecDepth 100000
set_option maxHeartbeats 8000000
namespace Go.Proofs.YtojimgbcghiblaaGreatDoor
section
open Go.RowKit GfMath PolyMath RsMath
theorem zqt : (Tryz.prog.info? 107).map (·.size) = some 1 := by kernel_rfl
theorem Lies.onlyNe {w w' : World} {g : Nat} {a : Option Addr} {xs : List Value} (h : Lies w w.heap.size a xs) (ho : Only g w w') (hne : ∀ x, a = some x -> 0 < xs.length -> x.block ≠ g) : Lies w' w'.heap.size a xs := by
 intro hx
 obtain ⟨b, off, e, hlt, hc⟩ := h hx
 have hb : b ≠ g := hne _ e hx
 refine ⟨b, off, e, Nat.lt_of_lt_of_le hlt ho.size, fun j u hu => ?_⟩
 have := hc j u hu
 simp only [World.cell?] at this ⊢
 rw [ho.2.2.2.2 b hlt hb]
 exact this
theorem Lies.noCode {w : World} {c b n k : Nat} {v : Value} {a : Option Addr} {l : List Nat} (h : Lies w w.heap.size a (u8s l)) (hr : Row w c 158 (codeL b n k v)) (hv : ∀ x : Nat, v ≠ .int .u8 (x : Int)) : ∀ x, a = some x -> 0 < (u8s l).length -> x.block ≠ c := by
 intro x hx h0 he
 obtain ⟨b2, off, e, hlt, hc⟩ := h h0
 rw [hx] at e
 cases e
 have h1 := hc 0 _ (zbp l 0 (by rw [zaf] at h0; exact h0))
 rw [show b2 = c from he, hr.cell] at h1
 simp only [Nat.add_zero, codeL] at h1
 match off, h1 with
 | 0, h1 => simp at h1
 | 1, h1 => simp at h1
 | 2, h1 => simp at h1
 | 3, h1 => simp at h1; exact hv _ h1
 | _ + 4, h1 => simp at h1
theorem zbge (b k p : Nat) (w : World) (hf : Fld w b) (hk : 1 <= k) (hp : 1 <= p) (hn : k + p <= 255) (hp64 : p <= 64) :
  Calls Tryz.prog 62 #[.pointer (some ⟨b, 0, none⟩), .int .i64 ((k + p : Nat) : Int), .int .i64 (k : Int)] w fun e w' =>
   (∃ c, e = .returned (.tuple #[.pointer (some ⟨c, 0, none⟩), .int .i64 0]) ∧ Cod w' c b k p) ∧ Below w.heap.size w w' := by
 have HF := zh hf
 have HK : Hid (1 <= k) := zh hk
 have HP : Hid (1 <= p) := zh hp
 have HN : Hid (k + p <= 255) := zh hn
 obtain ⟨n, hnn⟩ : ∃ n, k + p = n := ⟨_, rfl⟩
 have HNN : Hid (k + p = n) := zh hnn
 have h1 : ¬ (k : Int) < 1 := by omega
 have h2 : ¬ (n : Int) <= (k : Int) := by omega
 have h2b : (k : Int) < (n : Int) := by omega
 have h3 : ¬ (n : Int) > 255 := by omega
 have h4 : (n : Int) - (k : Int) = (p : Int) := by omega
 have h5 : ¬ (p : Int) > 64 := by omega
 have hkb : (k : Int) <= 255 := by omega
 rw [hnn] at hn ⊢
 have HEA : Hid (∀ (u : World) (c : Nat), Row u c 158 (codeL b n k (.slice none 0 0)) -> Fld u b -> Calls Tryz.prog 97 #[.pointer (some ⟨c, 0, none⟩), .func (.func 98) #[] #[]] u fun e w' => (∃ g, e = .returned (.slice (some ⟨g, 0, none⟩) p p) ∧ u.heap.size <= g ∧ Row w' g 5 (u8s (exs p))) ∧ Below u.heap.size u w') := zh fun u c h1 h2 => zbbs c b k p _ u (by rw [<- HNN.out] at h1; exact ⟨h1, h2⟩) HN.out
 have HRO : Hid (∀ (u : World) (g : Nat), Row u g 5 (u8s (exs p)) -> Fld u b -> Calls Tryz.prog 96 #[.pointer (some ⟨b, 0, none⟩), .slice (some ⟨g, 0, none⟩) p p] u fun e w' => (∃ a cap, e = .returned (.slice a (p + 1) cap) ∧ p + 1 <= cap ∧ Lies w' w'.heap.size a (u8s (rt (exs p)))) ∧ Below u.heap.size u w') := zh fun u g h1 h2 => by
  have h := zbgc b (some ⟨g, 0, none⟩) p (exs p) u h2 (zec p) (by rw [zdk]; omega) (zbk h1)
  rw [zdk] at h
  refine h.mono fun e w' ⟨⟨v, h3, a, cap, h4, h5, h6⟩, h7⟩ => ?_
  have hl := (zdv (exs p) (zec p)).2.1
  rw [zdk] at hl
  rw [hl] at h4 h5
  exact ⟨⟨a, cap, by rw [h3, h4], h5, h6⟩, h7⟩
 have HB1 := zh zqt
 obtain ⟨w1, hw1⟩ : ∃ w1, w1 = w.alloc (.cells #[.pointer (some ⟨b, 0, none⟩), .int .i64 (n : Int), .int .i64 (k : Int), .slice none 0 0] 158) := ⟨_, rfl⟩
 have R0 : Hid (Row w1 w.heap.size 158 (codeL b n k (.slice none 0 0))) := zh (by rw [hw1]; exact Row.new w _ _)
 have B0 : Hid (Below w.heap.size w w1) := zh (by rw [hw1]; exact zab _ _)
 have HEW : Hid (Calls Tryz.prog 97 #[.pointer (some ⟨w.heap.size, 0, none⟩), .func (.func 98) #[] #[]] (w.alloc (.cells #[.pointer (some ⟨b, 0, none⟩), .int .i64 (n : Int), .int .i64 (k : Int), .slice none 0 0] 158)) fun e w' => (∃ g, e = .returned (.slice (some ⟨g, 0, none⟩) p p) ∧ w.heap.size < g ∧ Row w' g 5 (u8s (exs p)) ∧ Row w' w.heap.size 158 (codeL b n k (.slice none 0 0)) ∧ Fld w' b) ∧ Below w.heap.size w w') := zh (by
  rw [<- hw1]
  refine (HEA.out w1 w.heap.size R0.out (HF.out.step B0.out)).mono fun e w' ⟨⟨g, h1, h2, h3⟩, h4⟩ => ⟨⟨g, h1, ?_, h3, R0.out.step h4, (HF.out.step B0.out).step h4⟩, B0.out.next h4⟩
  have := R0.out.lt
  omega)
 have HLC : Hid (3 < (codeL b n k (.slice none 0 0)).length) := zh (by show 3 < 4; omega)
 clear hf hk hp hnn hw1 R0 B0 HEA
 go_enter Tryz.func62, Tryz.ntmps62
 go_wp2_with (first
  | (go_at_call 97; (with_reducible refine HEW.out.mono ?_); rintro e u1 ⟨⟨g, rfl, g0, r1, rc1, f1⟩, b1⟩; have G0 := zh g0; have R1 := zh r1; have RC1 := zh rc1; have F1 := zh f1; have B1 := zh b1; clear g0 r1 rc1 f1 b1)
  | (go_at_call 96; (with_reducible refine (HRO.out u1 g R1.out F1.out).mono ?_); rintro e u2 ⟨⟨a, cap, rfl, hcap, hl⟩, b2⟩; have HCA := zh hcap; have HL := zh hl; have RC2 := zh (RC1.out.step b2); have F2 := zh (F1.out.step b2); have B2 := zh (B1.out.next b2); clear hcap hl b2)
  | ((with_reducible refine RC2.out.wpStore1K 3 107 (.slice a (p + 1) cap) HB1.out HLC.out rfl rfl ?_ ?_); rfl; intro u3 r3 o3 s3; have R3 := zh r3; have O3 := zh o3; clear r3 o3 s3))
 go_ret2
 refine ⟨⟨_, rfl, HK.out, HP.out, HN.out, hp64, a, cap, ⟨by have := R3.out; rw [HNN.out]; exact this, F2.out.only O3.out (fun h => ?_)⟩, HCA.out, HL.out.onlyNe O3.out (HL.out.noCode RC2.out (fun x h => by cases h))⟩, B2.out.trans (O3.out.below (Nat.le_refl _) B2.out.size)⟩
 have := HF.out.lt
 omega
theorem zbkp (w : World) (x y : Value) (s t : TypeId) : ∃ u, u = (w.alloc (.cells #[x] s)).alloc (.cells #[y] t) ∧ u.cell? ⟨w.heap.size, 0, none⟩ = some x ∧ u.cell? ⟨w.heap.size + 1, 0, none⟩ = some y ∧ Below w.heap.size w u ∧ u.heap.size = w.heap.size + 2 := by
 have r1 : Row (w.alloc (.cells #[x] s)) w.heap.size s [x] := Row.new w s [x]
 have r2 : Row ((w.alloc (.cells #[x] s)).alloc (.cells #[y] t)) (w.alloc (.cells #[x] s)).heap.size t [y] := Row.new _ t [y]
 have hs : (w.alloc (.cells #[x] s)).heap.size = w.heap.size + 1 := by simp
 refine ⟨_, rfl, ?_, ?_, (zab _ _).next (zab _ _), by simp⟩
 .rw [(r1.alloc _).cell]; rfl
 .rw [hs] at r2; rw [r2.cell]; rfl
theorem zzs (c b k p : Nat) (v : Value) (a : Option Addr) (cap : Nat) (l : List Nat) (w : World) (h : Cor w c b k p v) (hn : k + p <= 255) (hl : l.length = k + p) (hby : By l) (hcap : l.length <= cap) (hr : Lies w w.heap.size a (u8s l)) :
  Calls Tryz.prog 154 #[.pointer (some ⟨c, 0, none⟩), .slice a (k + p) cap] w fun e w' =>
   (∃ g, e = .returned (.tuple #[.slice (some ⟨g, 0, none⟩) p p, .int .i64 0]) ∧ w.heap.size <= g ∧ Row w' g 5 (u8s (tab p fun i => ev l (ex i)))) ∧ Below w.heap.size w w' := by
 obtain ⟨u2, hu, q1, q2, b2, s2⟩ := zbkp w (.pointer (some ⟨c, 0, none⟩)) (.slice a (k + p) cap) 122 107
 have hc2 := h.step b2
 have HN : Hid (∀ d, Calls Tryz.prog 133 #[.pointer (some ⟨c, 0, none⟩)] (u2.drewN d) fun e w' => e = .returned (.bool false) ∧ w' = u2.drewN d) := zh fun d => (zee c b k p v _ (hc2.step ((zb).drewN d))).mono fun _ _ h => ⟨h.1, h.2.symm⟩
 have HEA : Hid (∀ d, Calls Tryz.prog 97 #[.pointer (some ⟨c, 0, none⟩), .func (.func 173) #[] #[.pointer (some ⟨w.heap.size, 0, none⟩), .pointer (some ⟨w.heap.size + 1, 0, none⟩)]] (u2.drewN d) fun e w' => (∃ g, e = .returned (.slice (some ⟨g, 0, none⟩) p p) ∧ w.heap.size <= g ∧ Row w' g 5 (u8s (tab p fun i => ev l (ex i)))) ∧ Below w.heap.size w w') := zh fun d => by
  have e1 : (u2.drewN d).heap.size = w.heap.size + 2 := s2
  refine (zbbr c b k p v w.heap.size (w.heap.size + 1) a cap l _ (hc2.step ((zb).drewN d)) hn (by omega) hby hcap ((hr.step b2).step ((zb).drewN d)) (by omega) (by omega) q1 (by rw [hl]; exact q2)).mono fun e w' ⟨⟨g, h1, h2, h3⟩, h4⟩ => ⟨⟨g, h1, by omega, h3⟩, (b2.drewN d).trans (h4.mono (by omega))⟩
 have q3 := hc2.c1
 have HU := zh hu
 obtain ⟨m, hm⟩ : ∃ m, k + p = m := ⟨_, rfl⟩
 rw [hm] at q3 hn HU
 have hmb : (m : Int) <= 255 := by omega
 rw [hm] at q2 ⊢
 clear hu b2 s2 h hc2 hm hr hby hl
 go_enter Tryz.func154, Tryz.ntmps154
 go_wp2
 rw [<- HU.out]
 go_quiet ((go_at_call 133; exact Calls.quiet_of_same (HN.out _)))
 go_wp2_with (go_at_call 97; (with_reducible refine (HEA.out _).mono ?_); rintro e u3 ⟨⟨g, rfl, g0, r3⟩, b3⟩; have G0 := zh g0; have R3 := zh r3; have B3 := zh b3; clear g0 r3 b3)
 go_ret2
 exact ⟨⟨_, rfl, G0.out, R3.out⟩, B3.out⟩
theorem zvt (x : Nat) (w : World) :
  Calls Tryz.prog 181 #[.int .u8 (x : Int)] w fun e w' => e = .returned (.bool (decide (x ≠ 0))) ∧ w = w' := by
 by_cases h : x = 0
 .subst h
  go_enter Tryz.func181, Tryz.ntmps181
  go_wp2
  go_ret
  exact ⟨rfl, rfl⟩
 .have h1 : ((x : Int) != 0) = true := by simp; omega
  have h2 : ¬ (x : Int) = 0 := by omega
  have h3 : decide (x ≠ 0) = true := by simpa using h
  go_enter Tryz.func181, Tryz.ntmps181
  go_wp2
  go_ret
  exact ⟨zap h3.symm, rfl⟩
theorem zxy (a : Option Addr) (cap : Nat) (l : List Nat) (w : World) (hl : l.length <= 140737488355328) (hr : Lies w w.heap.size a (u8s l)) :
  Calls Tryz.prog 183 #[.slice a l.length cap, .func (.func 181) #[] #[]] w fun e w' => e = .returned (.int .i64 (firstOf l)) ∧ w = w' := by
 go_enter Tryz.func183, Tryz.ntmps183
 go_wp2
 go_loop [8] (fun i => ∃ k : Nat, k <= l.length ∧ i = .int .i64 k ∧ ∀ j, j < k -> sq l j = 0) (fun i => l.length - (intOf i).toNat)
 case atStart => exact ⟨0, Nat.zero_le _, rfl, fun j hj => absurd hj (by omega)⟩
 case round =>
  obtain ⟨k, hk, rfl, hz⟩ := hrel
  have HZ := zh hz
  clear hz
  by_cases hlt : k < l.length
  .obtain ⟨b2, off, rfl, hbb, hc⟩ := hr (by rw [zaf]; omega)
   have hcell : w.cell? ⟨b2, off + k, none⟩ = some (.int .u8 (sq l k : Int)) := by rw [zar l k hlt]; exact hc k _ (zbp l k hlt)
   obtain ⟨x, hx⟩ : ∃ x, sq l k = x := ⟨_, rfl⟩; rw [hx] at hcell
   have hk1 : (k : Int) < l.length := by omega
   by_cases h0 : x = 0
   .have HN : Hid (∀ u, Calls Tryz.prog 181 #[.int .u8 (x : Int)] u fun e w' => e = .returned (.bool false) ∧ u = w') := zh fun u => by have := zvt x u; rwa [decide_eq_false (by omega)] at this
    have HX : Hid (sq l k = 0) := zh (by rw [hx, h0])
    clear hr hc hx h0
    go_wp2_with (go_at_call 181; (with_reducible refine (HN.out _).mono ?_); rintro e w1 ⟨rfl, rfl⟩)
    go_round
    case rel => exact ⟨k + 1, by omega, by go_num, fun j hj => by
     by_cases e : j = k
     .rw [e]; exact HX.out
     .exact HZ.out j (by omega)⟩
    case measure => simp [intOf]; omega
   .have HN : Hid (∀ u, Calls Tryz.prog 181 #[.int .u8 (x : Int)] u fun e w' => e = .returned (.bool true) ∧ u = w') := zh fun u => by have := zvt x u; rwa [decide_eq_true (by omega)] at this
    have HX : Hid (firstOf l = (k : Int)) := zh (by
     have := zbcl l k HZ.out (by rw [hx]; exact h0)
     rw [firstOf, this, if_pos hlt])
    clear hr hc hx h0
    go_wp2_with (go_at_call 181; (with_reducible refine (HN.out _).mono ?_); rintro e w1 ⟨rfl, rfl⟩)
    go_ret; exact ⟨zay HX.out.symm, rfl⟩
  .have HX : Hid (firstOf l = -1) := zh (by
    have := zwo l fun j hj => HZ.out j (by omega)
    rw [firstOf, this, if_neg (by omega)])
   clear hr; go_wp2; go_ret; exact ⟨zay HX.out.symm, rfl⟩
theorem ztv (a : Option Addr) (cap : Nat) (l : List Nat) (w : World) (hl : l.length <= 140737488355328) (hr : Lies w w.heap.size a (u8s l)) :
  Calls Tryz.prog 180 #[.slice a l.length cap, .func (.func 181) #[] #[]] w fun e w' => e = .returned (.bool (!allz l)) ∧ w = w' := by
 have HI := zh (zxy a cap l w hl hr)
 have hz := zjx l
 by_cases hlt : zs l < l.length
 .have hf : firstOf l = (zs l : Int) := if_pos hlt
  have hb : (!allz l) = true := by unfold allz; rw [decide_eq_false (by omega)]; rfl
  have HB := zh hb
  rw [hf] at HI
  generalize zs l = z at *
  have hz0 : 0 <= (z : Int) := by omega
  have hz1 : (z : Int) <= l.length := by omega
  clear hf hr hb
  go_enter Tryz.func180, Tryz.ntmps180
  go_wp2_with (go_at_call 183; (with_reducible refine HI.out.mono ?_); rintro e w1 ⟨rfl, rfl⟩)
  go_ret
  exact ⟨zap HB.out.symm, rfl⟩
 .have hf : firstOf l = -1 := if_neg hlt
  have hb : (!allz l) = false := by unfold allz; rw [decide_eq_true (by omega)]; rfl
  have HB := zh hb
  rw [hf] at HI
  clear hf hr hb
  go_enter Tryz.func180, Tryz.ntmps180
  go_wp2_with (go_at_call 183; (with_reducible refine HI.out.mono ?_); rintro e w1 ⟨rfl, rfl⟩)
  go_ret
  exact ⟨zap HB.out.symm, rfl⟩
theorem zvs (c b k p : Nat) (v : Value) (a : Option Addr) (cap : Nat) (l : List Nat) (w : World) (h : Cor w c b k p v) (hn : k + p <= 255) (hl : l.length = k + p) (hby : By l) (hcap : l.length <= cap) (hr : Lies w w.heap.size a (u8s l)) :
  Calls Tryz.prog 158 #[.pointer (some ⟨c, 0, none⟩), .slice a (k + p) cap] w fun e w' => e = .returned (.bool (allz (vals l p))) ∧ Below w.heap.size w w' := by
 have HS := zh (zzs c b k p v a cap l w h hn hl hby hcap hr)
 have HC : Hid (∀ (u : World) (g : Nat), Row u g 5 (u8s (vals l p)) -> Calls Tryz.prog 180 #[.slice (some ⟨g, 0, none⟩) p p, .func (.func 181) #[] #[]] u fun e w' => e = .returned (.bool (!allz (vals l p))) ∧ u = w') := zh fun u g h1 => by
  have := ztv (some ⟨g, 0, none⟩) p (vals l p) u (by rw [zcr]; omega) (zbk h1)
  rwa [zcr] at this
 obtain ⟨m, hm⟩ : ∃ m, k + p = m := ⟨_, rfl⟩
 rw [hm] at HS ⊢
 have HV : Hid (∀ w' g, Row w' g 5 (u8s (tab p fun i => ev l (ex i))) -> Row w' g 5 (u8s (vals l p))) := zh fun _ _ h => h
 obtain ⟨z, hz⟩ : ∃ z, allz (vals l p) = z := ⟨_, rfl⟩
 rw [hz] at HC ⊢
 clear h hn hl hr hby hm hz
 go_enter Tryz.func158, Tryz.ntmps158
 go_wp2_with (first
  | (go_at_call 154; (with_reducible refine HS.out.mono ?_); rintro e w1 ⟨⟨g, rfl, _, r1⟩, b1⟩; have R1 := zh (HV.out _ _ r1); have B1 := zh b1; clear b1 r1)
  | (go_at_call 180; (with_reducible refine (HC.out w1 g R1.out).mono ?_); rintro e w2 ⟨rfl, rfl⟩))
 go_ret
 exact ⟨by cases z <;> rfl, B1.out⟩
end
section
open Go.RowKit
section
variable {P : Program}
end
end
section
open Go.RowKit GfMath PolyMath RsMath
def catl (ls : List (List Nat)) (k : Nat) : List Nat := (ls.take k).flatten
def Rd (l : List Nat) : Value -> World -> Prop := fun v w => Reads w v l
theorem Rd.monot (l : List Nat) : Monot (Rd l) := fun _ _ _ h hb => Reads.step h hb
def Tp (l : List Nat) : Value -> World -> Prop := fun v w => ∃ x y, v = .tuple #[x, y, .bool true] ∧ Reads w y l
theorem Tp.monot (l : List Nat) : Monot (Tp l) := fun _ _ _ ⟨x, y, h, hr⟩ hb => ⟨x, y, h, Reads.step hr hb⟩
def Any : Value -> World -> Prop := fun _ _ => True
theorem Any.monot : Monot Any := fun _ _ _ _ _ => trivial
theorem zbdm (a : Option Addr) (cap : Nat) (W : World) (x : Option Addr) (c : Nat) : (Builtin.copy_ #[107, 107] 3 #[.slice x 0 c, .slice a 0 cap]).run Tryz.prog W = .ok (.int .i64 0) W := by
 cases hq : Tryz.prog.info? 5 with
 | none => have := zdx; rw [hq] at this; cases this
 | some i => cases a <;> cases x <;> simp [Builtin.copy_, run_underlying Tryz.underlying107, Builtin.lenOf, Builtin.firstCells, sizeOf, typeInfo, hq, loadCells, loadCellsFrom, storeCells] <;> rfl
theorem zbjp (c b k p : Nat) (a : Option Addr) (cap : Nat) (X : List Nat) (w : World) (h : Cod w c b k p) (hl : X.length = k) (hby : By X) (hcap : X.length <= cap) (hr : Lies w w.heap.size a (u8s X)) (hR0 : 0 < (rem X p).length) :
  Calls Tryz.prog 112 #[.pointer (some ⟨c, 0, none⟩), .slice a k cap] w fun e w' =>
   (∃ g, e = .returned (.tuple #[.slice (some ⟨g, 0, none⟩) p p, .int .i64 0]) ∧ w.heap.size <= g ∧ Row w' g 5 (u8s (parity X p))) ∧ Below w.heap.size w w' := by
 have HC := zh h
 obtain ⟨hk1, hp1, hn255, hp64, aR, capR, hcor, hcapR, hlR⟩ := h
 have HN := zh (zee c b k p _ w hcor)
 have HLT : Hid (c < w.heap.size) := zh hcor.lt
 have c1 := hcor.c1
 have c2 := hcor.c2
 have HF := zh hcor.2
 have H0 := zh hcor.c0
 have H3 := zh hcor.c3
 have hRl := zvr X hby p
 have hR8 := zpf X hby p
 have hsl := zlm X p
 have hs8 := zeg hby p
 obtain ⟨hg8, hgl, _⟩ := zdv (exs p) (zec p)
 rw [zdk] at hgl
 have hshn : shn (p : Int) = p := by unfold shn; omega
 have HSH : Hid (∀ wx, Below w.heap.size w wx -> Calls Tryz.prog 140 #[.slice a k cap, .int .i64 (p : Int)] wx fun e w' => (∃ v, e = .returned v ∧ Reads w' v (shl X p)) ∧ Below wx.heap.size wx w') := zh fun wx hb => by
  have := zll a cap X (p : Int) wx (by omega) hcap (hr.step hb)
  rwa [hshn, hl] at this
 have HDV : Hid (∀ wx, Below w.heap.size w wx -> ∀ a14 c14, (shl X p).length <= c14 -> Lies wx wx.heap.size a14 (u8s (shl X p)) -> Calls Tryz.prog 139 #[.pointer (some ⟨b, 0, none⟩), .slice a14 (shl X p).length c14, .slice aR (p + 1) capR] wx fun e w' => (∃ x y, e = .returned (.tuple #[x, y, .bool true]) ∧ Reads w' y (rem X p)) ∧ Below wx.heap.size wx w') := zh fun wx hb a14 c14 h1 h2 => by
  have := zoo b a14 aR c14 capR (shl X p) (rt (exs p)) wx (HF.out.step hb) hs8 hg8 (by omega) (by omega) h1 (by omega) (by rw [zil]; omega) h2 (hlR.step hb)
  rw [hgl] at this
  exact this.mono fun e w' ⟨⟨v, v2, h1, _, h3⟩, h4⟩ => ⟨⟨v, v2, h1, h3⟩, h4⟩
 obtain ⟨S, hS⟩ : ∃ S, shl X p = S := ⟨_, rfl⟩
 rw [hS] at HSH HDV
 have HPA : Hid (parity X p = List.replicate (p - (rem X p).length) 0 ++ rem X p) := zh rfl
 obtain ⟨T, hT⟩ : ∃ T, parity X p = T := ⟨_, rfl⟩
 rw [hT] at HPA ⊢
 obtain ⟨R, hR⟩ : ∃ R, rem X p = R := ⟨_, rfl⟩
 rw [hR] at HDV HPA hRl hR8 hR0
 obtain ⟨n, hnn⟩ : ∃ n, k + p = n := ⟨_, rfl⟩
 rw [hnn] at c1
 have H1 := zh c1
 have H2 := zh c2
 obtain ⟨z, hz⟩ : ∃ z, p - R.length = z := ⟨_, rfl⟩
 have hsub : (n : Int) - (k : Int) = (p : Int) := by omega
 have hsub2 : (p : Int) - (R.length : Int) = (z : Int) := by omega
 have hzb : (z : Int) <= (p : Int) := by omega
 have hzb2 : (z : Int) < (p : Int) := by omega
 have hzn : z < p := by omega
 have hpz : p - z = R.length := by omega
 have hz0 : 0 <= (z : Int) := by omega
 have hpb : (p : Int) <= 64 := by omega
 have hp0 : 0 <= (p : Int) := by omega
 have hpw : IntKind.i64.wrap (p : Int) = (p : Int) := by rw [IntKind.wrap_i64]; omega
 have hkb : (k : Int) <= 255 := by omega
 have hnb : (n : Int) <= 255 := by omega
 have h1' := H1.out
 have h2' := H2.out
 have HI8 : Hid ((Tryz.prog.info? 5).map (fun i => (i.zero, i.size, i.bytes)) = some (some (.int .u8 0), 1, 8) ∨ (Tryz.prog.info? 5).map (fun i => (i.zero, i.size, i.bytes)) = some (some (.int .u8 0), 1, 1)) := zh (Or.inr zbv)
 have HLL : Hid (p <= p) := zh (Nat.le_refl _)
 have HLM0 : Hid (p <= 1099511627776) := zh (by omega)
 have HZC : Hid ((Value.int .u8 0).cells = #[.int .u8 0]) := zh rfl
 have HSP : Hid (∀ (u : World) (g : Nat), Row u g 5 (List.replicate p (.int .u8 0)) -> Row u g 5 (List.replicate z (.int .u8 0) ++ List.replicate R.length (.int .u8 0) ++ [])) := zh fun u g h => by
  rw [List.append_nil, List.replicate_append_replicate, show z + R.length = p by omega]; exact h
 have HZL : Hid ((List.replicate z (Value.int .u8 0)).length = z) := zh List.length_replicate
 have HU : Hid ((u8s R).length = R.length) := zh (zaf R)
 have HM0 : Hid (0 < R.length) := zh hR0
 have HLR : Hid (R.length <= R.length) := zh (Nat.le_refl _)
 have HRP : Hid ((List.replicate R.length (Value.int .u8 0)).length = R.length) := zh List.length_replicate
 have HU1 : Hid ((u8s R).all (·.oneCell') = true) := zh (zra R)
 have HPR : Hid (∀ (u : World) (g : Nat), Row u g 5 (List.replicate z (.int .u8 0) ++ u8s R ++ []) -> Row u g 5 (u8s T)) := zh fun u g h => by
  rw [HPA.out, hz, zgj, zer]
  rwa [List.append_nil] at h
 clear hcor hr hlR hs8 hg8 hS hT hR hnn hby hR8 hsl hgl hshn hz hRl HPA hcap hcapR hl hk1 hp1 hn255
 go_enter Tryz.func112, Tryz.ntmps112
 go_wp2_with (go_at_call 133; (with_reducible refine HN.out.mono ?_); rintro e w1 ⟨rfl, rfl⟩)
 refine zaj [(0, 22), (1, 23), (2, 24), (3, 25), (4, 26), (5, 27), (6, 28), (7, 29), (8, 30), (9, 31), (10, 32), (11, 33), (12, 34), (13, 35), (14, 36), (15, 37), (16, 38), (17, 39), (18, 40), (19, 41), (20, 21), (21, 42), (22, 43), (23, 44), (24, 6), (25, 7), (26, 8)]
  (fun i => [Is (.pointer (some ⟨c, 0, none⟩)), Is (.pointer (some ⟨c, 0, none⟩)), Is (.pointer (some ⟨c, 0, none⟩)), Is (.pointer (some ⟨b, 0, none⟩)), Is (.slice a k cap), Is (.pointer (some ⟨c, 0, none⟩)), Is (.pointer (some ⟨c, 0, none⟩)), Is (.pointer (some ⟨c, 1, none⟩)), Is (.int .i64 (n : Int)), Is (.pointer (some ⟨c, 0, none⟩)), Is (.pointer (some ⟨c, 0, none⟩)), Is (.pointer (some ⟨c, 2, none⟩)), Is (.int .i64 (k : Int)), Is (.int .i64 (p : Int)), Rd S, Is (.pointer (some ⟨c, 0, none⟩)), Is (.pointer (some ⟨c, 0, none⟩)), Is (.pointer (some ⟨c, 3, none⟩)), Is (.slice aR (p + 1) capR), Tp R, Tp R, Any, Rd R, Is (.bool true), Any, Rd R, Is (.bool true)].getD i (Is undef))
  (fun w' => Below w.heap.size w w') (by kernel_rfl) (by kernel_rfl) (by decide) (by decide) (by kernel_rfl) rfl ?mono ((zb).drew) ?step ?fin
 case mono =>
  intro i
  match i with
  | 0 | 1 | 2 | 3 | 4 | 5 | 6 | 7 | 8 | 9 | 10 | 11 | 12 | 13 | 15 | 16 | 17 | 18 | 23 | 26 => exact Is.monot _
  | 14 | 22 | 25 => exact Rd.monot _
  | 19 | 20 => exact Tp.monot _
  | 21 | 24 => exact Any.monot
  | _ + 27 => exact Is.monot _
 case step =>
  refine zf ⟨?s0, zf ⟨?s1, zf ⟨?s2, zf ⟨?s3, zf ⟨?s4, zf ⟨?s5, zf ⟨?s6, zf ⟨?s7, zf ⟨?s8, zf ⟨?s9, zf ⟨?s10, zf ⟨?s11, zf ⟨?s12, zf ⟨?s13, zf ⟨?s14, zf ⟨?s15, zf ⟨?s16, zf ⟨?s17, zf ⟨?s18, zf ⟨?s19, zf ⟨?s20, zf ⟨?s21, zf ⟨?s22, zf ⟨?s23, zf ⟨?s24, zf ⟨?s25, zf ⟨?s26, List.forall_mem_nil _⟩⟩⟩⟩⟩⟩⟩⟩⟩⟩⟩⟩⟩⟩⟩⟩⟩⟩⟩⟩⟩⟩⟩⟩⟩⟩⟩
  case s1 =>
   intro u wx hg hC; have hJ0 := zj hC 0; clear hC; refine wpOp_step rfl fun K hK => ?_
   simp only [zu, zv]; go_simp; exact zK hK hg
  case s2 =>
   intro u wx hg hC; have hJ1 := zj hC 1; clear hC; refine wpOp_step rfl fun K hK => ?_
   simp only [zu, zv]; go_simp; exact zK hK hg
  case s3 =>
   intro u wx hg hC
   have hJ : u 2 = (.pointer (some ⟨c, 0, none⟩)) := hC.at 2 (by kernel_rfl)
   clear hC
   have hcl : wx.cell? ⟨c, 0, none⟩ = some (.pointer (some ⟨b, 0, none⟩)) := (hg.cell (p := ⟨c, 0, none⟩) HLT.out).trans H0.out
   refine wpOp_step rfl fun K hK => ?_
   simp only [zu, zv]; go_simp; exact zK hK hg
  case s6 =>
   intro u wx hg hC; have hJ5 := zj hC 5; clear hC; refine wpOp_step rfl fun K hK => ?_
   simp only [zu, zv]; go_simp; exact zK hK hg
  case s7 =>
   intro u wx hg hC; have hJ6 := zj hC 6; clear hC; refine wpOp_step rfl fun K hK => ?_
   simp only [zu, zv]; go_simp; exact zK hK hg
  case s8 =>
   intro u wx hg hC
   have hJ : u 7 = (.pointer (some ⟨c, 1, none⟩)) := hC.at 7 (by kernel_rfl)
   clear hC
   have hcl : wx.cell? ⟨c, 1, none⟩ = some (.int .i64 (n : Int)) := (hg.cell (p := ⟨c, 1, none⟩) HLT.out).trans H1.out
   refine wpOp_step rfl fun K hK => ?_
   simp only [zu, zv]; go_simp; exact zK hK hg
  case s10 =>
   intro u wx hg hC; have hJ9 := zj hC 9; clear hC; refine wpOp_step rfl fun K hK => ?_
   simp only [zu, zv]; go_simp; exact zK hK hg
  case s11 =>
   intro u wx hg hC; have hJ10 := zj hC 10; clear hC; refine wpOp_step rfl fun K hK => ?_
   simp only [zu, zv]; go_simp; exact zK hK hg
  case s12 =>
   intro u wx hg hC
   have hJ : u 11 = (.pointer (some ⟨c, 2, none⟩)) := hC.at 11 (by kernel_rfl)
   clear hC
   have hcl : wx.cell? ⟨c, 2, none⟩ = some (.int .i64 (k : Int)) := (hg.cell (p := ⟨c, 2, none⟩) HLT.out).trans H2.out
   refine wpOp_step rfl fun K hK => ?_
   simp only [zu, zv]; go_simp; exact zK hK hg
  case s13 =>
   intro u wx hg hC; have hJ8 := zj hC 8; have hJ12 := zj hC 12; clear hC; refine wpOp_step rfl fun K hK => ?_
   simp only [zu, zv]; go_simp; exact zK hK hg
  case s14 =>
   intro u wx hg hC; have hJ4 := zj hC 4; have hJ13 := zj hC 13; clear hC; refine wpOp_step rfl fun K hK => ?_
   simp only [zu, zv]; go_simp
   refine (HSH.out wx hg).mono ?_
   rintro e w' ⟨⟨v, rfl, hv⟩, hb'⟩
   exact hK _ _ ⟨rfl, hv, hg.next hb', hb'⟩
  case s16 =>
   intro u wx hg hC; have hJ15 := zj hC 15; clear hC; refine wpOp_step rfl fun K hK => ?_
   simp only [zu, zv]; go_simp; exact zK hK hg
  case s17 =>
   intro u wx hg hC; have hJ16 := zj hC 16; clear hC; refine wpOp_step rfl fun K hK => ?_
   simp only [zu, zv]; go_simp; exact zK hK hg
  case s18 =>
   intro u wx hg hC
   have hJ : u 17 = (.pointer (some ⟨c, 3, none⟩)) := hC.at 17 (by kernel_rfl)
   clear hC
   have hcl : wx.cell? ⟨c, 3, none⟩ = some (.slice aR (p + 1) capR) := (hg.cell (p := ⟨c, 3, none⟩) HLT.out).trans H3.out
   refine wpOp_step rfl fun K hK => ?_
   simp only [zu, zv]; go_simp; exact zK hK hg
  case s19 =>
   intro u wx hg hC; have hJ3 := zj hC 3; obtain ⟨a14, c14, e14, h14c, h14⟩ : Rd S (u 14) wx := hC.at 14 (by kernel_rfl)
   have hJ18 := zj hC 18; clear hC; refine wpOp_step rfl fun K hK => ?_
   simp only [zu, zv]; go_simp
   refine (HDV.out wx hg a14 c14 h14c h14).mono ?_
   rintro e w' ⟨⟨x, y, rfl, hy⟩, hb'⟩
   exact hK _ _ ⟨rfl, ⟨x, y, rfl, hy⟩, hg.next hb', hb'⟩
  case s20 =>
   intro u wx hg hC; obtain ⟨x, y, e19, h19⟩ : Tp R (u 19) wx := hC.at 19 (by kernel_rfl)
   clear hC; refine wpOp_step rfl fun K hK => ?_
   simp only [zu, zv]; go_simp; exact hK _ _ ⟨rfl, ⟨x, y, rfl, h19⟩, hg, zb⟩
  case s21 =>
   intro u wx hg hC; obtain ⟨x, y, e20, h20⟩ : Tp R (u 20) wx := hC.at 20 (by kernel_rfl)
   clear hC; refine wpOp_step rfl fun K hK => ?_
   simp only [zu, zv]; go_simp; exact hK _ _ ⟨rfl, trivial, hg, zb⟩
  case s22 =>
   intro u wx hg hC; obtain ⟨x, y, e20, h20⟩ : Tp R (u 20) wx := hC.at 20 (by kernel_rfl)
   clear hC; refine wpOp_step rfl fun K hK => ?_
   simp only [zu, zv]; go_simp; exact hK _ _ ⟨rfl, h20, hg, zb⟩
  case s23 =>
   intro u wx hg hC; obtain ⟨x, y, e20, h20⟩ : Tp R (u 20) wx := hC.at 20 (by kernel_rfl)
   clear hC; refine wpOp_step rfl fun K hK => ?_
   simp only [zu, zv]; go_simp; exact zK hK hg
  case s24 =>
   intro u wx hg hC; clear hC; refine wpOp_step rfl fun K hK => ?_
   simp only [zu, zv]; go_simp; exact hK _ _ ⟨rfl, trivial, hg, zb⟩
  case s25 =>
   intro u wx hg hC
   have h22 : Rd R (u 22) wx := hC.at 22 (by kernel_rfl)
   clear hC; refine wpOp_step rfl fun K hK => ?_
   simp only [zu, zv]; go_simp; exact hK _ _ ⟨rfl, h22, hg, zb⟩
  case s26 =>
   intro u wx hg hC; have hJ23 := zj hC 23; clear hC; refine wpOp_step rfl fun K hK => ?_
   simp only [zu, zv]; go_simp; exact zK hK hg
  all_goals
   intro u wx hg hC; clear hC; refine wpOp_step rfl fun K hK => ?_
   simp only [zu, zv]; go_simp
   refine hK _ _ ?_
   clear hK K
   first
    | (refine ⟨rfl, ?_, hg, zb⟩; rfl)
    | (refine ⟨rfl, ?_, hg.alloc hg.size _, zab _ _⟩; exact ⟨wx.heap.size, rfl, Lies.new [_] _ _⟩)
    | (refine ⟨rfl, ?_, hg.alloc hg.size _, zab _ _⟩; exact ⟨wx.heap.size, rfl, Lies.new [_, _] _ _⟩)
 case fin =>
  intro u w2 hbw2 hφ
  obtain ⟨aq, cq, e25, hcq, hlq⟩ : Rd R (u 25) w2 := hφ (25, 7) (by decide)
  clear hφ
  simp only [zu, zv]
  go_simp
  have q1 : w2.cell? ⟨c, 1, none⟩ = some (.int .i64 (n : Int)) := (hbw2.cell (p := ⟨c, 1, none⟩) HLT.out).trans H1.out
  have q2 : w2.cell? ⟨c, 2, none⟩ = some (.int .i64 (k : Int)) := (hbw2.cell (p := ⟨c, 2, none⟩) HLT.out).trans H2.out
  have B2 := zh hbw2
  have HLQ := zh hlq
  have HC2 := zh (HC.out.step hbw2)
  clear hbw2 hlq e25 h1' h2' c1 c2
  go_wp2
  go_still_tail 9, (by kernel_rfl)
  change wpList _ _ _ _ _ w2.drew
  have B3 : Hid (Below w.heap.size w w2.drew) := zh B2.out.drew
  have HL3 : Hid (Lies w2.drew w2.drew.heap.size aq (u8s R)) := zh HLQ.out
  clear B2 HLQ HC2
  generalize w2.drew = w3 at *
  go_wp2_with (first
   | ((with_reducible refine wpMakeK 107 5 (.int .u8 0) p p Tryz.underlying107 HI8.out HZC.out HLL.out HLM0.out ?_ ?_); rfl; intro w4 r4 b4 s4; have R4 := zh (HSP.out w4 w3.heap.size r4); have B4 := zh (B3.out.next b4); have HL4 := zh (HL3.out.step b4); have HG4 : Hid (w.heap.size <= w3.heap.size) := zh B3.out.size; clear r4 b4 s4)
   | ((with_reducible refine R4.out.wpCopyLK (i := z) (dLen := R.length) (m := R.length) HZL.out 107 R.length cq Tryz.underlying107 zgy HL4.out HU.out HM0.out HLR.out HRP.out HU1.out ?_ ?_); rfl; intro w5 r5 o5 s5; have R5 := zh r5; have B5 := zh (B4.out.trans (o5.below HG4.out B4.out.size)); clear r5 o5 s5))
  go_ret2
  exact ⟨⟨_, rfl, HG4.out, HPR.out _ _ R5.out⟩, B5.out⟩
theorem zbjo (c b k p : Nat) (a : Option Addr) (cap : Nat) (X : List Nat) (w : World) (h : Cod w c b k p) (hl : X.length = k) (hby : By X) (hcap : X.length <= cap) (hr : Lies w w.heap.size a (u8s X)) (hR0 : (rem X p).length = 0) :
  Calls Tryz.prog 112 #[.pointer (some ⟨c, 0, none⟩), .slice a k cap] w fun e w' =>
   (∃ g, e = .returned (.tuple #[.slice (some ⟨g, 0, none⟩) p p, .int .i64 0]) ∧ w.heap.size <= g ∧ Row w' g 5 (u8s (parity X p))) ∧ Below w.heap.size w w' := by
 have HC := zh h
 obtain ⟨hk1, hp1, hn255, hp64, aR, capR, hcor, hcapR, hlR⟩ := h
 have HN := zh (zee c b k p _ w hcor)
 have HLT : Hid (c < w.heap.size) := zh hcor.lt
 have c1 := hcor.c1
 have c2 := hcor.c2
 have HF := zh hcor.2
 have H0 := zh hcor.c0
 have H3 := zh hcor.c3
 have hRl := zvr X hby p
 have hR8 := zpf X hby p
 have hsl := zlm X p
 have hs8 := zeg hby p
 obtain ⟨hg8, hgl, _⟩ := zdv (exs p) (zec p)
 rw [zdk] at hgl
 have hshn : shn (p : Int) = p := by unfold shn; omega
 have HSH : Hid (∀ wx, Below w.heap.size w wx -> Calls Tryz.prog 140 #[.slice a k cap, .int .i64 (p : Int)] wx fun e w' => (∃ v, e = .returned v ∧ Reads w' v (shl X p)) ∧ Below wx.heap.size wx w') := zh fun wx hb => by
  have := zll a cap X (p : Int) wx (by omega) hcap (hr.step hb)
  rwa [hshn, hl] at this
 have HDV : Hid (∀ wx, Below w.heap.size w wx -> ∀ a14 c14, (shl X p).length <= c14 -> Lies wx wx.heap.size a14 (u8s (shl X p)) -> Calls Tryz.prog 139 #[.pointer (some ⟨b, 0, none⟩), .slice a14 (shl X p).length c14, .slice aR (p + 1) capR] wx fun e w' => (∃ x y, e = .returned (.tuple #[x, y, .bool true]) ∧ Reads w' y (rem X p)) ∧ Below wx.heap.size wx w') := zh fun wx hb a14 c14 h1 h2 => by
  have := zoo b a14 aR c14 capR (shl X p) (rt (exs p)) wx (HF.out.step hb) hs8 hg8 (by omega) (by omega) h1 (by omega) (by rw [zil]; omega) h2 (hlR.step hb)
  rw [hgl] at this
  exact this.mono fun e w' ⟨⟨v, v2, h1, _, h3⟩, h4⟩ => ⟨⟨v, v2, h1, h3⟩, h4⟩
 obtain ⟨S, hS⟩ : ∃ S, shl X p = S := ⟨_, rfl⟩
 rw [hS] at HSH HDV
 have HPA : Hid (parity X p = List.replicate (p - (rem X p).length) 0 ++ rem X p) := zh rfl
 obtain ⟨T, hT⟩ : ∃ T, parity X p = T := ⟨_, rfl⟩
 rw [hT] at HPA ⊢
 obtain ⟨R, hR⟩ : ∃ R, rem X p = R := ⟨_, rfl⟩
 rw [hR] at HDV HPA hRl hR8 hR0
 obtain ⟨n, hnn⟩ : ∃ n, k + p = n := ⟨_, rfl⟩
 rw [hnn] at c1
 have H1 := zh c1
 have H2 := zh c2
 have hR1 : R = [] := List.eq_nil_of_length_eq_zero hR0
 subst hR1
 obtain ⟨z, hz⟩ : ∃ z, p - ([] : List Nat).length = z := ⟨_, rfl⟩
 simp only [List.length_nil] at hz
 have hsub : (n : Int) - (k : Int) = (p : Int) := by omega
 have hsub2 : (p : Int) - (0 : Int) = (z : Int) := by omega
 have hzb : (z : Int) <= (p : Int) := by omega
 have hzp : z = p := by omega
 have hpz : p - z = 0 := by omega
 have hz0 : 0 <= (z : Int) := by omega
 have hpb : (p : Int) <= 64 := by omega
 have hp0 : 0 <= (p : Int) := by omega
 have hpw : IntKind.i64.wrap (p : Int) = (p : Int) := by rw [IntKind.wrap_i64]; omega
 have hkb : (k : Int) <= 255 := by omega
 have hnb : (n : Int) <= 255 := by omega
 have h1' := H1.out
 have h2' := H2.out
 have HI8 : Hid ((Tryz.prog.info? 5).map (fun i => (i.zero, i.size, i.bytes)) = some (some (.int .u8 0), 1, 8) ∨ (Tryz.prog.info? 5).map (fun i => (i.zero, i.size, i.bytes)) = some (some (.int .u8 0), 1, 1)) := zh (Or.inr zbv)
 have HLL : Hid (p <= p) := zh (Nat.le_refl _)
 have HLM0 : Hid (p <= 1099511627776) := zh (by omega)
 have HZC : Hid ((Value.int .u8 0).cells = #[.int .u8 0]) := zh rfl
 have HPR : Hid (∀ (u : World) (g : Nat), Row u g 5 (List.replicate p (.int .u8 0)) -> Row u g 5 (u8s T)) := zh fun u g h => by
  rw [HPA.out, List.append_nil, zer, List.length_nil, Nat.sub_zero]
  exact h
 clear hcor hr hlR hs8 hg8 hS hT hR hnn hR0 hby hR8 hsl hgl hshn hz hRl HPA hcap hcapR hl hk1 hp1 hn255
 go_enter Tryz.func112, Tryz.ntmps112
 go_wp2_with (go_at_call 133; (with_reducible refine HN.out.mono ?_); rintro e w1 ⟨rfl, rfl⟩)
 refine zaj [(0, 22), (1, 23), (2, 24), (3, 25), (4, 26), (5, 27), (6, 28), (7, 29), (8, 30), (9, 31), (10, 32), (11, 33), (12, 34), (13, 35), (14, 36), (15, 37), (16, 38), (17, 39), (18, 40), (19, 41), (20, 21), (21, 42), (22, 43), (23, 44), (24, 6), (25, 7), (26, 8)]
  (fun i => [Is (.pointer (some ⟨c, 0, none⟩)), Is (.pointer (some ⟨c, 0, none⟩)), Is (.pointer (some ⟨c, 0, none⟩)), Is (.pointer (some ⟨b, 0, none⟩)), Is (.slice a k cap), Is (.pointer (some ⟨c, 0, none⟩)), Is (.pointer (some ⟨c, 0, none⟩)), Is (.pointer (some ⟨c, 1, none⟩)), Is (.int .i64 (n : Int)), Is (.pointer (some ⟨c, 0, none⟩)), Is (.pointer (some ⟨c, 0, none⟩)), Is (.pointer (some ⟨c, 2, none⟩)), Is (.int .i64 (k : Int)), Is (.int .i64 (p : Int)), Rd S, Is (.pointer (some ⟨c, 0, none⟩)), Is (.pointer (some ⟨c, 0, none⟩)), Is (.pointer (some ⟨c, 3, none⟩)), Is (.slice aR (p + 1) capR), Tp [], Tp [], Any, Rd [], Is (.bool true), Any, Rd [], Is (.bool true)].getD i (Is undef))
  (fun w' => Below w.heap.size w w') (by kernel_rfl) (by kernel_rfl) (by decide) (by decide) (by kernel_rfl) rfl ?mono ((zb).drew) ?step ?fin
 case mono =>
  intro i
  match i with
  | 0 | 1 | 2 | 3 | 4 | 5 | 6 | 7 | 8 | 9 | 10 | 11 | 12 | 13 | 15 | 16 | 17 | 18 | 23 | 26 => exact Is.monot _
  | 14 | 22 | 25 => exact Rd.monot _
  | 19 | 20 => exact Tp.monot _
  | 21 | 24 => exact Any.monot
  | _ + 27 => exact Is.monot _
 case step =>
  refine zf ⟨?s0, zf ⟨?s1, zf ⟨?s2, zf ⟨?s3, zf ⟨?s4, zf ⟨?s5, zf ⟨?s6, zf ⟨?s7, zf ⟨?s8, zf ⟨?s9, zf ⟨?s10, zf ⟨?s11, zf ⟨?s12, zf ⟨?s13, zf ⟨?s14, zf ⟨?s15, zf ⟨?s16, zf ⟨?s17, zf ⟨?s18, zf ⟨?s19, zf ⟨?s20, zf ⟨?s21, zf ⟨?s22, zf ⟨?s23, zf ⟨?s24, zf ⟨?s25, zf ⟨?s26, List.forall_mem_nil _⟩⟩⟩⟩⟩⟩⟩⟩⟩⟩⟩⟩⟩⟩⟩⟩⟩⟩⟩⟩⟩⟩⟩⟩⟩⟩⟩
  case s1 =>
   intro u wx hg hC; have hJ0 := zj hC 0; clear hC; refine wpOp_step rfl fun K hK => ?_
   simp only [zu, zv]; go_simp; exact zK hK hg
  case s2 =>
   intro u wx hg hC; have hJ1 := zj hC 1; clear hC; refine wpOp_step rfl fun K hK => ?_
   simp only [zu, zv]; go_simp; exact zK hK hg
  case s3 =>
   intro u wx hg hC
   have hJ : u 2 = (.pointer (some ⟨c, 0, none⟩)) := hC.at 2 (by kernel_rfl)
   clear hC
   have hcl : wx.cell? ⟨c, 0, none⟩ = some (.pointer (some ⟨b, 0, none⟩)) := (hg.cell (p := ⟨c, 0, none⟩) HLT.out).trans H0.out
   refine wpOp_step rfl fun K hK => ?_
   simp only [zu, zv]; go_simp; exact zK hK hg
  case s6 =>
   intro u wx hg hC; have hJ5 := zj hC 5; clear hC; refine wpOp_step rfl fun K hK => ?_
   simp only [zu, zv]; go_simp; exact zK hK hg
  case s7 =>
   intro u wx hg hC; have hJ6 := zj hC 6; clear hC; refine wpOp_step rfl fun K hK => ?_
   simp only [zu, zv]; go_simp; exact zK hK hg
  case s8 =>
   intro u wx hg hC
   have hJ : u 7 = (.pointer (some ⟨c, 1, none⟩)) := hC.at 7 (by kernel_rfl)
   clear hC
   have hcl : wx.cell? ⟨c, 1, none⟩ = some (.int .i64 (n : Int)) := (hg.cell (p := ⟨c, 1, none⟩) HLT.out).trans H1.out
   refine wpOp_step rfl fun K hK => ?_
   simp only [zu, zv]; go_simp; exact zK hK hg
  case s10 =>
   intro u wx hg hC; have hJ9 := zj hC 9; clear hC; refine wpOp_step rfl fun K hK => ?_
   simp only [zu, zv]; go_simp; exact zK hK hg
  case s11 =>
   intro u wx hg hC; have hJ10 := zj hC 10; clear hC; refine wpOp_step rfl fun K hK => ?_
   simp only [zu, zv]; go_simp; exact zK hK hg
  case s12 =>
   intro u wx hg hC
   have hJ : u 11 = (.pointer (some ⟨c, 2, none⟩)) := hC.at 11 (by kernel_rfl)
   clear hC
   have hcl : wx.cell? ⟨c, 2, none⟩ = some (.int .i64 (k : Int)) := (hg.cell (p := ⟨c, 2, none⟩) HLT.out).trans H2.out
   refine wpOp_step rfl fun K hK => ?_
   simp only [zu, zv]; go_simp; exact zK hK hg
  case s13 =>
   intro u wx hg hC; have hJ8 := zj hC 8; have hJ12 := zj hC 12; clear hC; refine wpOp_step rfl fun K hK => ?_
   simp only [zu, zv]; go_simp; exact zK hK hg
  case s14 =>
   intro u wx hg hC; have hJ4 := zj hC 4; have hJ13 := zj hC 13; clear hC; refine wpOp_step rfl fun K hK => ?_
   simp only [zu, zv]; go_simp
   refine (HSH.out wx hg).mono ?_
   rintro e w' ⟨⟨v, rfl, hv⟩, hb'⟩
   exact hK _ _ ⟨rfl, hv, hg.next hb', hb'⟩
  case s16 =>
   intro u wx hg hC; have hJ15 := zj hC 15; clear hC; refine wpOp_step rfl fun K hK => ?_
   simp only [zu, zv]; go_simp; exact zK hK hg
  case s17 =>
   intro u wx hg hC; have hJ16 := zj hC 16; clear hC; refine wpOp_step rfl fun K hK => ?_
   simp only [zu, zv]; go_simp; exact zK hK hg
  case s18 =>
   intro u wx hg hC
   have hJ : u 17 = (.pointer (some ⟨c, 3, none⟩)) := hC.at 17 (by kernel_rfl)
   clear hC
   have hcl : wx.cell? ⟨c, 3, none⟩ = some (.slice aR (p + 1) capR) := (hg.cell (p := ⟨c, 3, none⟩) HLT.out).trans H3.out
   refine wpOp_step rfl fun K hK => ?_
   simp only [zu, zv]; go_simp; exact zK hK hg
  case s19 =>
   intro u wx hg hC; have hJ3 := zj hC 3; obtain ⟨a14, c14, e14, h14c, h14⟩ : Rd S (u 14) wx := hC.at 14 (by kernel_rfl)
   have hJ18 := zj hC 18; clear hC; refine wpOp_step rfl fun K hK => ?_
   simp only [zu, zv]; go_simp
   refine (HDV.out wx hg a14 c14 h14c h14).mono ?_
   rintro e w' ⟨⟨x, y, rfl, hy⟩, hb'⟩
   exact hK _ _ ⟨rfl, ⟨x, y, rfl, hy⟩, hg.next hb', hb'⟩
  case s20 =>
   intro u wx hg hC; obtain ⟨x, y, e19, h19⟩ : Tp [] (u 19) wx := hC.at 19 (by kernel_rfl)
   clear hC; refine wpOp_step rfl fun K hK => ?_
   simp only [zu, zv]; go_simp; exact hK _ _ ⟨rfl, ⟨x, y, rfl, h19⟩, hg, zb⟩
  case s21 =>
   intro u wx hg hC; obtain ⟨x, y, e20, h20⟩ : Tp [] (u 20) wx := hC.at 20 (by kernel_rfl)
   clear hC; refine wpOp_step rfl fun K hK => ?_
   simp only [zu, zv]; go_simp; exact hK _ _ ⟨rfl, trivial, hg, zb⟩
  case s22 =>
   intro u wx hg hC; obtain ⟨x, y, e20, h20⟩ : Tp [] (u 20) wx := hC.at 20 (by kernel_rfl)
   clear hC; refine wpOp_step rfl fun K hK => ?_
   simp only [zu, zv]; go_simp; exact hK _ _ ⟨rfl, h20, hg, zb⟩
  case s23 =>
   intro u wx hg hC; obtain ⟨x, y, e20, h20⟩ : Tp [] (u 20) wx := hC.at 20 (by kernel_rfl)
   clear hC; refine wpOp_step rfl fun K hK => ?_
   simp only [zu, zv]; go_simp; exact zK hK hg
  case s24 =>
   intro u wx hg hC; clear hC; refine wpOp_step rfl fun K hK => ?_
   simp only [zu, zv]; go_simp; exact hK _ _ ⟨rfl, trivial, hg, zb⟩
  case s25 =>
   intro u wx hg hC
   have h22 : Rd [] (u 22) wx := hC.at 22 (by kernel_rfl)
   clear hC; refine wpOp_step rfl fun K hK => ?_
   simp only [zu, zv]; go_simp; exact hK _ _ ⟨rfl, h22, hg, zb⟩
  case s26 =>
   intro u wx hg hC; have hJ23 := zj hC 23; clear hC; refine wpOp_step rfl fun K hK => ?_
   simp only [zu, zv]; go_simp; exact zK hK hg
  all_goals
   intro u wx hg hC; clear hC; refine wpOp_step rfl fun K hK => ?_
   simp only [zu, zv]; go_simp
   refine hK _ _ ?_
   clear hK K
   first
    | (refine ⟨rfl, ?_, hg, zb⟩; rfl)
    | (refine ⟨rfl, ?_, hg.alloc hg.size _, zab _ _⟩; exact ⟨wx.heap.size, rfl, Lies.new [_] _ _⟩)
    | (refine ⟨rfl, ?_, hg.alloc hg.size _, zab _ _⟩; exact ⟨wx.heap.size, rfl, Lies.new [_, _] _ _⟩)
 case fin =>
  intro u w2 hbw2 hφ
  obtain ⟨aq, cq, e25, hcq, hlq⟩ : Rd [] (u 25) w2 := hφ (25, 7) (by decide)
  clear hφ
  simp only [zu, zv]
  go_simp
  have q1 : w2.cell? ⟨c, 1, none⟩ = some (.int .i64 (n : Int)) := (hbw2.cell (p := ⟨c, 1, none⟩) HLT.out).trans H1.out
  have q2 : w2.cell? ⟨c, 2, none⟩ = some (.int .i64 (k : Int)) := (hbw2.cell (p := ⟨c, 2, none⟩) HLT.out).trans H2.out
  have B2 := zh hbw2
  have HLQ := zh hlq
  have HC2 := zh (HC.out.step hbw2)
  clear hbw2 hlq e25 h1' h2' c1 c2
  have hcp : ∀ (W : World) (x : Option Addr) (c : Nat), (Builtin.copy_ #[107, 107] 3 #[.slice x 0 c, .slice aq 0 cq]).run Tryz.prog W = .ok (.int .i64 0) W := zbdm aq cq
  go_wp2
  go_still_tail 9, (by kernel_rfl)
  change wpList _ _ _ _ _ w2.drew
  have B3 : Hid (Below w.heap.size w w2.drew) := zh B2.out.drew
  have HL3 : Hid (Lies w2.drew w2.drew.heap.size aq (u8s [])) := zh HLQ.out
  clear B2 HLQ HC2
  generalize w2.drew = w3 at *
  go_wp2_with (first
   | ((with_reducible refine wpMakeK 107 5 (.int .u8 0) p p Tryz.underlying107 HI8.out HZC.out HLL.out HLM0.out ?_ ?_); rfl; intro w4 r4 b4 s4; have R4 := zh (r4); have B4 := zh (B3.out.next b4); have HL4 := zh (HL3.out.step b4); have HG4 : Hid (w.heap.size <= w3.heap.size) := zh B3.out.size; clear r4 b4 s4))
  go_ret2
  exact ⟨⟨_, rfl, HG4.out, HPR.out _ _ R4.out⟩, B4.out⟩
theorem zbmu (c b k p : Nat) (a : Option Addr) (cap : Nat) (X : List Nat) (w : World) (h : Cod w c b k p) (hl : X.length = k) (hby : By X) (hcap : X.length <= cap) (hr : Lies w w.heap.size a (u8s X)) :
  Calls Tryz.prog 112 #[.pointer (some ⟨c, 0, none⟩), .slice a k cap] w fun e w' =>
   (∃ g, e = .returned (.tuple #[.slice (some ⟨g, 0, none⟩) p p, .int .i64 0]) ∧ w.heap.size <= g ∧ Row w' g 5 (u8s (parity X p))) ∧ Below w.heap.size w w' := by
 by_cases h0 : (rem X p).length = 0
 .exact zbjo c b k p a cap X w h hl hby hcap hr h0
 .exact zbjp c b k p a cap X w h hl hby hcap hr (by omega)
end
section
open Go.RowKit GfMath PolyMath
structure Polz (w : World) (ts : List Hd) (ls : List (List Nat)) : Prop where
 len : ts.length = ls.length
 at_ : ∀ i (h : i < ts.length) (h2 : i < ls.length), ts[i].2.1 = ls[i].length ∧ ls[i].length <= ts[i].2.2 ∧ By ls[i] ∧ Lies w w.heap.size ts[i].1 (u8s ls[i])
theorem Polz.step {w w' : World} {ts : List Hd} {ls : List (List Nat)} (h : Polz w ts ls) (hb : Below w.heap.size w w') : Polz w' ts ls :=
 ⟨h.len, fun i h1 h2 => by obtain ⟨a, b, d, e⟩ := h.at_ i h1 h2; exact ⟨a, b, d, e.step hb⟩⟩
theorem Polz.get {w : World} {ts : List Hd} {ls : List (List Nat)} (h : Polz w ts ls) (k : Nat) (hk : k < ls.length) :
  ∃ a c, ts[k]'(by rw [h.len]; exact hk) = (a, ls[k].length, c) ∧ ls[k].length <= c ∧ By ls[k] ∧ Lies w w.heap.size a (u8s ls[k]) := by
 obtain ⟨h1, h2, h4, h5⟩ := h.at_ k (by rw [h.len]; exact hk) hk
 have hk' : k < ts.length := by rw [h.len]; exact hk
 refine ⟨(ts[k]'hk').1, (ts[k]'hk').2.2, ?_, h2, h4, h5⟩
 rw [<- h1]
theorem Polz.by {w : World} {ts : List Hd} {ls : List (List Nat)} (h : Polz w ts ls) : ∀ l ∈ ls, By l := by
 intro l hl
 obtain ⟨i, hi, rfl⟩ := List.mem_iff_getElem.1 hl
 exact (h.at_ i (by rw [h.len]; exact hi) hi).2.2.1
theorem zbfr (b : Nat) (a : Option Addr) (cap : Nat) (ts : List Hd) (ls : List (List Nat)) (w : World) (hf : Fld w b) (hp : Polz w ts ls) (hn : ls.length <= 100) (hl : ∀ l ∈ ls, l.length <= 5000) (hr : Lies w w.heap.size a (slvs ts)) :
  Calls Tryz.prog 164 #[.pointer (some ⟨b, 0, none⟩), .slice a ls.length cap] w fun e w' => (∃ v, e = .returned v ∧ Reads w' v (pms ls)) ∧ Below w.heap.size w w' := by
 have HF := zh hf
 have HR := zh hr
 have HP := zh hp
 have HL := zh hl
 have HN : Hid (ls.length <= 100) := zh hn
 have H0 : Hid (Reads (w.alloc (.cells #[.int .u8 1] 5)) (.slice (some ⟨w.heap.size, 0, none⟩) 1 1) (pms [])) := zh ⟨_, 1, rfl, by decide, Lies.new [.int .u8 1] w _⟩
 clear hf hr hp hl
 go_enter Tryz.func164, Tryz.ntmps164
 go_wp2
 go_loopw [5, 13] (fun p i wr => ∃ k : Nat, k <= ls.length ∧ i = .int .i64 k ∧ Reads wr p (pms (ls.take k)) ∧ Below w.heap.size w wr) (fun _ i _ => ls.length - (intOf i).toNat)
 case atStart => exact ⟨0, Nat.zero_le _, rfl, H0.out, zab _ _⟩
 case round =>
  clear H0
  obtain ⟨k, hk, rfl, ⟨ap, cp, rfl, hcp, hp⟩, hbw⟩ := hrel
  by_cases hlt : k < ls.length
  .have hk1 : (k : Int) < ls.length := by omega
   obtain ⟨q, c, ht, hqc, hq8, hql⟩ := HP.out.get k hlt
   have hkt : k < ts.length := by rw [HP.out.len]; exact hlt
   obtain ⟨b2, off, rfl, hbb, hcl⟩ := HR.out (by rw [zic]; omega)
   have hcell : wr.cell? ⟨b2, off + k, none⟩ = some (.slice q ls[k].length c) := by
    have h1 := (hbw.cell (p := ⟨b2, off + k, none⟩) hbb).trans (hcl k _ (znz ts k hkt)); rw [ht] at h1; exact h1
   have hst : pms (ls.take (k + 1)) = pm (pms (ls.take k)) (beh ls[k]) := by rw [zbm ls k hlt, zjk]
   have hby : ∀ l ∈ ls.take k, By l := fun l h => HP.out.by l (List.mem_of_mem_take h)
   obtain ⟨hP8, _⟩ := zqo (ls.take k) hby; have hPl := zboj (ls.take k) 5000 fun l h => HL.out l (List.mem_of_mem_take h)
   rw [List.length_take] at hPl
   have hPl2 : (pms (ls.take k)).length <= 1000000 := by have := HN.out; omega
   have hql5 := HL.out ls[k] (List.getElem_mem hlt); obtain ⟨l, hle⟩ : ∃ l, ls[k] = l := ⟨_, rfl⟩; rw [hle] at hcell hst hqc hq8 hql hql5; obtain ⟨P, hP⟩ : ∃ P, pms (ls.take k) = P := ⟨_, rfl⟩; rw [hP] at hst hp hcp hP8 hPl2; rw [hP]; have hmb := zcw l; have hm8 := hq8.beh; have HBE := zh (zew q c l wr (by omega) hqc (hql.step hbw))
   obtain ⟨m, hm⟩ : ∃ m, beh l = m := ⟨_, rfl⟩; rw [hm] at HBE hst hmb hm8
   have HT : Hid (∀ (u : World) (q2 : Option Addr) (c2 : Nat), Fld u b -> Lies u u.heap.size ap (u8s P) -> Lies u u.heap.size q2 (u8s m) -> Calls Tryz.prog 128 #[.pointer (some ⟨b, 0, none⟩), .slice ap P.length cp, .slice q2 m.length c2] u fun e w' => (∃ v, e = .returned v ∧ Reads w' v (pm P m)) ∧ Below u.heap.size u w') :=
    zh fun u q2 c2 h3 h4 h5 => zpd b ap q2 cp c2 P m u h3 hP8 hm8 hPl2 (by omega) h4 h5
   have HPP := zh hp; have HS := zh hst; have HW := zh hbw
   have HFR : Hid (Fld wr b) := zh (HF.out.step hbw)
   clear hp hst hbw hcl hbb hP hcp hP8 hPl hPl2 hql hqc hq8 hle hm8 hmb hm ht hql5
   go_wp2_with (first
    | (go_at_call 165; (with_reducible refine HBE.out.mono ?_); rintro e w1 ⟨⟨v, rfl, q2, c2, rfl, _, hv⟩, rfl⟩; have HV := zh hv; clear hv)
    | (go_at_call 128; (with_reducible refine (HT.out wr q2 c2 HFR.out HPP.out HV.out).mono ?_); rintro e w2 ⟨⟨v, rfl, hv⟩, b2⟩; have V2 := zh hv; have B2 := zh b2; clear hv b2))
   go_roundw
   case rel => exact ⟨k + 1, by omega, by go_num, by rw [HS.out]; exact V2.out, HW.out.next B2.out⟩
   case measure => simp [intOf]; omega
  .have ek : k = ls.length := by omega
   have HV : Hid (Reads wr (.slice ap (pms (ls.take k)).length cp) (pms ls)) := zh (by
    rw [ek, List.take_of_length_le (Nat.le_refl _)] at hp hcp ⊢; exact ⟨ap, cp, rfl, hcp, hp⟩)
   have HW := zh hbw; clear hp hbw; go_wp2; go_ret; exact ⟨⟨_, rfl, HV.out⟩, HW.out⟩
theorem zbfn (b : Nat) (a : Option Addr) (cap : Nat) (ts : List Hd) (ls : List (List Nat)) (w : World) (hp : Polz w ts ls) (hn : ls.length <= 100) (hl : ∀ l ∈ ls, l.length <= 5000) (hr : Lies w w.heap.size a (slvs ts)) :
  Calls Tryz.prog 163 #[.pointer (some ⟨b, 0, none⟩), .slice a ls.length cap] w fun e w' => (∃ v, e = .returned v ∧ Reads w' v (addl ls)) ∧ Below w.heap.size w w' := by
 have HR := zh hr
 have HP := zh hp
 have HL := zh hl
 have hN := zblb ls 5000 hl
 obtain ⟨N, hNe⟩ : ∃ N, mx ls = N := ⟨_, rfl⟩
 rw [hNe] at hN
 have HNE := zh hNe
 have HI8 : Hid ((Tryz.prog.info? 5).map (fun i => (i.zero, i.size, i.bytes)) = some (some (.int .u8 0), 1, 8) ∨ (Tryz.prog.info? 5).map (fun i => (i.zero, i.size, i.bytes)) = some (some (.int .u8 0), 1, 1)) := zh (Or.inr zbv)
 have HLL : Hid (N <= N) := zh (Nat.le_refl _)
 have HLM0 : Hid (N <= 1099511627776) := zh (by omega)
 have HZC : Hid ((Value.int .u8 0).cells = #[.int .u8 0]) := zh rfl
 have HS1 := zh zdx
 have hNi : (N : Int) <= 5000 := by omega
 obtain ⟨g, hg⟩ : ∃ g, g = w.heap.size := ⟨_, rfl⟩
 have HG := zh hg
 clear hr hp hl hNe hg
 go_enter Tryz.func163, Tryz.ntmps163
 go_wp2
 go_loop [5, 18] (fun n i => ∃ k : Nat, k <= ls.length ∧ i = .int .i64 k ∧ n = .int .i64 (mx (ls.take k) : Int)) (fun _ i => ls.length - (intOf i).toNat)
 case atStart => exact ⟨0, Nat.zero_le _, rfl, rfl⟩
 case round =>
  obtain ⟨k, hk, rfl, rfl⟩ := hrel
  by_cases hlt : k < ls.length
  .have hk1 : (k : Int) < ls.length := by omega
   obtain ⟨q, c, ht, hqc, hq8, hql⟩ := HP.out.get k hlt
   have hkt : k < ts.length := by rw [HP.out.len]; exact hlt
   obtain ⟨b2, off, rfl, hbb, hcl⟩ := HR.out (by rw [zic]; omega)
   have hcell : w.cell? ⟨b2, off + k, none⟩ = some (.slice q ls[k].length c) := by
    have h1 := hcl k _ (znz ts k hkt); rw [ht] at h1; exact h1
   have hst : mx (ls.take (k + 1)) = max (mx (ls.take k)) ls[k].length := by rw [zbm ls k hlt, zly]
   have hm1 := zblb (ls.take k) 5000 fun l h => HL.out l (List.mem_of_mem_take h)
   have hm2 := HL.out ls[k] (List.getElem_mem hlt); obtain ⟨M, hM⟩ : ∃ M, mx (ls.take k) = M := ⟨_, rfl⟩; obtain ⟨d, hd⟩ : ∃ d, ls[k].length = d := ⟨_, rfl⟩; rw [hM, hd] at hst; rw [hM] at hm1 ⊢; rw [hd] at hm2 hcell
   by_cases hMd : M < d
   .have HS : Hid (mx (ls.take (k + 1)) = d) := zh (by rw [hst]; omega)
    have h1 : (M : Int) < d := by omega
    have hq : max (M : Int) (d : Int) = (d : Int) := by omega
    clear hst hM hd hcl hbb ht hqc  hq8 hql; go_wp2
    go_round
    case rel => exact ⟨k + 1, by omega, by go_num, by rw [HS.out]⟩
    case measure => simp [intOf]; omega
   .have HS : Hid (mx (ls.take (k + 1)) = M) := zh (by rw [hst]; omega)
    have h1 : (d : Int) <= M := by omega
    have hq : max (M : Int) (d : Int) = (M : Int) := by omega
    clear hst hM hd hcl hbb ht hqc  hq8 hql; go_wp2
    go_round
    case rel => exact ⟨k + 1, by omega, by go_num, by rw [HS.out]⟩
    case measure => simp [intOf]; omega
  .have ek : k = ls.length := by omega
   rw [ek, List.take_of_length_le (Nat.le_refl _), HNE.out]; clear ek hlt
   go_wp2_with (first
    | ((with_reducible refine wpMakeK 107 5 (.int .u8 0) N N Tryz.underlying107 HI8.out HZC.out HLL.out HLM0.out ?_ ?_); rfl; intro w1 r1 b1 s1; have R1 := zh r1; have B1 := zh b1; clear r1 b1 s1))
   have RG : Hid (Row w1 g 5 (u8s (hi N (sumf (ls.take 0))))) := zh (by
    have h := R1.out; rw [<- HG.out] at h; rw [List.take_zero, zbme, zer]; exact h)
   rw [<- HG.out]; clear R1
   go_loopw [31] (fun i wr => ∃ k : Nat, k <= ls.length ∧ i = .int .i64 k ∧ Row wr g 5 (u8s (hi N (sumf (ls.take k)))) ∧ Below w.heap.size w wr) (fun i _ => ls.length - (intOf i).toNat)
   case atStart => exact ⟨0, Nat.zero_le _, rfl, RG.out, B1.out⟩
   case round =>
    clear RG B1; obtain ⟨k, hk, rfl, hrow, hbw⟩ := hrel
    by_cases hlt : k < ls.length
    .have hk1 : (k : Int) < ls.length := by omega
     obtain ⟨q, c, ht, hqc, hq8, hql⟩ := HP.out.get k hlt
     have hkt : k < ts.length := by rw [HP.out.len]; exact hlt
     obtain ⟨b2, off, rfl, hbb, hcl⟩ := HR.out (by rw [zic]; omega)
     have hcell : wr.cell? ⟨b2, off + k, none⟩ = some (.slice q ls[k].length c) := by
      have h1 := (hbw.cell (p := ⟨b2, off + k, none⟩) hbb).trans (hcl k _ (znz ts k hkt)); rw [ht] at h1; exact h1
     have hm2 := HL.out ls[k] (List.getElem_mem hlt); have hmx := zbpi ls ls[k] (List.getElem_mem hlt); rw [HNE.out] at hmx; have hsl := zzr (ls.take k) fun l h => HP.out.by l (List.mem_of_mem_take h)
     have hfull := zbha N (ls.take k) ls[k] hmx; rw [<- zbm ls k hlt] at hfull; obtain ⟨p, hpe⟩ : ∃ p, ls[k] = p := ⟨_, rfl⟩; rw [hpe] at hcell hqc hq8 hql hm2 hmx hfull; obtain ⟨S, hS⟩ : ∃ S, sumf (ls.take k) = S := ⟨_, rfl⟩; rw [hS] at hrow hsl hfull; rw [<- zbhc N S p] at hrow; have HFULL := zh hfull; have HSL := zh hsl; have HQ8 := zh hq8; have HQL := zh hql
     have HQW : Hid (w.heap.size <= w.heap.size) := zh (Nat.le_refl _)
     have R0 := zh hrow; have B0 := zh hbw
     by_cases hp0 : p.length = 0
     .have hDi : (N : Int) - (p.length : Int) = (N : Int) := by omega
      have hDN : N - N = p.length := by omega
      have hm3 : (p.length : Int) <= 5000 := by omega
      have hp1 : (p.length : Int) = 0 := by omega
      clear hcl hrow hbw hbb ht  hq8 hql hsl hfull hpe hS; go_wp2
      go_loopw [43] (fun i wr => i = .int .i64 0 ∧ Row wr g 5 (u8s (tab N (adj N S p p.length))) ∧ Below w.heap.size w wr) (fun i _ => p.length - (intOf i).toNat)
      case atStart => exact ⟨rfl, by rw [hp0]; exact R0.out, B0.out⟩
      case round =>
       clear R0 B0; obtain ⟨rfl, hrow, hbw⟩ := hrel
       have HROW : Hid (Row wr g 5 (u8s (hi N (sumf (ls.take (k + 1)))))) := zh (by rw [<- HFULL.out]; exact hrow)
       have HBW := zh hbw; clear hrow hbw; go_wp2
       go_roundw
       case rel => exact ⟨k + 1, by omega, by go_num, HROW.out, HBW.out⟩
       case measure => simp [intOf]; omega
     .obtain ⟨D, hD⟩ : ∃ D, N - p.length = D := ⟨_, rfl⟩
      have HD := zh hD
      have hND : ¬ N = D := by omega
      have hDi : (N : Int) - (p.length : Int) = (D : Int) := by omega
      have hDN : N - D = p.length := by omega
      have hDl : (D : Int) <= N := by omega
      have hD0 : 0 <= (D : Int) := by omega
      have hm3 : (p.length : Int) <= 5000 := by omega
      clear hcl hrow hbw hbb ht  hq8 hql hsl hfull hpe hS hD; go_wp2
      go_loopw [43] (fun i wr => ∃ j : Nat, j <= p.length ∧ i = .int .i64 j ∧ Row wr g 5 (u8s (tab N (adj N S p j))) ∧ Below w.heap.size w wr) (fun i _ => p.length - (intOf i).toNat)
      case atStart => exact ⟨0, Nat.zero_le _, rfl, R0.out, B0.out⟩
      case round =>
       clear R0 B0; obtain ⟨j, hj, rfl, hrow, hbw⟩ := hrel
       by_cases hlj : j < p.length
       .have hj1 : (j : Int) < p.length := by omega
        obtain ⟨b3, off3, rfl, hbb3, hcl3⟩ := HQL.out (by rw [zaf]; omega)
        have hcell3 : wr.cell? ⟨b3, off3 + j, none⟩ = some (.int .u8 (sq p j : Int)) := by rw [zar p j hlj]; exact (hbw.cell (p := ⟨b3, off3 + j, none⟩) hbb3).trans (hcl3 j _ (zbp p j hlj))
        have hDj : D + j < N := by omega
        have hcp : wr.cell? ⟨g, D + j, none⟩ = some (.int .u8 (adj N S p j (D + j) : Int)) := by
         rw [hrow.cell, u8s, List.getElem?_map, zgq _ _ _ hDj]; rfl
        have hst := zbhb N S p j; rw [HD.out] at hst; have hx8 := zbns (N := N) HSL.out HQ8.out j (D + j); have hy8 := HQ8.out.sq j; obtain ⟨x, hx⟩ : ∃ x, adj N S p j (D + j) = x := ⟨_, rfl⟩; obtain ⟨y, hy⟩ : ∃ y, sq p j = y := ⟨_, rfl⟩; rw [hx, hy] at hst; rw [hx] at hcp hx8; rw [hy] at hcell3 hy8; have HA0 := fun (u : World) => add2 b x y 5 hx8 hy8 u
        obtain ⟨r, hr⟩ : ∃ r, x ^^^ y = r := ⟨_, rfl⟩; rw [hr] at hst HA0; have HA := zh HA0; have HROW := zh hrow; have HBW := zh hbw
        have HGB : Hid (w.heap.size <= g) := zh (by rw [HG.out]; exact Nat.le_refl _)
        have HLM : Hid (D + j < (u8s (tab N (adj N S p j))).length) := zh (by rw [zaf, zad]; exact hDj)
        have HVC : Hid ((Value.int .u8 (r : Int)).cells = #[.int .u8 (r : Int)]) := zh rfl
        have HVO : Hid ((Value.int .u8 (r : Int)).oneCell' = true) := zh rfl
        have HST : Hid ((u8s (tab N (adj N S p j))).set (D + j) (.int .u8 (r : Int)) = u8s (tab N (adj N S p (j + 1)))) := zh (by rw [zcl, hst])
        clear HA0 hrow hbw hst hx hy hr hcl3 hbb3 hx8 hy8
        go_wp2_with (first
         | (go_at_call 150; (with_reducible refine (HA.out wr).mono ?_); rintro e w1 ⟨rfl, b1⟩; have B1 := zh b1; have R1 := zh (HROW.out.step b1); clear b1)
         | ((with_reducible refine R1.out.wpStore1K (D + j) 5 (.int .u8 (r : Int)) HS1.out HLM.out HVC.out HVO.out ?_ ?_); rfl; intro w2 r2 o2 s2; have R2 := zh r2; have O2 := zh o2; clear r2 o2 s2))
        go_roundw
        case rel => exact ⟨j + 1, by omega, by go_num, by have h := R2.out; rw [HST.out] at h; exact h, (HBW.out.next B1.out).trans (O2.out.below HGB.out (HBW.out.next B1.out).size)⟩
        case measure => simp [intOf]; omega
       .have ej : j = p.length := by omega
        have HROW : Hid (Row wr g 5 (u8s (hi N (sumf (ls.take (k + 1)))))) := zh (by rw [<- HFULL.out, <- ej]; exact hrow)
        have HBW := zh hbw; clear hrow hbw ej; go_wp2
        go_roundw
        case rel => exact ⟨k + 1, by omega, by go_num, HROW.out, HBW.out⟩
        case measure => simp [intOf]; omega
    .have ek : k = ls.length := by omega
     rw [ek, List.take_of_length_le (Nat.le_refl _)] at hrow; obtain ⟨T, hT⟩ : ∃ T, hi N (sumf ls) = T := ⟨_, rfl⟩
     have hTl : T.length = N := by rw [<- hT, zcy]
     rw [hT] at hrow
     have HBE : Hid (Calls Tryz.prog 165 #[.slice (some ⟨g, 0, none⟩) N N] wr fun e w' => (∃ v, e = .returned v ∧ Reads w' v (addl ls)) ∧ wr = w') := zh (by
      have h := zew (some ⟨g, 0, none⟩) N T wr (by omega) (by omega) (zbk hrow)
      rw [hTl] at h; exact h.mono fun e w' ⟨⟨v, h1, h2⟩, h3⟩ => ⟨⟨v, h1, by rw [addl, HNE.out, hT, <- h3]; exact h2⟩, h3⟩)
     have HBW := zh hbw; clear hrow hbw ek hT hTl
     go_wp2_with (go_at_call 165; (with_reducible refine HBE.out.mono ?_); rintro e w2 ⟨⟨v, rfl, hv⟩, rfl⟩; have HV := zh hv; clear hv)
     go_ret; exact ⟨⟨_, rfl, HV.out⟩, HBW.out⟩
theorem zbkq {u : World} {a c : Option Addr} {ca cc : Nat} {A C : List Nat} (hA : By A) (hC : By C) (h1 : A.length <= ca) (h2 : C.length <= cc)
  (hr : Lies u u.heap.size a (u8s A)) (hs : Lies u u.heap.size c (u8s C)) : Polz u [(a, A.length, ca), (c, C.length, cc)] [A, C] := by
 refine ⟨rfl, fun i hi hi2 => ?_⟩
 match i, hi with
 | 0, _ => exact ⟨rfl, h1, hA, hr⟩
 | 1, _ => exact ⟨rfl, h2, hC, hs⟩
def Fresh (w : World) (v : Value) : Prop := ∀ a n c, v = .slice (some a) n c -> w.heap.size <= a.block
end
section
open Go.RowKit GfMath PolyMath RsMath SolMath
def Pls (ls : List (List Nat)) : Value -> World -> Prop := fun v w => ∃ blk ts, v = .slice (some ⟨blk, 0, none⟩) ls.length ls.length ∧ Polz w ts ls ∧ Lies w w.heap.size (some ⟨blk, 0, none⟩) (slvs ts)
theorem Pls.monot (ls : List (List Nat)) : Monot (Pls ls) := fun _ _ _ ⟨b, t, h1, h2, h3⟩ hb => ⟨b, t, h1, h2.step hb, h3.step hb⟩
theorem zgn {w : World} {v1 v2 : Value} {A C : List Nat} {t : TypeId} (hA : By A) (hC : By C) (h1 : Rd A v1 w) (h2 : Rd C v2 w) : Pls [A, C] (.slice (some ⟨w.heap.size, 0, none⟩) 2 2) (w.alloc (.cells #[v1, v2] t)) := by
 obtain ⟨a1, c1, rfl, q1, l1⟩ := h1
 obtain ⟨a2, c2, rfl, q2, l2⟩ := h2
 exact ⟨_, _, rfl, (zbkq hA hC q1 q2 l1 l2).step (zab _ _), Lies.new [.slice a1 A.length c1, .slice a2 C.length c2] w _⟩
theorem pmulV (b : Nat) (v : Value) (ls : List (List Nat)) (w : World) (hf : Fld w b) (h : Pls ls v w) (hn : ls.length <= 100) (hl : ∀ l ∈ ls, l.length <= 5000) :
  Calls Tryz.prog 164 #[.pointer (some ⟨b, 0, none⟩), v] w fun e w' => (∃ v, e = .returned v ∧ Reads w' v (pms ls)) ∧ Below w.heap.size w w' := by
 obtain ⟨blk, ts, rfl, h2, h3⟩ := h
 exact zbfr b _ _ ts ls w hf h2 hn hl h3
theorem paddV (b : Nat) (v : Value) (ls : List (List Nat)) (w : World) (h : Pls ls v w) (hn : ls.length <= 100) (hl : ∀ l ∈ ls, l.length <= 5000) :
  Calls Tryz.prog 163 #[.pointer (some ⟨b, 0, none⟩), v] w fun e w' => (∃ v, e = .returned v ∧ Reads w' v (addl ls)) ∧ Below w.heap.size w w' := by
 obtain ⟨blk, ts, rfl, h2, h3⟩ := h
 exact zbfn b _ _ ts ls w h2 hn hl h3
theorem evalV (b : Nat) (v : Value) (l : List Nat) (x : Nat) (w : World) (hf : Fld w b) (h : Rd l v w) (hb : By l) (hx : x < 256) (hl : l.length <= 5000) :
  Calls Tryz.prog 174 #[.pointer (some ⟨b, 0, none⟩), v, .int .u8 (x : Int)] w fun e w' => e = .returned (.int .u8 (ev l x : Int)) ∧ Below w.heap.size w w' := by
 obtain ⟨a, c, rfl, _, h⟩ := h
 exact zuf b a c l x w hf hb hx (by omega) h
theorem deriveV (b : Nat) (v : Value) (l : List Nat) (w : World) (h : Rd l v w) (hb : By l) (hl : l.length <= 5000) :
  Calls Tryz.prog 178 #[.pointer (some ⟨b, 0, none⟩), v] w fun e w' => (∃ v, e = .returned v ∧ Reads w' v (beh (dl l))) ∧ Below w.heap.size w w' := by
 obtain ⟨a, c, rfl, _, h⟩ := h
 exact zbah b a c l w hb (by omega) h
theorem shiftV (v : Value) (l : List Nat) (n : Int) (w : World) (h : Rd l v w) (hl : l.length <= 5000) :
  Calls Tryz.prog 140 #[v, .int .i64 n] w fun e w' => (∃ v, e = .returned v ∧ Reads w' v (shl l (shn n))) ∧ Below w.heap.size w w' := by
 obtain ⟨a, c, rfl, h0, h⟩ := h
 exact zll a c l n w (by omega) h0 h
theorem mulV (b : Nat) (v : Value) (l : List Nat) (w : World) (hf : Fld w b) (h : Rd l v w) (hb : By l) (hl : l.length <= 5000) :
  Calls Tryz.prog 151 #[.pointer (some ⟨b, 0, none⟩), v] w fun e w' => e = .returned (.int .u8 (prod l : Int)) ∧ Below w.heap.size w w' := by
 obtain ⟨a, c, rfl, _, h⟩ := h
 exact zzh b a c l w hf hb (by omega) h
theorem addV (b : Nat) (v : Value) (l : List Nat) (w : World) (h : Rd l v w) (hb : By l) (hl : l.length <= 5000) :
  Calls Tryz.prog 150 #[.pointer (some ⟨b, 0, none⟩), v] w fun e w' => e = .returned (.int .u8 (sum l : Int)) ∧ Below w.heap.size w w' := by
 obtain ⟨a, c, rfl, _, h⟩ := h
 exact (zym b a c l w hb (by omega) h).mono fun e w' ⟨h1, h2⟩ => ⟨h1, h2 ▸ zb⟩
theorem divV (b x y : Nat) (w : World) (hf : Fld w b) (hx : x < 256) (hy : y < 256) :
  Calls Tryz.prog 162 #[.pointer (some ⟨b, 0, none⟩), .int .u8 (x : Int), .int .u8 (y : Int)] w fun e w' => e = .returned (.tuple #[.int .u8 (gm x (iv y) : Int), .bool (decide (y ≠ 0))]) ∧ Below w.heap.size w w' := by
 by_cases h0 : y = 0
 .subst h0
  refine (zbho b x w).mono fun e w' ⟨h1, h2⟩ => ⟨?_, h2 ▸ zb⟩
  rw [h1, show iv 0 = 0 from rfl, zag]
  rfl
 .refine (zyy b x y w hf hx hy h0).mono fun e w' ⟨h1, h2⟩ => ⟨?_, h2⟩
  rw [h1, decide_eq_true h0]
theorem invV (b x : Nat) (w : World) (hf : Fld w b) (hx : x < 256) :
  Calls Tryz.prog 179 #[.pointer (some ⟨b, 0, none⟩), .int .u8 (x : Int)] w fun e w' => e = .returned (.tuple #[.int .u8 (iv x : Int), .bool (decide (x ≠ 0))]) ∧ Below w.heap.size w w' := by
 by_cases h0 : x = 0
 .subst h0
  exact (zut b w).mono fun e w' ⟨h1, h2⟩ => ⟨h1, h2 ▸ zb⟩
 .refine (zze b x w hf hx h0).mono fun e w' ⟨h1, h2⟩ => ⟨?_, h2⟩
  rw [h1, decide_eq_true h0]
def solL (b n p g lost : Nat) (V E T : Value) : List Value := [.pointer (some ⟨b, 0, none⟩), .int .i64 (n : Int), .int .i64 (p : Int), .slice (some ⟨g, 0, none⟩) n n, .int .i64 (lost : Int), V, E, T]
def bools (l : List Bool) : List Value := l.map Value.bool
theorem zbcw (l : List Bool) (i : Nat) (h : i < l.length) : (bools l)[i]? = some (.bool (gAt l i)) := by simp [bools, gAt, h, List.getD_eq_getElem?_getD]
theorem zbcx (l : List Bool) (i : Nat) (b : Bool) : (bools l).set i (.bool b) = bools (l.set i b) := by simp [bools, List.map_set]
structure Sol (w : World) (s b n p g : Nat) (G : List Bool) (lost : Nat) (V E T : Value) : Prop where
 row : Row w s 233 (solL b n p g lost V E T)
 gone : Row w g 4 (bools G)
 fld : Fld w b
 ne : g ≠ s
 len : G.length = n
 slV : ∃ a n c, V = .slice a n c
 slE : ∃ a n c, E = .slice a n c
 slT : ∃ a n c, T = .slice a n c
theorem Sol.step {w w' : World} {s b n p g : Nat} {G : List Bool} {lost : Nat} {V E T : Value} (h : Sol w s b n p g G lost V E T) (hb : Below w.heap.size w w') : Sol w' s b n p g G lost V E T :=
 ⟨h.row.step hb, h.gone.step hb, h.fld.step hb, h.ne, h.len, h.slV, h.slE, h.slT⟩
section
variable {w : World} {s b n p g : Nat} {G : List Bool} {lost : Nat} {V E T : Value}
theorem Sol.lt (h : Sol w s b n p g G lost V E T) : s < w.heap.size := h.row.lt
theorem Fld.far {w : World} {b : Nat} (h : Fld w b) (p : Addr) (v : Value) (hp : b ≠ p.block) : Fld (w.setCell p v) b := by
 obtain ⟨P, h1, h2⟩ := h
 exact ⟨P, h1, h2.far p v hp⟩
theorem Sol.c0 (h : Sol w s b n p g G lost V E T) : w.cell? ⟨s, 0, none⟩ = some (.pointer (some ⟨b, 0, none⟩)) := by rw [h.row.cell]; rfl
theorem Sol.c1 (h : Sol w s b n p g G lost V E T) : w.cell? ⟨s, 1, none⟩ = some (.int .i64 (n : Int)) := by rw [h.row.cell]; rfl
theorem Sol.c2 (h : Sol w s b n p g G lost V E T) : w.cell? ⟨s, 2, none⟩ = some (.int .i64 (p : Int)) := by rw [h.row.cell]; rfl
theorem Sol.c3 (h : Sol w s b n p g G lost V E T) : w.cell? ⟨s, 3, none⟩ = some (.slice (some ⟨g, 0, none⟩) n n) := by rw [h.row.cell]; rfl
theorem Sol.c4 (h : Sol w s b n p g G lost V E T) : w.cell? ⟨s, 4, none⟩ = some (.int .i64 (lost : Int)) := by rw [h.row.cell]; rfl
theorem Sol.c5 (h : Sol w s b n p g G lost V E T) : w.cell? ⟨s, 5, none⟩ = some V := by rw [h.row.cell]; rfl
theorem Sol.c6 (h : Sol w s b n p g G lost V E T) : w.cell? ⟨s, 6, none⟩ = some E := by rw [h.row.cell]; rfl
theorem Sol.c7 (h : Sol w s b n p g G lost V E T) : w.cell? ⟨s, 7, none⟩ = some T := by rw [h.row.cell]; rfl
theorem Sol.nou8 (h : Sol w s b n p g G lost V E T) : ∀ x ∈ solL b n p g lost V E T, ∀ z, x ≠ .int .u8 z := by
 intro x hx z
 obtain ⟨_, _, _, rfl⟩ := h.slV
 obtain ⟨_, _, _, rfl⟩ := h.slE
 obtain ⟨_, _, _, rfl⟩ := h.slT
 simp only [solL, List.mem_cons, List.not_mem_nil, or_false] at hx
 rcases hx with rfl | rfl | rfl | rfl | rfl | rfl | rfl | rfl <;> simp
theorem Sol.gc (h : Sol w s b n p g G lost V E T) (i : Nat) (hi : i < n) : w.cell? ⟨g, i, none⟩ = some (.bool (gAt G i)) := by
 rw [h.gone.cell, zbcw _ _ (by rw [h.len]; exact hi)]
end
theorem zbbb {w : World} {g B : Nat} {t : TypeId} {xs : List Value} {a : Option Addr} {l : List Nat} (hrow : Row w g t xs) (hno : ∀ x ∈ xs, ∀ z, x ≠ .int .u8 z) (h : Lies w B a (u8s l)) (p : Addr) (hp : p.block = g) (v : Value) : Lies (w.setCell p v) B a (u8s l) := by
 intro h0
 obtain ⟨b, off, rfl, hb, hc⟩ := h h0
 refine ⟨b, off, rfl, hb, fun j u hu => ?_⟩
 have hne : b ≠ g := by
  rintro rfl
  have hx := hc j u hu
  rw [hrow.cell] at hx
  rw [u8s, List.getElem?_map] at hu
  obtain ⟨z, _, rfl⟩ := Option.map_eq_some_iff.1 hu
  exact hno _ (List.mem_of_getElem? hx) _ rfl
 have e1 : (w.setCell p v).heap[b]? = w.heap[b]? := heap_setCell_other w p b v (by rw [hp]; exact hne)
 rw [<- hc j u hu]
 simp only [World.cell?, e1]
theorem Reads.apart {w : World} {g : Nat} {t : TypeId} {xs : List Value} {v : Value} {l : List Nat} (hrow : Row w g t xs) (hno : ∀ x ∈ xs, ∀ z, x ≠ .int .u8 z) (h : Reads w v l) (p : Addr) (hp : p.block = g) (u : Value) : Reads (w.setCell p u) v l := by
 obtain ⟨a, c, e, h1, h2⟩ := h
 refine ⟨a, c, e, h1, ?_⟩
 rw [World.size_setCell]
 exact zbbb hrow hno h2 p hp u
section
variable {w : World} {s b n p g : Nat} {G : List Bool} {lost : Nat} {V E T : Value}
theorem Sol.putE (h : Sol w s b n p g G lost V E T) (hb : b ≠ s) {v : Value} (hv : ∃ a n c, v = .slice a n c) : Sol (w.setCell ⟨s, 6, none⟩ v) s b n p g G lost V v T :=
 ⟨h.row.set 6 _, h.gone.far _ _ h.ne, h.fld.far _ _ hb, h.ne, h.len, h.slV, hv, h.slT⟩
theorem Sol.putT (h : Sol w s b n p g G lost V E T) (hb : b ≠ s) {v : Value} (hv : ∃ a n c, v = .slice a n c) : Sol (w.setCell ⟨s, 7, none⟩ v) s b n p g G lost V E v :=
 ⟨h.row.set 7 _, h.gone.far _ _ h.ne, h.fld.far _ _ hb, h.ne, h.len, h.slV, h.slE, hv⟩
end
theorem zuv (s b n p g : Nat) (G : List Bool) (lost : Nat) (V E T : Value) (i : Nat) (w : World) (h : Sol w s b n p g G lost V E T) (hn : n <= 255) (hi : i < n) :
  Calls Tryz.prog 176 #[.pointer (some ⟨s, 0, none⟩), .int .i64 (i : Int)] w fun e w' => e = .returned (.int .u8 (mrk n i : Int)) ∧ Below w.heap.size w w' := by
 have h0 := h.c0
 have h1 := h.c1
 have hnb : (n : Int) <= 255 := by omega
 have hn0 : 1 <= (n : Int) := by omega
 have hib : (i : Int) <= 255 := by omega
 have hi2 : 0 <= (n : Int) - 1 - (i : Int) := by omega
 have HX : Hid (∀ d, Calls Tryz.prog 130 #[.pointer (some ⟨b, 0, none⟩), .int .i64 ((n : Int) - 1 - (i : Int))] (w.drewN d) fun e w' => e = .returned (.int .u8 (mrk n i : Int)) ∧ Below (w.drewN d).heap.size (w.drewN d) w') := zh fun d => by
  have e1 : (n : Int) - 1 - (i : Int) = ((n - 1 - i : Nat) : Int) := by omega
  rw [e1]
  have := zio b ((n - 1 - i : Nat) : Int) (w.drewN d) (h.fld.step ((zb).drewN d))
  rwa [zlw] at this
 have HB : Hid (Below w.heap.size w w.drew) := zh ((zb).drew)
 have HX2 : Hid (∀ wq, Below w.heap.size w wq -> Calls Tryz.prog 130 #[.pointer (some ⟨b, 0, none⟩), .int .i64 ((n : Int) - 1 - (i : Int))] wq fun e w' => e = .returned (.int .u8 (mrk n i : Int)) ∧ Below wq.heap.size wq w') := zh fun wq hb => by
  have e1 : (n : Int) - 1 - (i : Int) = ((n - 1 - i : Nat) : Int) := by omega
  rw [e1]
  have := zio b ((n - 1 - i : Nat) : Int) wq (h.fld.step hb)
  rwa [zlw] at this
 obtain ⟨y, hy⟩ : ∃ y, mrk n i = y := ⟨_, rfl⟩
 rw [hy] at HX HX2 ⊢
 clear h hy HX
 go_enter Tryz.func176, Tryz.ntmps176
 go_wp2
 go_still_tail 11, (by kernel_rfl)
 change wpList _ _ _ _ _ w.drew
 generalize w.drew = wq at *
 go_wp2_with (go_at_call 130; (with_reducible refine (HX2.out wq HB.out).mono ?_); rintro e u1 ⟨rfl, b1⟩; have B1 := zh (HB.out.next b1); clear b1)
 go_ret
 exact ⟨rfl, B1.out⟩
theorem zzg (s b n p g : Nat) (G : List Bool) (lost : Nat) (V E T : Value) (v : Value) (l : List Nat) (w : World) (h : Sol w s b n p g G lost V E T) (hp1 : 1 <= p) (hp : p <= 255) (hl : l.length <= 5000) (hv : Rd l v w) :
  Calls Tryz.prog 177 #[.pointer (some ⟨s, 0, none⟩), v] w fun e w' => (∃ v, e = .returned v ∧ Reads w' v (lowl p l)) ∧ Below w.heap.size w w' := by
 have h2 := h.c2
 obtain ⟨a, c, rfl, hc, hr⟩ := hv
 have hpb : (p : Int) <= 255 := by omega
 have hp0 : 1 <= (p : Int) := by omega
 have hlb : (l.length : Int) <= 5000 := by omega
 by_cases hlt : l.length <= p
 .have HR : Hid (Reads w (.slice a l.length c) (lowl p l)) := zh (by
   rw [lowl, show l.length - p = 0 by omega, List.drop_zero]
   exact ⟨a, c, rfl, hc, hr⟩)
  have hd : (l.length : Int) - (p : Int) <= 0 := by omega
  have hm : max 0 ((l.length : Int) - (p : Int)) = 0 := by omega
  have hnl : ¬ (0 : Int) < (l.length : Int) - (p : Int) := by omega
  obtain ⟨L, hL⟩ : ∃ L, l.length = L := ⟨_, rfl⟩
  rw [hL] at HR hlb hd hm hnl hc ⊢
  clear h hr hL hlt hl
  go_enter Tryz.func177, Tryz.ntmps177
  go_wp2
  go_ret
  first
   | exact ⟨⟨_, rfl, HR.out⟩, zb⟩
   | (refine ⟨⟨_, rfl, ?_⟩, zb⟩; simpa using HR.out)
 .obtain ⟨k, hk⟩ : ∃ k, l.length - p = k := ⟨_, rfl⟩
  obtain ⟨bb, off, rfl, hbb, hcl⟩ := hr (by rw [zaf]; omega)
  have HR : Hid (Reads w (.slice (some ⟨bb, off + k, none⟩) (l.length - k) (c - k)) (lowl p l)) := zh (by
   have hlen : (lowl p l).length = l.length - k := by rw [lowl, List.length_drop, hk]
   refine ⟨some ⟨bb, off + k, none⟩, c - k, by rw [hlen], by rw [hlen]; omega, ?_⟩
   have h8 := Lies.drop (show Lies w w.heap.size (some ⟨bb, off, none⟩) (u8s l) from fun _ => ⟨bb, off, rfl, hbb, hcl⟩) k
   rw [lowl, hk, u8s, List.map_drop]; exact h8)
  have hki : (l.length : Int) - (p : Int) = (k : Int) := by omega
  have hk0 : 0 < (k : Int) := by omega
  have hkl : (k : Int) <= (l.length : Int) := by omega
  have hkn : k <= l.length := by omega
  have hkc : ¬ c - k = 0 := by omega
  have hkc2 : k < c := by omega
  have hm : max 0 (k : Int) = (k : Int) := by omega
  obtain ⟨L, hL⟩ : ∃ L, l.length = L := ⟨_, rfl⟩
  rw [hL] at HR hlb hki hkl hkn hc ⊢
  clear h hr hL hlt hl hcl hk
  go_enter Tryz.func177, Tryz.ntmps177
  go_wp2
  go_ret
  exact ⟨⟨_, rfl, HR.out⟩, zb⟩
theorem zov (v : Value) (l : List Nat) (z : Int) (w : World) (hl : l.length <= 5000) (hz : -100000 <= z) (hz2 : z <= 100000) (hv : Rd l v w) :
  Calls Tryz.prog 182 #[v, .int .i64 z] w fun e w' => e = .returned (.int .u8 (fcI l z : Int)) ∧ w = w' := by
 obtain ⟨a, c, rfl, hc, hr⟩ := hv
 have hlb : (l.length : Int) <= 5000 := by omega
 by_cases h0 : z < 0
 .have HF : Hid (fcI l z = 0) := zh (if_pos h0)
  clear hr
  go_enter Tryz.func182, Tryz.ntmps182
  go_wp2
  go_ret
  exact ⟨zay (by rw [HF.out]; rfl), rfl⟩
 .by_cases h1 : (l.length : Int) <= z
  .have HF : Hid (fcI l z = 0) := zh (by unfold fcI; rw [if_neg h0]; exact zau _ _ (by omega))
   clear hr
   go_enter Tryz.func182, Tryz.ntmps182
   go_wp2; go_ret; exact ⟨zay (by rw [HF.out]; rfl), rfl⟩
  .obtain ⟨k, rfl⟩ : ∃ k : Nat, z = k := ⟨z.toNat, by omega⟩
   have hk : k < l.length := by omega
   have hki : (k : Int) < (l.length : Int) := by omega
   obtain ⟨bb, off, rfl, hbb, hcl⟩ := hr (by rw [zaf]; omega)
   have hcell : w.cell? ⟨bb, off + (l.length - 1 - k), none⟩ = some (.int .u8 (fcI l (k : Int) : Int)) := by
    rw [show fcI l (k : Int) = sq l (l.length - 1 - k) by unfold fcI; rw [if_neg (by omega), Int.toNat_natCast, zce _ _ hk]]
    exact zrb hcl _ (by omega)
   have hi0 : 0 <= (l.length : Int) - 1 - (k : Int) := by omega
   have hi1 : (l.length : Int) - 1 - (k : Int) < (l.length : Int) := by omega
   have hi2 : ((l.length : Int) - 1 - (k : Int)).toNat = l.length - 1 - k := by omega
   have hi3 : l.length - 1 - k < l.length := by omega
   clear hcl hr
   go_enter Tryz.func182, Tryz.ntmps182
   go_wp2; go_ret; exact ⟨rfl, rfl⟩
end
section
open Go.RowKit GfMath PolyMath RsMath SolMath
def revk (l : List Nat) (k : Nat) : List Nat := tab l.length fun n => if n < k ∨ l.length - k <= n then sq l (l.length - 1 - n) else sq l n
theorem zhz (l : List Nat) (k : Nat) : (revk l k).length = l.length := zad _ _
theorem zbgb (l : List Nat) : revk l 0 = l := by
 unfold revk
 conv => rhs; rw [<- zju l]
 exact zam _ fun n hn => if_neg (by omega)
theorem zbfz (l : List Nat) (k : Nat) (h : l.length <= 2 * k + 1) : revk l k = l.reverse := by
 refine zfg (by rw [zhz, List.length_reverse]) fun n hn => ?_
 rw [zhz] at hn
 have h1 : sq l.reverse n = sq l (l.length - 1 - n) := by
  rw [zar _ _ (by rw [List.length_reverse]; exact hn), zar _ _ (by omega), List.getElem_reverse]
 rw [revk, zbg, if_pos hn, h1]
 split
 .rfl
 .rw [show l.length - 1 - n = n by omega]
theorem zbga (l : List Nat) (k : Nat) (h : 2 * k + 1 < l.length) :
  ((revk l k).set k (sq (revk l k) (l.length - 1 - k))).set (l.length - 1 - k) (sq (revk l k) k) = revk l (k + 1) := by
 have h1 : sq (revk l k) (l.length - 1 - k) = sq l (l.length - 1 - k) := by rw [revk, zbg, if_pos (by omega), if_neg (by omega)]
 have h2 : sq (revk l k) k = sq l k := by rw [revk, zbg, if_pos (by omega), if_neg (by omega)]
 rw [h1, h2, revk, zdh, zdh, revk]
 refine zam _ fun n hn => ?_
 by_cases e1 : n = l.length - 1 - k
 .rw [if_pos e1, if_pos (by omega), e1, show l.length - 1 - (l.length - 1 - k) = k by omega]
 .rw [if_neg e1]
  by_cases e2 : n = k
  .rw [if_pos e2, if_pos (by omega), e2]
  .rw [if_neg e2]
   by_cases e3 : n < k ∨ l.length - k <= n
   .rw [if_pos e3, if_pos (by omega)]
   .rw [if_neg e3, if_neg (by omega)]
theorem zxx (g cap : Nat) (l : List Nat) (ys : List Value) (w : World) (hb : By l) (h0 : 0 < l.length) (hl : l.length <= 1000) (hr : Row w g 5 (u8s l ++ ys)) :
  Calls Tryz.prog 175 #[.slice (some ⟨g, 0, none⟩) l.length cap] w fun e w' => e = .returned (.tuple #[]) ∧ Row w' g 5 (u8s l.reverse ++ ys) ∧ Only g w w' := by
 have HR0 : Hid (Row w g 5 (u8s (revk l 0) ++ ys)) := zh (by rw [zbgb]; exact hr)
 have hli : (l.length : Int) <= 1000 := by omega
 have hl0 : 1 <= (l.length : Int) := by omega
 obtain ⟨L, hL⟩ : ∃ L, l.length = L := ⟨_, rfl⟩
 have HF : Hid (∀ k, L <= 2 * k + 1 -> revk l k = l.reverse) := zh (by rw [<- hL]; exact zbfz l)
 have HS : Hid (∀ k, 2 * k + 1 < L -> ((revk l k).set k (sq (revk l k) (L - 1 - k))).set (L - 1 - k) (sq (revk l k) k) = revk l (k + 1)) := zh (by rw [<- hL]; exact zbga l)
 have HLN : Hid (∀ k, (revk l k).length = L) := zh (by rw [<- hL]; exact zhz l)
 have HB : Hid (∀ k, By (revk l k)) := zh fun k => zbt _ fun n _ => by split <;> exact hb.sq _
 rw [hL] at hli hl0 h0 hl ⊢
 obtain ⟨X, hX⟩ : ∃ X, l.reverse = X := ⟨_, rfl⟩
 rw [hX] at HF ⊢
 obtain ⟨RK, hRK⟩ : ∃ RK, revk l = RK := ⟨_, rfl⟩
 rw [hRK] at HF HS HLN HB HR0
 have hL1 : ((1 : Nat) : Int) = 1 := rfl
 clear hr hL hX hRK hb
 go_enter Tryz.func175, Tryz.ntmps175
 go_wp2
 go_loopw [2, 3] (fun i j wr => ∃ k : Nat, k < L ∧ 2 * k <= L ∧ i = .int .i64 k ∧ j = .int .i64 ((L : Int) - 1 - (k : Int)) ∧ Row wr g 5 (u8s (RK k) ++ ys) ∧ Only g w wr) (fun i _ _ => L - (intOf i).toNat)
 case atStart => exact ⟨0, by omega, by omega, rfl, by congr 1; omega, HR0.out, Only.refl _ _⟩
 case round =>
  clear HR0
  obtain ⟨k, hk, hk2, rfl, rfl, hrow, ho⟩ := hrel
  have HO := zh ho
  have HR := zh hrow
  by_cases hlt : 2 * k + 1 < L
  .obtain ⟨m, hm⟩ : ∃ m, L - 1 - k = m := ⟨_, rfl⟩
   have hj : (L : Int) - 1 - (k : Int) = (m : Int) := by omega
   have hkm : (k : Int) < (m : Int) := by omega
   have hkL : (k : Int) < (L : Int) := by omega
   have hmL : (m : Int) < (L : Int) := by omega
   have hmn : m < L := by omega
   have hm0 : 0 <= (m : Int) := by omega
   have hk0 : 0 <= (k : Int) := by omega
   have hkm2 : k < m := by omega
   have hln := HLN.out k
   have c1 : wr.cell? ⟨g, k, none⟩ = some (.int .u8 (sq (RK k) k : Int)) := by rw [hrow.cell, List.getElem?_append_left (by rw [zaf]; omega), zbp _ _ (by omega), zar _ _ (by omega)]
   have c2 : wr.cell? ⟨g, m, none⟩ = some (.int .u8 (sq (RK k) m : Int)) := by rw [hrow.cell, List.getElem?_append_left (by rw [zaf]; omega), zbp _ _ (by omega), zar _ _ (by omega)]
   have hf1 := hrow.frozen k; have hf2 := hrow.frozen m; have hst := HS.out k hlt; rw [hm] at hst; have hx8 := (HB.out k).sq k; have hy8 := (HB.out k).sq m; have HNX := HLN.out (k + 1); obtain ⟨x, hx⟩ : ∃ x, sq (RK k) k = x := ⟨_, rfl⟩; obtain ⟨y, hy⟩ : ∃ y, sq (RK k) m = y := ⟨_, rfl⟩; rw [hx, hy] at hst; rw [hx] at c1 hx8; rw [hy] at c2 hy8; obtain ⟨Rk, hRk⟩ : ∃ Rk, RK k = Rk := ⟨_, rfl⟩; rw [hRk] at HR hst hln; obtain ⟨Rn, hRn⟩ : ∃ Rn, RK (k + 1) = Rn := ⟨_, rfl⟩
   have HRN : Hid (RK (k + 1) = Rn) := zh hRn
   rw [hRn] at hst; have HST := zh hst; have HLk := zh hln; rw [hj]; have HJ := zh hj; clear hrow ho hst hln hRk hRn hx hy hm hj HNX HS HF HB HLN; go_wp2
   go_region
   have R2 : Hid (Row (((wr.setCell ⟨g, k, none⟩ (.int .u8 (y : Int))).setCell ⟨g, m, none⟩ (.int .u8 (x : Int))).drew) g 5 (u8s Rn ++ ys)) := zh (by
    have h := (HR.out.set k (.int .u8 (y : Int))).set m (.int .u8 (x : Int)); rw [List.set_append_left _ _ (by rw [zaf, HLk.out]; omega), zcl, List.set_append_left _ _ (by rw [zaf, List.length_set, HLk.out]; omega), zcl, HST.out] at h
    exact h.drew)
   have O2 : Hid (Only g w (((wr.setCell ⟨g, k, none⟩ (.int .u8 (y : Int))).setCell ⟨g, m, none⟩ (.int .u8 (x : Int))).drew)) := zh ((HO.out.setCell ⟨g, k, none⟩ _ (Or.inl rfl)).setCell ⟨g, m, none⟩ _ (Or.inl rfl)).drew
   generalize ((wr.setCell ⟨g, k, none⟩ (.int .u8 (y : Int))).setCell ⟨g, m, none⟩ (.int .u8 (x : Int))).drew = W2 at *; clear c1 c2 hf1 hf2 HR HO; go_wp2
   go_roundw
   case rel => exact ⟨k + 1, by omega, by omega, by go_num, by have := HJ.out; congr 1; omega, by rw [HRN.out]; exact R2.out, O2.out⟩
   case measure => simp [intOf]; omega
  .have hnlt : ¬ (k : Int) < (L : Int) - 1 - (k : Int) := by omega
   have HX : Hid (RK k = X) := zh (HF.out k (by omega))
   clear HF HS HB HLN hrow ho; go_wp2
   go_end0
   exact ⟨rfl, by rw [<- HX.out]; exact HR.out, HO.out⟩
theorem zbjm (G : List Bool) (l : List Nat) (k : Nat) (h : k < l.length) : othF G (l.take (k + 1)) = othF G (l.take k) + if gAt G (sq l k) then 0 else 1 := by
 rw [zbm l k h, <- zar l k h]
 unfold othF
 rw [List.filter_append, List.length_append, List.filter_cons, List.filter_nil]
 cases gAt G (sq l k) <;> simp
theorem zbfj (G : List Bool) (l : List Nat) : othF G l <= l.length := List.length_filter_le _ _
theorem zbbl (s b n p g : Nat) (G : List Bool) (lost : Nat) (V E T : Value) (a : Option Addr) (cap : Nat) (l : List Nat) (w : World) (h : Sol w s b n p g G lost V E T) (hn : n <= 255) (hl : l.length <= 1000) (hin : ∀ x ∈ l, x < n) (hr : Lies w w.heap.size a (nats l)) :
  Calls Tryz.prog 160 #[.pointer (some ⟨s, 0, none⟩), .slice a l.length cap] w fun e w' => e = .returned (.int .i64 (othF G l : Int)) ∧ w = w' := by
 have h3 := h.c3
 have HG := zh (h.gc)
 have HIN := zh hin
 have HR := zh hr
 have hli : (l.length : Int) <= 1000 := by omega
 clear h hin hr
 go_enter Tryz.func160, Tryz.ntmps160
 go_wp2
 go_loop [5, 10] (fun t i => ∃ k : Nat, k <= l.length ∧ i = .int .i64 k ∧ t = .int .i64 (othF G (l.take k) : Int)) (fun _ i => l.length - (intOf i).toNat)
 case atStart => exact ⟨0, Nat.zero_le _, rfl, rfl⟩
 case round =>
  obtain ⟨k, hk, rfl, rfl⟩ := hrel
  by_cases hlt : k < l.length
  .have hx := HIN.out (sq l k) (by rw [zar l k hlt]; exact List.getElem_mem hlt)
   obtain ⟨bb, off, rfl, hbb, hcl⟩ := HR.out (by rw [zmr]; omega)
   have hc := hcl k _ (zva l k hlt); rw [<- zar l k hlt] at hc; have hgc := HG.out (sq l k) hx; have hle := zbfj G (l.take k); rw [List.length_take] at hle; have HS := zh (zbjm G l k hlt); obtain ⟨x, hxe⟩ : ∃ x, sq l k = x := ⟨_, rfl⟩; rw [hxe] at hx hc hgc HS; obtain ⟨t, ht⟩ : ∃ t, othF G (l.take k) = t := ⟨_, rfl⟩; rw [ht] at hle HS ⊢
   have htb : (t : Int) <= 1000 := by omega
   have ht0 : 0 <= (t : Int) := by omega
   have hki : (k : Int) < (l.length : Int) := by omega
   have hxn : (x : Int) < (n : Int) := by omega
   have hx0 : 0 <= (x : Int) := by omega
   clear hcl hxe ht hle
   cases hg : gAt G x with
   | true =>
    rw [hg] at hgc HS; clear hg; go_wp2
    go_round
    case rel => exact ⟨k + 1, by omega, by go_num, by rw [HS.out]; rfl⟩
    case measure => simp [intOf]; omega
   | false =>
    rw [hg] at hgc HS; clear hg; go_wp2
    go_round
    case rel => exact ⟨k + 1, by omega, by go_num, by rw [HS.out]; go_num⟩
    case measure => simp [intOf]; omega
  .have e : l.take k = l := List.take_of_length_le (by omega)
   rw [e]; clear e; go_wp2; go_ret; exact ⟨rfl, rfl⟩
theorem zia (c b k p : Nat) (v : Value) (w : World) (h : Cor w c b k p v) : Calls Tryz.prog 104 #[.pointer (some ⟨c, 0, none⟩)] w fun e w' => e = .returned (.pointer (some ⟨b, 0, none⟩)) ∧ w = w' := by
 have HN := zh (zee c b k p v w h)
 have h0 := h.c0
 clear h
 go_enter Tryz.func104, Tryz.ntmps104
 go_wp2_with (go_at_call 133; (with_reducible refine HN.out.mono ?_); rintro e w1 ⟨rfl, rfl⟩)
 go_ret
 exact ⟨rfl, rfl⟩
theorem zbce (c b k p : Nat) (v : Value) (x y : Nat) (w : World) (h : Cor w c b k p v) (hn : k + p <= 255) (hx : x <= 100000) (hy : y <= 100000) :
  Calls Tryz.prog 159 #[.pointer (some ⟨c, 0, none⟩), .int .i64 (x : Int), .int .i64 (y : Int)] w fun e w' => e = .returned (.bool (decide (x <= p ∧ y <= (p - x) / 2))) ∧ Below w.heap.size w w' := by
 have HO := zh (zia c b k p v w h)
 have HS := zh (zib c b k p v w h)
 obtain ⟨n, hnn⟩ : ∃ n, k + p = n := ⟨_, rfl⟩
 rw [hnn] at HS hn
 have hnk : (n : Int) - (k : Int) = (p : Int) := by omega
 have hpb : (p : Int) <= 255 := by omega
 have hp0 : 0 <= (p : Int) := by omega
 have hnb : (n : Int) <= 255 := by omega
 have hkb : (k : Int) <= 255 := by omega
 have hxb : (x : Int) <= 100000 := by omega
 have hyb : (y : Int) <= 100000 := by omega
 have hx0 : ¬ (x : Int) < 0 := by omega
 have hy0 : ¬ (y : Int) < 0 := by omega
 clear h hnn
 by_cases h1 : x <= p
 .have h1i : (x : Int) <= (p : Int) := by omega
  have h1d : decide (x <= p) = true := by simpa using h1
  obtain ⟨q, hq⟩ : ∃ q, (p - x) / 2 = q := ⟨_, rfl⟩
  have hpx : 0 <= (p : Int) - (x : Int) := by omega
  have hqi : ((p : Int) - (x : Int)) / 2 = (q : Int) := by omega
  have hqt : ((p : Int) - (x : Int)).tdiv 2 = (q : Int) := by rw [Int.tdiv_eq_ediv_of_nonneg hpx]; exact hqi
  have HD : Hid (decide (x <= p ∧ y <= (p - x) / 2) = decide ((y : Int) <= (q : Int))) := zh (by rw [Bool.eq_iff_iff, decide_eq_true_iff, decide_eq_true_iff, hq]; omega)
  have HD2 : Hid (decide ((y : Int) <= (q : Int)) = decide (y <= q)) := zh (by rw [Bool.eq_iff_iff, decide_eq_true_iff, decide_eq_true_iff]; omega)
  clear hq
  go_enter Tryz.func159, Tryz.ntmps159
  go_wp2_with (first
   | (go_at_call 104; (with_reducible refine HO.out.mono ?_); rintro e w1 ⟨rfl, rfl⟩)
   | (go_at_call 105; (with_reducible refine HS.out.mono ?_); rintro e w1 ⟨rfl, b1⟩; have B1 := zh b1; clear b1))
  go_ret
  exact ⟨by rw [HD.out, HD2.out]; rfl, B1.out⟩
 .have h1i : ¬ (x : Int) <= (p : Int) := by omega
  have h1d : decide (x <= p) = false := by simpa using h1
  have HD : Hid (decide (x <= p ∧ y <= (p - x) / 2) = false) := zh (by simp [h1])
  go_enter Tryz.func159, Tryz.ntmps159
  go_wp2_with (first
   | (go_at_call 104; (with_reducible refine HO.out.mono ?_); rintro e w1 ⟨rfl, rfl⟩)
   | (go_at_call 105; (with_reducible refine HS.out.mono ?_); rintro e w1 ⟨rfl, b1⟩; have B1 := zh b1; clear b1))
  go_ret
  exact ⟨by rw [HD.out]; rfl, B1.out⟩
theorem zbgj (G : List Bool) (l : List Int) (k : Nat) (h : k < l.length) : setG G (l.take (k + 1)) = (setG G (l.take k)).set l[k].toNat true := by
 rw [zbm l k h, setG, List.foldl_append]; rfl
theorem zbet {n : Nat} {l : List Int} (k : Nat) (h : k < l.length) (hb : l[k] < 0 ∨ (n : Int) <= l[k]) : inB n l = false := by
 unfold inB
 rw [List.all_eq_false]
 refine ⟨l[k], List.getElem_mem h, ?_⟩
 simp
 omega
theorem zbin {n : Nat} {l : List Int} (h : ∀ k (hk : k < l.length), 0 <= l[k] ∧ l[k] < (n : Int)) : inB n l = true := by
 unfold inB
 rw [List.all_eq_true]
 intro x hx
 obtain ⟨k, hk, rfl⟩ := List.mem_iff_getElem.1 hx
 simp [h k hk]
theorem Sol.putG {w : World} {s b n p g : Nat} {G : List Bool} {lost : Nat} {V E T : Value} (h : Sol w s b n p g G lost V E T) (hb : b ≠ g) (i : Nat) : Sol (w.setCell ⟨g, i, none⟩ (.bool true)) s b n p g (G.set i true) lost V E T :=
 ⟨h.row.far _ _ (fun e => h.ne e.symm), by have := h.gone.set i (.bool true); rwa [zbcx] at this, h.fld.far _ _ hb, h.ne, by rw [List.length_set]; exact h.len, h.slV, h.slE, h.slT⟩
theorem Sol.putLost {w : World} {s b n p g : Nat} {G : List Bool} {lost : Nat} {V E T : Value} (h : Sol w s b n p g G lost V E T) (hb : b ≠ s) (m : Nat) : Sol (w.setCell ⟨s, 4, none⟩ (.int .i64 (m : Int))) s b n p g G m V E T :=
 ⟨h.row.set 4 _, h.gone.far _ _ h.ne, h.fld.far _ _ hb, h.ne, h.len, h.slV, h.slE, h.slT⟩
theorem zbeb (B s b n p g : Nat) (G : List Bool) (V E T : Value) (a : Option Addr) (cap : Nat) (l : List Int) (w : World) (h : Sol w s b n p g G (cnt G) V E T) (hn : n <= 255) (hl : l.length <= 1000) (hr : Lies w B a (ints l))
  (hB : b < B) (hBs : B <= s) (hBg : B <= g) :
  Calls Tryz.prog 155 #[.pointer (some ⟨s, 0, none⟩), .slice a l.length cap] w fun e w' => e = .returned (.bool (inB n l)) ∧ (inB n l = true -> Sol w' s b n p g (setG G l) (cnt (setG G l)) V E T) ∧ Below B w w' := by
 have H0 := zh h
 have HR := zh hr
 have hli : (l.length : Int) <= 1000 := by omega
 have hnb : (n : Int) <= 255 := by omega
 have HBB : Hid (b ≠ g ∧ b ≠ s) := zh ⟨by omega, by omega⟩
 have HBS : Hid (B <= s) := zh hBs
 have HBG : Hid (B <= g) := zh hBg
 clear h hr hB hBs hBg
 go_enter Tryz.func155, Tryz.ntmps155
 go_wp2
 go_loopw [9] (fun i wr => ∃ k : Nat, k <= l.length ∧ i = .int .i64 k ∧ (∀ j (hj : j < k) (hj2 : j < l.length), 0 <= l[j] ∧ l[j] < (n : Int)) ∧ Sol wr s b n p g (setG G (l.take k)) (cnt (setG G (l.take k))) V E T ∧ Below B w wr) (fun i _ => l.length - (intOf i).toNat)
 case atStart => exact ⟨0, Nat.zero_le _, rfl, fun j hj => absurd hj (by omega), H0.out, zb⟩
 case round =>
  clear H0
  obtain ⟨k, hk, rfl, hin, hsol, hbw⟩ := hrel
  have HSOL := zh hsol
  have HBW := zh hbw
  by_cases hlt : k < l.length
  .obtain ⟨bb, off, rfl, hbb, hcl⟩ := HR.out (by rw [zbn]; omega)
   have hc : wr.cell? ⟨bb, off + k, none⟩ = some (.int .i64 l[k]) := by
    rw [hbw.cell (p := ⟨bb, off + k, none⟩) hbb]; exact hcl k _ (zff l k hlt)
   have hki : (k : Int) < (l.length : Int) := by omega
   have c1 := hsol.c1; have c3 := hsol.c3; have c4 := hsol.c4; have HIN := zh hin
   have HX : Hid (∀ x, x = l[k] -> x < 0 ∨ (n : Int) <= x -> inB n l = false) := zh fun x e hx => zbet k hlt (e ▸ hx)
   have HS : Hid (setG G (l.take (k + 1)) = (setG G (l.take k)).set l[k].toNat true) := zh (zbgj G l k hlt)
   have HIN2 : Hid (∀ x, x = l[k] -> 0 <= x -> x < (n : Int) -> ∀ j (hj : j < k + 1) (hj2 : j < l.length), 0 <= l[j] ∧ l[j] < (n : Int)) := zh fun x e h0 h1 j hj hj2 => by
    by_cases ej : j = k
    .subst ej; exact ⟨e ▸ h0, e ▸ h1⟩
    .exact hin j (by omega) hj2
   have hle := zbde (setG G (l.take k)); rw [hsol.len] at hle; obtain ⟨x, hx⟩ : ∃ x, x = l[k] := ⟨_, rfl⟩; rw [<- hx] at hc HS; have HXX := HX.out x hx; have HIN3 := HIN2.out x hx; have HX2 := zh HXX; have HIN4 := zh HIN3; clear hcl hin hsol hbw HIN HX HIN2 HXX HIN3 hx
   by_cases hx0 : x < 0
   .have HF : Hid (inB n l = false) := zh (HX2.out (Or.inl hx0))
    clear hle; go_wp2; go_ret; exact ⟨zap HF.out.symm, (fun e => by rw [HF.out] at e; cases e), HBW.out⟩
   .by_cases hxn : (n : Int) <= x
    .have HF : Hid (inB n l = false) := zh (HX2.out (Or.inr hxn))
     have hx0' : 0 <= x := by omega
     clear hle; go_wp2; go_ret; exact ⟨zap HF.out.symm, (fun e => by rw [HF.out] at e; cases e), HBW.out⟩
    .obtain ⟨y, rfl⟩ : ∃ y : Nat, x = y := ⟨x.toNat, by omega⟩
     have hyn : y < n := by omega
     have hgl : Hid ((setG G (l.take k)).length = n) := zh HSOL.out.len
     have hgc := HSOL.out.gc y hyn; have hfg := HSOL.out.gone.frozen y; have hfs := HSOL.out.row.frozen 4
     have HIN5 : Hid (∀ j (hj : j < k + 1) (hj2 : j < l.length), 0 <= l[j] ∧ l[j] < (n : Int)) := zh (HIN4.out (by omega) (by omega))
     obtain ⟨Gk, hGk⟩ : ∃ Gk, setG G (l.take k) = Gk := ⟨_, rfl⟩; rw [hGk] at hle hgc HSOL c4 HS hgl
     have hyt : ((y : Int)).toNat = y := Int.toNat_natCast y
     rw [hyt] at HS
     have hy0 : 0 <= (y : Int) := by omega
     have hyi : (y : Int) < (n : Int) := by omega
     clear hGk HIN4 HX2 hx0 hxn hyt
     cases hg : gAt Gk y with
     | true =>
      have HSE : Hid (Gk.set y true = Gk) := zh (zvv hg)
      rw [hg] at hgc; clear hg hfg hfs hle; go_wp2
      go_roundw
      case rel => exact ⟨k + 1, by omega, by go_num, HIN5.out, by rw [HS.out, HSE.out]; exact HSOL.out, HBW.out⟩
      case measure => simp [intOf]; omega
     | false =>
      have HCN : Hid (cnt (Gk.set y true) = cnt Gk + 1) := zh (zyv (by rw [hgl.out]; exact hyn) hg)
      rw [hg] at hgc; obtain ⟨c, hc0⟩ : ∃ c, cnt Gk = c := ⟨_, rfl⟩; rw [hc0] at HCN HSOL hle c4
      have hcb : (c : Int) <= 255 := by omega
      have hc00 : 0 <= (c : Int) := by omega
      have HNE : Hid (g ≠ s) := zh HSOL.out.ne
      have hne : ¬ g = s := HNE.out
      have hne2 : ¬ s = g := fun e => HNE.out e.symm
      clear hg hc0 hle; go_wp2
      go_roundw
      case rel =>
       refine ⟨k + 1, by omega, by go_num, HIN5.out, ?_, ?_⟩
       .rw [HS.out, HCN.out]
        exact (HSOL.out.putG HBB.out.1 y).putLost HBB.out.2 (c + 1)
       .exact (HBW.out.setCell (p := ⟨g, y, none⟩) HBG.out _).setCell (p := ⟨s, 4, none⟩) HBS.out _
      case measure => simp [intOf]; omega
  .have ek : k = l.length := by omega
   subst ek
   have HT : Hid (inB n l = true) := zh (zbin fun j hj => hin j hj hj)
   have e1 : l.take l.length = l := List.take_length
   rw [e1] at HSOL; clear hin hsol hbw e1; go_wp2; go_ret; exact ⟨zap HT.out.symm, fun _ => HSOL.out, HBW.out⟩
theorem Sol.setOnly {w w' : World} {s b n p g : Nat} {G : List Bool} {lost : Nat} {V E T V' E' T' : Value} (h : Sol w s b n p g G lost V E T) (hb : b ≠ s) (r : Row w' s 233 (solL b n p g lost V' E' T')) (ho : Only s w w')
  (h1 : ∃ a n c, V' = .slice a n c) (h2 : ∃ a n c, E' = .slice a n c) (h3 : ∃ a n c, T' = .slice a n c) : Sol w' s b n p g G lost V' E' T' :=
 ⟨r, h.gone.only ho h.ne, h.fld.only ho hb, h.ne, h.len, h1, h2, h3⟩
theorem Sol.only {w w' : World} {s b n p g k : Nat} {G : List Bool} {lost : Nat} {V E T : Value} (h : Sol w s b n p g G lost V E T) (ho : Only k w w') (h1 : s ≠ k) (h2 : g ≠ k) (h3 : b ≠ k) : Sol w' s b n p g G lost V E T :=
 ⟨h.row.only ho h1, h.gone.only ho h2, h.fld.only ho h3, h.ne, h.len, h.slV, h.slE, h.slT⟩
theorem byRev {l : List Nat} (h : By l) : By l.reverse := fun x hx => h x (List.mem_reverse.1 hx)
theorem zrz {w : World} {g c : Nat} {l : List Nat} {ys : List Value} (h : Row w g 5 (u8s l ++ ys)) (hc : l.length <= c) : Reads w (.slice (some ⟨g, 0, none⟩) l.length c) l :=
 ⟨_, c, rfl, hc, fun _ => ⟨g, 0, rfl, h.lt, fun j u hu => by
  rw [Nat.zero_add, h.cell, List.getElem?_append_left (by
   have := (List.getElem?_eq_some_iff.1 hu).1; exact this)]
  exact hu⟩⟩
theorem zpn : (Tryz.prog.info? 107).map (·.size) = some 1 := by kernel_rfl
theorem zbiy (B s b n p g lost gv : Nat) (G : List Bool) (V E T : Value) (X : List Nat) (w : World) (h : Sol w s b n p g G lost V E T) (hn : n <= 255) (hp1 : 1 <= p) (hp : p <= 64) (hX : X.length = p) (hby : By X) (hr : Row w gv 5 (u8s X))
  (hB : b < B) (hBs : B <= s) (hBg : B <= g) :
  Calls Tryz.prog 156 #[.pointer (some ⟨s, 0, none⟩), .slice (some ⟨gv, 0, none⟩) p p] w fun e w' => e = .returned (.tuple #[]) ∧
   (∃ V' E' T', Sol w' s b n p g G lost V' E' T' ∧ Reads w' V' X.reverse ∧ Reads w' E' (erF n G n) ∧ Reads w' T' (toldF p X.reverse (erF n G n))) ∧ Below B w w' := by
 have HS0 := zh h
 have HBS : Hid (B <= s) := zh hBs
 have HBW0 : Hid (B <= w.heap.size) := zh (by have := h.lt; omega)
 have HBNS : Hid (b ≠ s) := zh (by omega)
 have HCL : Hid (Calls Tryz.prog 166 #[.slice (some ⟨gv, 0, none⟩) p p] w fun e w' =>
   (∃ g' c', e = .returned (.slice (some ⟨g', 0, none⟩) p c') ∧ s < g' ∧ g < g' ∧ B <= g' ∧ b ≠ g' ∧ p <= c' ∧ ∃ ys, Row w' g' 5 (u8s X ++ ys)) ∧ Below w.heap.size w w') := zh (by
  have := zgd gv 0 p X w (by omega) (by omega) (zbk hr)
  rw [hX] at this
  refine this.mono fun e w' ⟨⟨g', c', h1, h2, h3⟩, h4⟩ => ?_
  have q1 := h.lt
  have q2 := h.gone.lt
  exact ⟨⟨g', c', h1, by omega, by omega, by omega, by omega, (zgz h3).2, (zqn h3).2⟩, h4⟩)
 have HREV : Hid (∀ (u : World) (g' c' : Nat) (ys : List Value), Row u g' 5 (u8s X ++ ys) -> Calls Tryz.prog 175 #[.slice (some ⟨g', 0, none⟩) p c'] u fun e w' => e = .returned (.tuple #[]) ∧ Row w' g' 5 (u8s X.reverse ++ ys) ∧ Only g' u w') := zh fun u g' c' ys hu => by
  have := zxx g' c' X ys u hby (by omega) (by omega) hu
  rwa [hX] at this
 have hnb : (n : Int) <= 255 := by omega
 have HN : Hid (n <= 255) := zh hn
 have HP1 : Hid (1 <= p ∧ p <= 64) := zh ⟨hp1, hp⟩
 have HXL : Hid (X.reverse.length = p) := zh (by rw [List.length_reverse]; exact hX)
 have HBX : Hid (By X.reverse) := zh (byRev hby)
 obtain ⟨XR, hXR⟩ : ∃ XR, X.reverse = XR := ⟨_, rfl⟩
 rw [hXR] at HREV HXL HBX ⊢
 have HL8 : Hid (5 < (solL b n p g lost V E T).length) := zh (by show 5 < 8; omega)
 have HL86 : Hid (∀ V', 6 < (solL b n p g lost V' E T).length) := zh fun _ => by show 6 < 8; omega
 have HVC : Hid (∀ a n c, (Value.slice a n c).cells = #[.slice a n c]) := zh fun _ _ _ => rfl
 have HVO : Hid (∀ a n c, (Value.slice a n c).oneCell' = true) := zh fun _ _ _ => rfl
 have hfs := h.row.frozen 5
 clear hXR h hr hX hby hB hBs hBg hn hp1 hp hfs
 go_enter Tryz.func156, Tryz.ntmps156
 go_wp2_with (first
  | (go_at_call 166; (with_reducible refine HCL.out.mono ?_); rintro e w1 ⟨⟨g', c', rfl, q1, q2, q3, q4, q5, ys, r1⟩, b1⟩; have Q1 : Hid (s ≠ g' ∧ g ≠ g' ∧ b ≠ g' ∧ B <= g') := zh ⟨by omega, by omega, q4, q3⟩; have Q5 := zh q5; have R1 := zh r1; have S1 := zh (HS0.out.step b1); have B1 := zh b1; clear q1 q2 q3 q4 q5 r1 b1)
  | ((with_reducible refine S1.out.row.wpStore1K 5 107 (.slice (some ⟨g', 0, none⟩) p c') zpn HL8.out (HVC.out _ _ _) (HVO.out _ _ _) ?_ ?_); rfl; intro w2 r2 o2 s2; have S2 : Hid (Sol w2 s b n p g G lost (.slice (some ⟨g', 0, none⟩) p c') E T) := zh (S1.out.setOnly HBNS.out r2 o2 ⟨_, _, _, rfl⟩ S1.out.slE S1.out.slT); have R2 := zh (R1.out.only o2 Q1.out.1.symm); have B2 : Hid (Below B w w2) := zh ((B1.out.mono HBW0.out).trans (o2.below HBS.out (Nat.le_trans HBW0.out B1.out.size))); have c5 := S2.out.c5; clear r2 o2 s2)
  | (go_at_call 175; (with_reducible refine (HREV.out w2 g' c' ys R2.out).mono ?_); rintro e w3 ⟨rfl, r3, o3⟩; have R3 := zh r3; have S3 := zh (S2.out.only o3 Q1.out.1 Q1.out.2.1 Q1.out.2.2.1); have B3 := zh (B2.out.trans (o3.below Q1.out.2.2.2 (Nat.le_trans HBW0.out B2.out.size))); clear r3 o3 c5)
  | ((with_reducible refine (S3.out.row.alloc _).wpStore1K 6 107 (.slice (some ⟨w3.heap.size, 0, none⟩) 1 1) zpn (HL86.out _) (HVC.out _ _ _) (HVO.out _ _ _) ?_ ?_); rfl; intro w4 r4 o4 s4; have S4 : Hid (Sol w4 s b n p g G lost (.slice (some ⟨g', 0, none⟩) p c') (.slice (some ⟨w3.heap.size, 0, none⟩) 1 1) T) := zh ((S3.out.step (zab _ _)).setOnly HBNS.out r4 o4 S3.out.slV ⟨_, _, _, rfl⟩ S3.out.slT); have R4 := zh ((R3.out.alloc _).only o4 Q1.out.1.symm); have B4 : Hid (Below B w w4) := zh ((B3.out.trans ((zab _ _).mono (Nat.le_trans HBW0.out B3.out.size))).trans (o4.below HBS.out (Nat.le_trans (Nat.le_trans HBW0.out B3.out.size) (zab _ _).size))); have RE4 : Hid (Reads w4 (.slice (some ⟨w3.heap.size, 0, none⟩) 1 1) [1]) := zh (zrz (l := [1]) (ys := []) ((Row.new w3 5 [.int .u8 1]).only o4 (Nat.ne_of_gt S3.out.lt)) (Nat.le_refl _)); have c1 := S4.out.c1; clear r4 o4 s4))
 have RV4 : Hid (Reads w4 (.slice (some ⟨g', 0, none⟩) p c') XR) := zh (by
  have := zrz (c := c') R4.out (by rw [HXL.out]; exact Q5.out)
  rwa [HXL.out] at this)
 obtain ⟨V1, hV1⟩ : ∃ V1, Value.slice (some ⟨g', 0, none⟩) p c' = V1 := ⟨_, rfl⟩
 rw [hV1] at S4 RV4
 clear hV1 R4 R3 R2 R1 S1 S2 S3 B1 B2 B3 HREV HCL HS0 HL8 HL86 HVC HVO Q5
 go_loopw [23] (fun i wr => ∃ k : Nat, k <= n ∧ i = .int .i64 k ∧ ∃ E1, Sol wr s b n p g G lost V1 E1 T ∧ Reads wr V1 XR ∧ Reads wr E1 (erF n G k) ∧ Below B w wr) (fun i _ => n - (intOf i).toNat)
 case atStart => exact ⟨0, Nat.zero_le _, rfl, _, S4.out, RV4.out, RE4.out, B4.out⟩
 case round =>
  clear S4 RV4 RE4 B4 c1
  obtain ⟨k, hk, rfl, E1, hsol, hrv, hre, hbw⟩ := hrel
  have HSOL := zh hsol
  have HRV := zh hrv
  have HBW := zh hbw
  have HLT := zh hsol.lt
  have C0 := zh hsol.c0
  have C5 := zh hsol.c5
  have C6 := zh hsol.c6
  obtain ⟨he1, he2⟩ := zfe n G k
  obtain ⟨Ek, hEk⟩ : ∃ Ek, erF n G k = Ek := ⟨_, rfl⟩
  by_cases hlt : k < n
  .have hki : (k : Int) < (n : Int) := by omega
   have c3 := hsol.c3; have hgc := hsol.gc k hlt
   have HER0 : Hid (erF n G (k + 1) = if gAt G k then pms [Ek, [mrk n k, 1]] else Ek) := zh (by rw [<- hEk]; rfl)
   rw [hEk] at hre he1 he2; have HRE := zh hre; have HBE := zh he1; clear hsol hrv hbw hre hEk
   cases hg : gAt G k with
   | true =>
    rw [hg] at hgc
    have HMK : Hid (∀ wx, Below wr.heap.size wr wx -> Calls Tryz.prog 176 #[.pointer (some ⟨s, 0, none⟩), .int .i64 (k : Int)] wx fun e w' => e = .returned (.int .u8 (mrk n k : Int)) ∧ Below wx.heap.size wx w') := zh fun wx hb => zuv s b n p g G lost V1 E1 T k wx (HSOL.out.step hb) HN.out hlt
    have hm8 := zbb n k
    have HPM : Hid (∀ wx, Below wr.heap.size wr wx -> ∀ v, Pls [Ek, [mrk n k, 1]] v wx -> Calls Tryz.prog 164 #[.pointer (some ⟨b, 0, none⟩), v] wx fun e w' => (∃ v, e = .returned v ∧ Reads w' v (pms [Ek, [mrk n k, 1]])) ∧ Below wx.heap.size wx w') := zh fun wx hb v hv => pmulV b v _ wx (HSOL.out.fld.step hb) hv (by simp) (by intro l hl; simp only [List.mem_cons, List.not_mem_nil, or_false] at hl; rcases hl with rfl | rfl; omega; simp)
    have HBM : Hid (By [mrk n k, 1]) := zh (zdn hm8 (by omega))
    have HER : Hid (erF n G (k + 1) = pms [Ek, [mrk n k, 1]]) := zh (by rw [HER0.out, hg]; rfl)
    obtain ⟨m, hm⟩ : ∃ m, mrk n k = m := ⟨_, rfl⟩; rw [hm] at HMK HPM HBM HER hm8; obtain ⟨Y, hY⟩ : ∃ Y, pms [Ek, [m, 1]] = Y := ⟨_, rfl⟩; rw [hY] at HPM HER; clear hg HER0 hm hY he1 he2; go_wp2
    refine zdu 17 [] [(0, 33), (1, 34), (2, 35), (3, 36), (4, 37), (5, 38), (6, 39), (7, 40), (8, 41), (9, 42), (10, 43), (11, 44), (12, 45), (13, 46), (14, 47), (15, 48), (16, 49)]
     (fun i => [Is (.pointer (some ⟨s, 0, none⟩)), Is (.pointer (some ⟨s, 0, none⟩)), Is (.pointer (some ⟨s, 0, none⟩)), Is (.pointer (some ⟨s, 0, none⟩)), Is (.pointer (some ⟨b, 0, none⟩)), Is (.pointer (some ⟨s, 0, none⟩)), Is (.pointer (some ⟨s, 0, none⟩)), Is (.pointer (some ⟨s, 6, none⟩)), Rd Ek, Is (.pointer (some ⟨s, 0, none⟩)), Is (.int .i64 (k : Int)), Is (.int .u8 (m : Int)), Rd [m, 1], Pls [Ek, [m, 1]], Rd Y, Is (.pointer (some ⟨s, 0, none⟩)), Is (.pointer (some ⟨s, 6, none⟩))].getD i (Is undef))
     (fun w' => Below wr.heap.size wr w') (fun w' => ∃ E2, Sol w' s b n p g G lost V1 E2 T ∧ Reads w' V1 XR ∧ Reads w' E2 Y ∧ Below B w w') (by kernel_rfl) (by kernel_rfl) (by kernel_rfl) (by kernel_rfl) (by decide) (by decide) (by kernel_rfl) rfl (by kernel_rfl) ?monoq ((zb).drew) ?stepq ?stepXq ?stepSq ?finq
    case monoq =>
     intro i
     match i with
     | 0 | 1 | 2 | 3 | 4 | 5 | 6 | 7 | 9 | 10 | 11 | 15 | 16 => exact Is.monot _
     | 8 | 12 | 14 => exact Rd.monot _
     | 13 => exact Pls.monot _
     | _ + 17 => exact Is.monot _
    case stepq =>
     refine zf ⟨?qs0, zf ⟨?qs1, zf ⟨?qs2, zf ⟨?qs3, zf ⟨?qs4, zf ⟨?qs5, zf ⟨?qs6, zf ⟨?qs7, zf ⟨?qs8, zf ⟨?qs9, zf ⟨?qs10, zf ⟨?qs11, zf ⟨?qs12, zf ⟨?qs13, zf ⟨?qs14, zf ⟨?qs15, zf ⟨?qs16, List.forall_mem_nil _⟩⟩⟩⟩⟩⟩⟩⟩⟩⟩⟩⟩⟩⟩⟩⟩⟩
     case qs0 | qs1 | qs5 | qs9 | qs10 =>
      intro u wx hg hC; clear hC; refine wpOp_step rfl fun K hK => ?_
      simp only [zu, zv]; go_simp; exact zK hK hg
     case qs2 =>
      intro u wx hg hC; have hJ1 := zj hC 1; clear hC; refine wpOp_step rfl fun K hK => ?_
      simp only [zu, zv]; go_simp; exact zK hK hg
     case qs3 =>
      intro u wx hg hC; have hJ2 := zj hC 2; clear hC; refine wpOp_step rfl fun K hK => ?_
      simp only [zu, zv]; go_simp; exact zK hK hg
     case qs4 =>
      intro u wx hg hC; have hJ3 := zj hC 3; clear hC
      have hcl : wx.cell? ⟨s, 0, none⟩ = some (.pointer (some ⟨b, 0, none⟩)) := (hg.cell (p := ⟨s, 0, none⟩) HLT.out).trans C0.out
      refine wpOp_step rfl fun K hK => ?_
      simp only [zu, zv]; go_simp; exact zK hK hg
     case qs6 =>
      intro u wx hg hC; have hJ5 := zj hC 5; clear hC; refine wpOp_step rfl fun K hK => ?_
      simp only [zu, zv]; go_simp; exact zK hK hg
     case qs7 =>
      intro u wx hg hC; have hJ6 := zj hC 6; clear hC; refine wpOp_step rfl fun K hK => ?_
      simp only [zu, zv]; go_simp; exact zK hK hg
     case qs8 =>
      intro u wx hg hC; have hJ7 := zj hC 7; clear hC
      have hcl : wx.cell? ⟨s, 6, none⟩ = some E1 := (hg.cell (p := ⟨s, 6, none⟩) HLT.out).trans C6.out
      refine wpOp_step rfl fun K hK => ?_
      simp only [zu, zv]; go_simp; exact hK _ _ ⟨rfl, HRE.out.step hg, hg, zb⟩
     case qs11 =>
      intro u wx hg hC; have hJ9 := zj hC 9; have hJ10 := zj hC 10; clear hC; refine wpOp_step rfl fun K hK => ?_
      simp only [zu, zv]; go_simp
      refine (HMK.out wx hg).mono ?_
      rintro e w' ⟨rfl, hb'⟩
      exact hK _ _ ⟨rfl, rfl, hg.next hb', hb'⟩
     case qs12 =>
      intro u wx hg hC; have hJ11 := zj hC 11; clear hC; refine wpOp_step rfl fun K hK => ?_
      simp only [zu, zv]; go_simp; exact hK _ _ ⟨rfl, ⟨some ⟨wx.heap.size, 0, none⟩, 2, rfl, Nat.le_refl _, Lies.new [_, _] _ _⟩, hg.alloc hg.size _, zab _ _⟩
     case qs13 =>
      intro u wx hg hC; obtain ⟨a8, c8, e8, q8⟩ : (Rd Ek) (u 8) wx := hC.at 8 (by kernel_rfl)
      have hJ8 : Rd (Ek) (.slice a8 (Ek).length c8) wx := ⟨_, _, rfl, q8⟩
      obtain ⟨a12, c12, e12, q12⟩ : (Rd [m, 1]) (u 12) wx := hC.at 12 (by kernel_rfl)
      have hJ12 : Rd [m, 1] (.slice a12 ([m, 1]).length c12) wx := ⟨_, _, rfl, q12⟩
      clear hC; refine wpOp_step rfl fun K hK => ?_
      simp only [zu, zv]; go_simp
      refine hK _ _ ⟨rfl, ?_, hg.alloc hg.size _, zab _ _⟩
      change Pls [Ek, [m, 1]] _ _
      exact zgn (HBE.out) (HBM.out) (hJ8) (hJ12)
     case qs14 =>
      intro u wx hg hC; have hJ4 := zj hC 4
      have hJ13 : (Pls [Ek, [m, 1]]) (u 13) wx := hC.at 13 (by kernel_rfl)
      clear hC; refine wpOp_step rfl fun K hK => ?_
      simp only [zu, zv]; go_simp
      refine (HPM.out wx hg _ hJ13).mono ?_
      rintro e w' ⟨⟨v, rfl, hv⟩, hb'⟩
      exact hK _ _ ⟨rfl, hv, hg.next hb', hb'⟩
     case qs15 =>
      intro u wx hg hC; have hJ0 := zj hC 0; clear hC; refine wpOp_step rfl fun K hK => ?_
      simp only [zu, zv]; go_simp; exact zK hK hg
     case qs16 =>
      intro u wx hg hC; have hJ15 := zj hC 15; clear hC; refine wpOp_step rfl fun K hK => ?_
      simp only [zu, zv]; go_simp; exact zK hK hg
    case stepXq =>
     intro p hp hx
     cases hx
    case stepSq =>
     intro u w9 hbw9 hφ; obtain ⟨a9, c9, e9, hc9, hl9⟩ : Rd Y (u 14) w9 := hφ (14, 47) (by decide) (by decide)
     have hp9 : u 16 = .pointer (some ⟨s, 6, none⟩) := hφ (16, 49) (by decide) (by decide)
     clear hφ; have HS9 := zh (HSOL.out.step hbw9); have hfz := HS9.out.row.frozen 6; have hcc := HS9.out.c6; have HB9 := zh hbw9
     have HL9 : Hid (Reads w9 (.slice a9 Y.length c9) Y) := zh ⟨_, _, rfl, hc9, hl9⟩
     have HV9 := zh (HRV.out.step hbw9); clear hbw9 hl9; refine wpOp_step rfl fun K hK => ?_
     simp only [zu, zv]; go_simp
     refine hK _ _ ⟨rfl, _, HS9.out.putE HBNS.out ⟨_, _, _, rfl⟩, ?_, ?_, (HBW.out.trans (HB9.out.mono (Nat.le_trans HBW0.out HBW.out.size))).setCell (p := ⟨s, 6, none⟩) HBS.out _⟩
     .exact Reads.apart HS9.out.row HS9.out.nou8 HV9.out ⟨s, 6, none⟩ rfl _
     .exact Reads.apart HS9.out.row HS9.out.nou8 HL9.out ⟨s, 6, none⟩ rfl _
    case finq =>
     rintro u wq ⟨E2, hs2, hv2, he2, hb2⟩ hφ
     clear hφ; simp only [zu, zv]; go_simp; have HS2 := zh hs2; have HV2 := zh hv2; have HE2 := zh he2; have HB2 := zh hb2; clear hs2 hv2 he2 hb2 c3 hgc; go_wp2
     go_roundw
     case rel => exact ⟨k + 1, by omega, by go_num, E2, HS2.out, HV2.out, by rw [HER.out]; exact HE2.out, HB2.out⟩
     case measure => simp [intOf]; omega
   | false =>
    rw [hg] at hgc
    have HER : Hid (erF n G (k + 1) = Ek) := zh (by rw [HER0.out, hg]; rfl)
    clear hg HER0 he1 he2; go_wp2
    go_roundw
    case rel => exact ⟨k + 1, by omega, by go_num, E1, HSOL.out, HRV.out, by rw [HER.out]; exact HRE.out, HBW.out⟩
    case measure => simp [intOf]; omega
  .obtain rfl : k = n := by omega
   have HRE : Hid (Reads wr E1 Ek) := zh (by rw [<- hEk]; exact hre)
   rw [hEk] at he1 he2; have hYl := zcz XR Ek; rw [HXL.out] at hYl; have hpp := HP1.out; have hnn := HN.out; have HBE := zh he1
   have HPM : Hid (∀ wx, Below wr.heap.size wr wx -> ∀ v, Pls [XR, Ek] v wx -> Calls Tryz.prog 164 #[.pointer (some ⟨b, 0, none⟩), v] wx fun e w' => (∃ v, e = .returned v ∧ Reads w' v (pms [XR, Ek])) ∧ Below wx.heap.size wx w') := zh fun wx hb v hv => pmulV b v _ wx (HSOL.out.fld.step hb) hv (by simp) (by intro l hl; simp only [List.mem_cons, List.not_mem_nil, or_false] at hl; rcases hl with rfl | rfl; rw [HXL.out]; omega; omega)
   have HLW : Hid (∀ wx, Below wr.heap.size wr wx -> ∀ v, Rd (pms [XR, Ek]) v wx -> Calls Tryz.prog 177 #[.pointer (some ⟨s, 0, none⟩), v] wx fun e w' => (∃ v, e = .returned v ∧ Reads w' v (lowl p (pms [XR, Ek]))) ∧ Below wx.heap.size wx w') := zh fun wx hb v hv => zzg s b k p g G lost V1 E1 T v _ wx (HSOL.out.step hb) (by omega) (by omega) (by omega) hv
   have HZ : Hid (toldF p XR (erF k G k) = lowl p (pms [XR, Ek])) := zh (by rw [hEk]; rfl)
   have HEN : Hid (erF k G k = Ek) := zh hEk
   obtain ⟨Y, hY⟩ : ∃ Y, pms [XR, Ek] = Y := ⟨_, rfl⟩; rw [hY] at HPM HLW HZ; obtain ⟨Z, hZ⟩ : ∃ Z, lowl p Y = Z := ⟨_, rfl⟩; rw [hZ] at HLW HZ; clear hsol hrv hbw hre hEk he1 he2 hYl hpp hnn hY hZ; go_wp2
   refine zdu 19 [] [(0, 51), (1, 52), (2, 53), (3, 54), (4, 55), (5, 56), (6, 57), (7, 58), (8, 59), (9, 60), (10, 61), (11, 62), (12, 63), (13, 64), (14, 65), (15, 66), (16, 67), (17, 68), (18, 69)]
    (fun i => [Is (.pointer (some ⟨s, 0, none⟩)), Is (.pointer (some ⟨s, 0, none⟩)), Is (.pointer (some ⟨s, 0, none⟩)), Is (.pointer (some ⟨s, 0, none⟩)), Is (.pointer (some ⟨s, 0, none⟩)), Is (.pointer (some ⟨b, 0, none⟩)), Is (.pointer (some ⟨s, 0, none⟩)), Is (.pointer (some ⟨s, 0, none⟩)), Is (.pointer (some ⟨s, 5, none⟩)), Rd XR, Is (.pointer (some ⟨s, 0, none⟩)), Is (.pointer (some ⟨s, 0, none⟩)), Is (.pointer (some ⟨s, 6, none⟩)), Rd Ek, Pls [XR, Ek], Rd Y, Rd Z, Is (.pointer (some ⟨s, 0, none⟩)), Is (.pointer (some ⟨s, 7, none⟩))].getD i (Is undef))
    (fun w' => Below wr.heap.size wr w') (fun w' => ∃ T2, Sol w' s b k p g G lost V1 E1 T2 ∧ Reads w' V1 XR ∧ Reads w' T2 Z ∧ Reads w' E1 Ek ∧ Below B w w') (by kernel_rfl) (by kernel_rfl) (by kernel_rfl) (by kernel_rfl) (by decide) (by decide) (by kernel_rfl) rfl (by kernel_rfl) ?monor ((zb).drew) ?stepr ?stepXr ?stepSr ?finr
   case monor =>
    intro i
    match i with
    | 0 | 1 | 2 | 3 | 4 | 5 | 6 | 7 | 8 | 10 | 11 | 12 | 17 | 18 => exact Is.monot _
    | 9 | 13 | 15 | 16 => exact Rd.monot _
    | 14 => exact Pls.monot _
    | _ + 19 => exact Is.monot _
   case stepr =>
    refine zf ⟨?rs0, zf ⟨?rs1, zf ⟨?rs2, zf ⟨?rs3, zf ⟨?rs4, zf ⟨?rs5, zf ⟨?rs6, zf ⟨?rs7, zf ⟨?rs8, zf ⟨?rs9, zf ⟨?rs10, zf ⟨?rs11, zf ⟨?rs12, zf ⟨?rs13, zf ⟨?rs14, zf ⟨?rs15, zf ⟨?rs16, zf ⟨?rs17, zf ⟨?rs18, List.forall_mem_nil _⟩⟩⟩⟩⟩⟩⟩⟩⟩⟩⟩⟩⟩⟩⟩⟩⟩⟩⟩
    case rs0 | rs1 | rs2 | rs6 | rs10 =>
     intro u wx hg hC; clear hC; refine wpOp_step rfl fun K hK => ?_
     simp only [zu, zv]; go_simp; exact zK hK hg
    case rs3 =>
     intro u wx hg hC; have hJ2 := zj hC 2; clear hC; refine wpOp_step rfl fun K hK => ?_
     simp only [zu, zv]; go_simp; exact zK hK hg
    case rs4 =>
     intro u wx hg hC; have hJ3 := zj hC 3; clear hC; refine wpOp_step rfl fun K hK => ?_
     simp only [zu, zv]; go_simp; exact zK hK hg
    case rs5 =>
     intro u wx hg hC; have hJ4 := zj hC 4; clear hC
     have hcl : wx.cell? ⟨s, 0, none⟩ = some (.pointer (some ⟨b, 0, none⟩)) := (hg.cell (p := ⟨s, 0, none⟩) HLT.out).trans C0.out
     refine wpOp_step rfl fun K hK => ?_
     simp only [zu, zv]; go_simp; exact zK hK hg
    case rs7 =>
     intro u wx hg hC; have hJ6 := zj hC 6; clear hC; refine wpOp_step rfl fun K hK => ?_
     simp only [zu, zv]; go_simp; exact zK hK hg
    case rs8 =>
     intro u wx hg hC; have hJ7 := zj hC 7; clear hC; refine wpOp_step rfl fun K hK => ?_
     simp only [zu, zv]; go_simp; exact zK hK hg
    case rs9 =>
     intro u wx hg hC; have hJ8 := zj hC 8; clear hC
     have hcl : wx.cell? ⟨s, 5, none⟩ = some V1 := (hg.cell (p := ⟨s, 5, none⟩) HLT.out).trans C5.out
     refine wpOp_step rfl fun K hK => ?_
     simp only [zu, zv]; go_simp; exact hK _ _ ⟨rfl, HRV.out.step hg, hg, zb⟩
    case rs11 =>
     intro u wx hg hC; have hJ10 := zj hC 10; clear hC; refine wpOp_step rfl fun K hK => ?_
     simp only [zu, zv]; go_simp; exact zK hK hg
    case rs12 =>
     intro u wx hg hC; have hJ11 := zj hC 11; clear hC; refine wpOp_step rfl fun K hK => ?_
     simp only [zu, zv]; go_simp; exact zK hK hg
    case rs13 =>
     intro u wx hg hC; have hJ12 := zj hC 12; clear hC
     have hcl : wx.cell? ⟨s, 6, none⟩ = some E1 := (hg.cell (p := ⟨s, 6, none⟩) HLT.out).trans C6.out
     refine wpOp_step rfl fun K hK => ?_
     simp only [zu, zv]; go_simp; exact hK _ _ ⟨rfl, HRE.out.step hg, hg, zb⟩
    case rs14 =>
     intro u wx hg hC; obtain ⟨a9, c9, e9, q9⟩ : (Rd XR) (u 9) wx := hC.at 9 (by kernel_rfl)
     have hJ9 : Rd (XR) (.slice a9 (XR).length c9) wx := ⟨_, _, rfl, q9⟩
     obtain ⟨a13, c13, e13, q13⟩ : (Rd Ek) (u 13) wx := hC.at 13 (by kernel_rfl)
     have hJ13 : Rd (Ek) (.slice a13 (Ek).length c13) wx := ⟨_, _, rfl, q13⟩
     clear hC; refine wpOp_step rfl fun K hK => ?_
     simp only [zu, zv]; go_simp
     refine hK _ _ ⟨rfl, ?_, hg.alloc hg.size _, zab _ _⟩
     change Pls [XR, Ek] _ _
     exact zgn (HBX.out) (HBE.out) (hJ9) (hJ13)
    case rs15 =>
     intro u wx hg hC; have hJ5 := zj hC 5
     have hJ14 : (Pls [XR, Ek]) (u 14) wx := hC.at 14 (by kernel_rfl)
     clear hC; refine wpOp_step rfl fun K hK => ?_
     simp only [zu, zv]; go_simp
     refine (HPM.out wx hg _ hJ14).mono ?_
     rintro e w' ⟨⟨v, rfl, hv⟩, hb'⟩
     exact hK _ _ ⟨rfl, hv, hg.next hb', hb'⟩
    case rs16 =>
     intro u wx hg hC; have hJ1 := zj hC 1
     have hJ15 : (Rd Y) (u 15) wx := hC.at 15 (by kernel_rfl)
     clear hC; refine wpOp_step rfl fun K hK => ?_
     simp only [zu, zv]; go_simp
     refine (HLW.out wx hg _ hJ15).mono ?_
     rintro e w' ⟨⟨v, rfl, hv⟩, hb'⟩
     exact hK _ _ ⟨rfl, hv, hg.next hb', hb'⟩
    case rs17 =>
     intro u wx hg hC; have hJ0 := zj hC 0; clear hC; refine wpOp_step rfl fun K hK => ?_
     simp only [zu, zv]; go_simp; exact zK hK hg
    case rs18 =>
     intro u wx hg hC; have hJ17 := zj hC 17; clear hC; refine wpOp_step rfl fun K hK => ?_
     simp only [zu, zv]; go_simp; exact zK hK hg
   case stepXr =>
    intro p hp hx
    cases hx
   case stepSr =>
    intro u w9 hbw9 hφ; obtain ⟨a9, c9, e9, hc9, hl9⟩ : Rd Z (u 16) w9 := hφ (16, 67) (by decide) (by decide)
    have hp9 : u 18 = .pointer (some ⟨s, 7, none⟩) := hφ (18, 69) (by decide) (by decide)
    clear hφ; have HS9 := zh (HSOL.out.step hbw9); have hfz := HS9.out.row.frozen 7; have hcc := HS9.out.c7; have HB9 := zh hbw9
    have HL9 : Hid (Reads w9 (.slice a9 Z.length c9) Z) := zh ⟨_, _, rfl, hc9, hl9⟩
    have HV9 := zh (HRV.out.step hbw9); have HE9 := zh (HRE.out.step hbw9); clear hbw9 hl9; refine wpOp_step rfl fun K hK => ?_
    simp only [zu, zv]; go_simp
    refine hK _ _ ⟨rfl, _, HS9.out.putT HBNS.out ⟨_, _, _, rfl⟩, ?_, ?_, Reads.apart HS9.out.row HS9.out.nou8 HE9.out ⟨s, 7, none⟩ rfl _, (HBW.out.trans (HB9.out.mono (Nat.le_trans HBW0.out HBW.out.size))).setCell (p := ⟨s, 7, none⟩) HBS.out _⟩
    .exact Reads.apart HS9.out.row HS9.out.nou8 HV9.out ⟨s, 7, none⟩ rfl _
    .exact Reads.apart HS9.out.row HS9.out.nou8 HL9.out ⟨s, 7, none⟩ rfl _
   case finr =>
    rintro u wq ⟨T2, hs2, hv2, ht2, he2, hb2⟩ hφ
    clear hφ; simp only [zu, zv]; go_simp; have HS2 := zh hs2; have HV2 := zh hv2; have HT2 := zh ht2; have HE2 := zh he2; have HB2 := zh hb2; clear hs2 hv2 he2 hb2 ht2; go_wp2
    go_end0
    exact ⟨rfl, ⟨V1, E1, T2, HS2.out, HV2.out, by rw [HEN.out]; exact HE2.out, by rw [HZ.out]; exact HT2.out⟩, HB2.out⟩
theorem zbbg (s b n p g lost i : Nat) (G : List Bool) (V E T : Value) (TL R : List Nat) (v : Value) (w : World) (h : Sol w s b n p g G lost V E T) (hT : Reads w T TL) (hT8 : By TL) (hTl : TL.length <= 5000) (hR : Reads w v R) (hR8 : By R) (hRl : R.length <= 5000) (hlo : lost <= 1000) (hi : i <= 1000) :
  Calls Tryz.prog 161 #[.pointer (some ⟨s, 0, none⟩), v, .int .i64 (i : Int)] w fun e w' => e = .returned (.int .u8 (missF TL R lost i : Int)) ∧ Below w.heap.size w w' := by
 have HS0 := zh h
 have HT0 := zh hT
 obtain ⟨a, c, rfl, hc, hr⟩ := hR
 have HR0 : Hid (Reads w (.slice a R.length c) R) := zh ⟨a, c, rfl, hc, hr⟩
 have HT8 := zh hT8
 have HTl := zh hTl
 have HR8 := zh hR8
 have HRl := zh hRl
 have HRl0 := zh hRl
 have hlb : (lost : Int) <= 1000 := by omega
 have hib : (i : Int) <= 1000 := by omega
 obtain ⟨L, hL⟩ : ∃ L, R.length = L := ⟨_, rfl⟩
 rw [hL] at HR0 HRl hRl ⊢
 have HMF : Hid (missF TL R lost i = missK TL R lost i L) := zh (by rw [<- hL]; rfl)
 have hLb : (L : Int) <= 5000 := by omega
 clear h hT hT8 hTl hR8 hRl hlo hi hr hc hL
 go_enter Tryz.func161, Tryz.ntmps161
 go_wp2
 go_loopw [7, 11] (fun d j wr => ∃ k : Nat, k <= L ∧ j = .int .i64 k ∧ d = .int .u8 (missK TL R lost i k : Int) ∧ Below w.heap.size w wr) (fun _ j _ => L - (intOf j).toNat)
 case atStart => exact ⟨0, Nat.zero_le _, rfl, rfl, zb⟩
 case round =>
  obtain ⟨k, hk, rfl, rfl, hbw⟩ := hrel
  have HBW := zh hbw
  by_cases hlt : k < L
  .have hki : (k : Int) < (L : Int) := by omega
   have hkb : (k : Int) <= 5000 := by omega
   have HSOL := zh (HS0.out.step hbw); have HRT := zh (HT0.out.step hbw); have HRR := zh (HR0.out.step hbw); have HLT := zh HSOL.out.lt; have C0 := zh HSOL.out.c0; have C4 := zh HSOL.out.c4; have C7 := zh HSOL.out.c7
   have HF1 : Hid (∀ wx, Below wr.heap.size wr wx -> Calls Tryz.prog 182 #[.slice a L c, .int .i64 (k : Int)] wx fun e w' => e = .returned (.int .u8 (cf R k : Int)) ∧ Below wx.heap.size wx w') := zh fun wx hb => by
    have e1 : fcI R (k : Int) = cf R k := by unfold fcI; rw [if_neg (by omega), Int.toNat_natCast]
    rw [<- e1]; exact (zov _ R (k : Int) wx HRl0.out (by omega) (by omega) (HRR.out.step hb)).mono fun e w' ⟨h1, h2⟩ => ⟨h1, h2 ▸ zb⟩
   have HF2 : Hid (∀ wx, Below wr.heap.size wr wx -> ∀ v, Rd TL v wx -> Calls Tryz.prog 182 #[v, .int .i64 ((lost : Int) + (i : Int) - (k : Int))] wx fun e w' => e = .returned (.int .u8 (fcI TL ((lost : Int) + (i : Int) - (k : Int)) : Int)) ∧ Below wx.heap.size wx w') := zh fun wx hb v hv =>
    (zov _ TL _ wx HTl.out (by omega) (by omega) hv).mono fun e w' ⟨h1, h2⟩ => ⟨h1, h2 ▸ zb⟩
   have hx8 := HR8.out.cf k; have hy8 := zuj HT8.out ((lost : Int) + (i : Int) - (k : Int)); have hd8 := zji HT8.out HR8.out lost i k
   have HST : Hid (missK TL R lost i (k + 1) = missK TL R lost i k ^^^ gm (cf R k) (fcI TL ((lost : Int) + (i : Int) - (k : Int)))) := zh rfl
   obtain ⟨x, hx⟩ : ∃ x, cf R k = x := ⟨_, rfl⟩; obtain ⟨y, hy⟩ : ∃ y, fcI TL ((lost : Int) + (i : Int) - (k : Int)) = y := ⟨_, rfl⟩; obtain ⟨d, hd⟩ : ∃ d, missK TL R lost i k = d := ⟨_, rfl⟩; rw [hx] at HF1 hx8 HST; rw [hy] at HF2 hy8 HST; rw [hd] at hd8 HST ⊢
   have HMU : Hid (∀ wx, Below wr.heap.size wr wx -> ∀ v, Rd [x, y] v wx -> Calls Tryz.prog 151 #[.pointer (some ⟨b, 0, none⟩), v] wx fun e w' => e = .returned (.int .u8 (gm x y : Int)) ∧ Below wx.heap.size wx w') := zh fun wx hb v hv => by
    have := mulV b v [x, y] wx (HSOL.out.fld.step hb) hv (zdn hx8 hy8) (by simp)
    rwa [zno hx8] at this
   have hz8 := zaz hx8 hy8; obtain ⟨z, hz⟩ : ∃ z, gm x y = z := ⟨_, rfl⟩; rw [hz] at HMU HST hz8
   have HAD : Hid (∀ wx, Below wr.heap.size wr wx -> ∀ v, Rd [d, z] v wx -> Calls Tryz.prog 150 #[.pointer (some ⟨b, 0, none⟩), v] wx fun e w' => e = .returned (.int .u8 (d ^^^ z : Nat)) ∧ Below wx.heap.size wx w') := zh fun wx hb v hv => by
    have := addV b v [d, z] wx hv (zdn hd8 hz8) (by simp)
    rwa [zqz] at this
   obtain ⟨q, hq⟩ : ∃ q, d ^^^ z = q := ⟨_, rfl⟩; rw [hq] at HAD HST; clear hbw hx hy hd hz hq hx8 hy8 hd8 hz8; go_wp2
   refine zmx [(0, 14), (1, 15), (2, 16), (3, 17), (4, 18), (5, 19), (6, 20), (7, 21), (8, 22), (9, 23), (10, 24), (11, 25), (12, 26), (13, 27), (14, 28), (15, 29), (16, 30), (17, 31), (18, 32), (19, 33), (20, 34), (21, 35), (22, 36), (23, 37), (24, 38), (25, 39), (26, 40), (27, 41), (28, 42), (29, 7)]
    (fun ii => [Is (.pointer (some ⟨s, 0, none⟩)), Is (.pointer (some ⟨s, 0, none⟩)), Is (.pointer (some ⟨s, 0, none⟩)), Is (.pointer (some ⟨b, 0, none⟩)), Is (.int .u8 (d : Int)), Is (.pointer (some ⟨s, 0, none⟩)), Is (.pointer (some ⟨s, 0, none⟩)), Is (.pointer (some ⟨s, 0, none⟩)), Is (.pointer (some ⟨b, 0, none⟩)), Is (.slice a L c), Is (.int .i64 (k : Int)), Is (.int .u8 (x : Int)), Is (.pointer (some ⟨s, 0, none⟩)), Is (.pointer (some ⟨s, 0, none⟩)), Is (.pointer (some ⟨s, 7, none⟩)), Rd TL, Is (.pointer (some ⟨s, 0, none⟩)), Is (.pointer (some ⟨s, 0, none⟩)), Is (.pointer (some ⟨s, 4, none⟩)), Is (.int .i64 (lost : Int)), Is (.int .i64 (i : Int)), Is (.int .i64 ((lost : Int) + (i : Int))), Is (.int .i64 (k : Int)), Is (.int .i64 ((lost : Int) + (i : Int) - (k : Int))), Is (.int .u8 (y : Int)), Rd [x, y], Is (.int .u8 (z : Int)), Rd [d, z], Is (.int .u8 (q : Int)), Is (.int .u8 (q : Int))].getD ii (Is undef))
    (fun w' => Below wr.heap.size wr w') (by kernel_rfl) (by kernel_rfl) (by decide) (by decide) (by kernel_rfl) rfl ?monom ((zb).drew) ?stepm ?finm
   case monom =>
    intro i
    match i with
    | 0 | 1 | 2 | 3 | 4 | 5 | 6 | 7 | 8 | 9 | 10 | 11 | 12 | 13 | 14 | 16 | 17 | 18 | 19 | 20 | 21 | 22 | 23 | 24 | 26 | 28 | 29 => exact Is.monot _
    | 15 | 25 | 27 => exact Rd.monot _
    | _ + 30 => exact Is.monot _
   case stepm =>
    refine zf ⟨?ms0, zf ⟨?ms1, zf ⟨?ms2, zf ⟨?ms3, zf ⟨?ms4, zf ⟨?ms5, zf ⟨?ms6, zf ⟨?ms7, zf ⟨?ms8, zf ⟨?ms9, zf ⟨?ms10, zf ⟨?ms11, zf ⟨?ms12, zf ⟨?ms13, zf ⟨?ms14, zf ⟨?ms15, zf ⟨?ms16, zf ⟨?ms17, zf ⟨?ms18, zf ⟨?ms19, zf ⟨?ms20, zf ⟨?ms21, zf ⟨?ms22, zf ⟨?ms23, zf ⟨?ms24, zf ⟨?ms25, zf ⟨?ms26, zf ⟨?ms27, zf ⟨?ms28, zf ⟨?ms29, List.forall_mem_nil _⟩⟩⟩⟩⟩⟩⟩⟩⟩⟩⟩⟩⟩⟩⟩⟩⟩⟩⟩⟩⟩⟩⟩⟩⟩⟩⟩⟩⟩⟩
    case ms0 | ms5 | ms9 | ms10 | ms12 | ms16 | ms20 | ms22 =>
     intro u wx hg hC hOld; clear hC hOld; refine wpOp_step rfl fun K hK => ?_
     simp only [zu, zv]; go_simp; exact zK hK hg
    case ms1 =>
     intro u wx hg hC hOld; have hJ0 := zj hC 0; clear hC hOld; refine wpOp_step rfl fun K hK => ?_
     simp only [zu, zv]; go_simp; exact zK hK hg
    case ms2 =>
     intro u wx hg hC hOld; have hJ1 := zj hC 1; clear hC hOld; refine wpOp_step rfl fun K hK => ?_
     simp only [zu, zv]; go_simp; exact zK hK hg
    case ms3 =>
     intro u wx hg hC hOld; have hJ2 := zj hC 2; clear hC hOld
     have hcl : wx.cell? ⟨s, 0, none⟩ = some (.pointer (some ⟨b, 0, none⟩)) := (hg.cell (p := ⟨s, 0, none⟩) HLT.out).trans C0.out
     refine wpOp_step rfl fun K hK => ?_
     simp only [zu, zv]; go_simp; exact zK hK hg
    case ms4 =>
     intro u wx hg hC hOld
     have hO29 : u 29 = (.int .u8 (d : Int)) := hOld (29, 7) (by decide) (by kernel_rfl)
     clear hC hOld; refine wpOp_step rfl fun K hK => ?_
     simp only [zu, zv]; go_simp; exact zK hK hg
    case ms6 =>
     intro u wx hg hC hOld; have hJ5 := zj hC 5; clear hC hOld; refine wpOp_step rfl fun K hK => ?_
     simp only [zu, zv]; go_simp; exact zK hK hg
    case ms7 =>
     intro u wx hg hC hOld; have hJ6 := zj hC 6; clear hC hOld; refine wpOp_step rfl fun K hK => ?_
     simp only [zu, zv]; go_simp; exact zK hK hg
    case ms8 =>
     intro u wx hg hC hOld; have hJ7 := zj hC 7; clear hC hOld
     have hcl : wx.cell? ⟨s, 0, none⟩ = some (.pointer (some ⟨b, 0, none⟩)) := (hg.cell (p := ⟨s, 0, none⟩) HLT.out).trans C0.out
     refine wpOp_step rfl fun K hK => ?_
     simp only [zu, zv]; go_simp; exact zK hK hg
    case ms11 =>
     intro u wx hg hC hOld; have hJ9 := zj hC 9; have hJ10 := zj hC 10; clear hC hOld; refine wpOp_step rfl fun K hK => ?_
     simp only [zu, zv]; go_simp
     refine (HF1.out wx hg).mono ?_
     rintro e w' ⟨rfl, hb'⟩
     exact hK _ _ ⟨rfl, rfl, hg.next hb', hb'⟩
    case ms13 =>
     intro u wx hg hC hOld; have hJ12 := zj hC 12; clear hC hOld; refine wpOp_step rfl fun K hK => ?_
     simp only [zu, zv]; go_simp; exact zK hK hg
    case ms14 =>
     intro u wx hg hC hOld; have hJ13 := zj hC 13; clear hC hOld; refine wpOp_step rfl fun K hK => ?_
     simp only [zu, zv]; go_simp; exact zK hK hg
    case ms15 =>
     intro u wx hg hC hOld; have hJ14 := zj hC 14; clear hC hOld
     have hcl : wx.cell? ⟨s, 7, none⟩ = some T := (hg.cell (p := ⟨s, 7, none⟩) HLT.out).trans C7.out
     refine wpOp_step rfl fun K hK => ?_
     simp only [zu, zv]; go_simp; exact hK _ _ ⟨rfl, HRT.out.step hg, hg, zb⟩
    case ms17 =>
     intro u wx hg hC hOld; have hJ16 := zj hC 16; clear hC hOld; refine wpOp_step rfl fun K hK => ?_
     simp only [zu, zv]; go_simp; exact zK hK hg
    case ms18 =>
     intro u wx hg hC hOld; have hJ17 := zj hC 17; clear hC hOld; refine wpOp_step rfl fun K hK => ?_
     simp only [zu, zv]; go_simp; exact zK hK hg
    case ms19 =>
     intro u wx hg hC hOld; have hJ18 := zj hC 18; clear hC hOld
     have hcl : wx.cell? ⟨s, 4, none⟩ = some (.int .i64 (lost : Int)) := (hg.cell (p := ⟨s, 4, none⟩) HLT.out).trans C4.out
     refine wpOp_step rfl fun K hK => ?_
     simp only [zu, zv]; go_simp; exact zK hK hg
    case ms21 =>
     intro u wx hg hC hOld; have hJ19 := zj hC 19; have hJ20 := zj hC 20; clear hC hOld
     have hw : IntKind.i64.wrap ((lost : Int) + (i : Int)) = (lost : Int) + (i : Int) := by rw [IntKind.wrap_i64]; omega
     refine wpOp_step rfl fun K hK => ?_
     simp only [zu, zv]; go_simp; exact zK hK hg
    case ms23 =>
     intro u wx hg hC hOld; have hJ21 := zj hC 21; have hJ22 := zj hC 22; clear hC hOld
     have hw : IntKind.i64.wrap ((lost : Int) + (i : Int) - (k : Int)) = (lost : Int) + (i : Int) - (k : Int) := by rw [IntKind.wrap_i64]; omega
     refine wpOp_step rfl fun K hK => ?_
     simp only [zu, zv]; go_simp; exact zK hK hg
    case ms24 =>
     intro u wx hg hC hOld
     have hJ15 : (Rd TL) (u 15) wx := hC.at 15 (by kernel_rfl)
     have hJ23 := zj hC 23; clear hC hOld; refine wpOp_step rfl fun K hK => ?_
     simp only [zu, zv]; go_simp
     refine (HF2.out wx hg _ hJ15).mono ?_
     rintro e w' ⟨rfl, hb'⟩
     exact hK _ _ ⟨rfl, rfl, hg.next hb', hb'⟩
    case ms25 =>
     intro u wx hg hC hOld; have hJ11 := zj hC 11; have hJ24 := zj hC 24; clear hC hOld; refine wpOp_step rfl fun K hK => ?_
     simp only [zu, zv]; go_simp; exact hK _ _ ⟨rfl, ⟨some ⟨wx.heap.size, 0, none⟩, 2, rfl, Nat.le_refl _, Lies.new [_, _] _ _⟩, hg.alloc hg.size _, zab _ _⟩
    case ms26 =>
     intro u wx hg hC hOld; have hJ8 := zj hC 8
     have hJ25 : (Rd [x, y]) (u 25) wx := hC.at 25 (by kernel_rfl)
     clear hC hOld; refine wpOp_step rfl fun K hK => ?_
     simp only [zu, zv]; go_simp
     refine (HMU.out wx hg _ hJ25).mono ?_
     rintro e w' ⟨rfl, hb'⟩
     exact hK _ _ ⟨rfl, rfl, hg.next hb', hb'⟩
    case ms27 =>
     intro u wx hg hC hOld; have hJ4 := zj hC 4; have hJ26 := zj hC 26; clear hC hOld; refine wpOp_step rfl fun K hK => ?_
     simp only [zu, zv]; go_simp; exact hK _ _ ⟨rfl, ⟨some ⟨wx.heap.size, 0, none⟩, 2, rfl, Nat.le_refl _, Lies.new [_, _] _ _⟩, hg.alloc hg.size _, zab _ _⟩
    case ms28 =>
     intro u wx hg hC hOld; have hJ3 := zj hC 3
     have hJ27 : (Rd [d, z]) (u 27) wx := hC.at 27 (by kernel_rfl)
     clear hC hOld; refine wpOp_step rfl fun K hK => ?_
     simp only [zu, zv]; go_simp
     refine (HAD.out wx hg _ hJ27).mono ?_
     rintro e w' ⟨rfl, hb'⟩
     exact hK _ _ ⟨rfl, rfl, hg.next hb', hb'⟩
    case ms29 =>
     intro u wx hg hC hOld; have hJ28 := zj hC 28; clear hC hOld; refine wpOp_step rfl fun K hK => ?_
     simp only [zu, zv]; go_simp; exact zK hK hg
   case finm =>
    intro u wq hbq hφ
    have e7 : u 29 = .int .u8 (q : Int) := hφ (29, 7) (by decide)
    clear hφ; simp only [zu, zv]; go_simp; have HBQ := zh (HBW.out.next hbq); clear hbq e7; go_wp2
    go_roundw
    case rel => exact ⟨k + 1, by omega, by go_num, by rw [HST.out], HBQ.out⟩
    case measure => simp [intOf]; omega
  .obtain rfl : k = L := by omega
   clear hbw; go_wp2; go_ret; exact ⟨zay (by rw [HMF.out]), HBW.out⟩
theorem zbnf (n : Nat) (h : n <= 1000) : shn (n : Int) = n := by unfold shn; omega
structure Bmr (w : World) (r l : Value) (st : BM) : Prop where
 r : Reads w r st.rule
 l : Reads w l st.last
theorem zbbf (s b n p g lost : Nat) (G : List Bool) (V E T : Value) (TL : List Nat) (w : World) (h : Sol w s b n p g G lost V E T) (hT : Reads w T TL) (hT8 : By TL) (hTl : TL.length <= 5000) (hp : p <= 64) (hlo : lost <= 255) :
  Calls Tryz.prog 136 #[.pointer (some ⟨s, 0, none⟩)] w fun e w' => (∃ v, e = .returned v ∧ Reads w' v (masseyF p TL lost)) ∧ Below w.heap.size w w' := by
 have HS0 := zh h
 have HT0 := zh hT
 have HT8 := zh hT8
 have HTl := zh hTl
 obtain ⟨u2, hu, hb2, hbm⟩ : ∃ u2, u2 = ((w.alloc (.cells #[.int .u8 1] 5)).alloc (.cells #[.int .u8 1] 5)) ∧ Below w.heap.size w u2 ∧ Bmr u2 (.slice (some ⟨w.heap.size, 0, none⟩) 1 1) (.slice (some ⟨w.heap.size + 1, 0, none⟩) 1 1) (bm TL lost 0) := by
  refine ⟨_, rfl, (zab _ _).next (zab _ _), ?_, ?_⟩
  .exact Reads.step ⟨_, 1, rfl, Nat.le_refl _, Lies.new [.int .u8 1] w _⟩ (zab _ _)
  .have e1 : w.heap.size + 1 = (w.alloc (.cells #[.int .u8 1] 5)).heap.size := by simp
   rw [e1]; exact ⟨_, 1, rfl, Nat.le_refl _, Lies.new [.int .u8 1] _ _⟩
 have h2 := (h.step hb2).c2
 have h4 := (h.step hb2).c4
 have HU := zh hu
 have HB2 := zh hb2
 have HBM := zh hbm
 have hpb : (p : Int) <= 64 := by omega
 have hlb : (lost : Int) <= 255 := by omega
 obtain ⟨N, hN⟩ : ∃ N : Int, (p : Int) - (lost : Int) = N := ⟨_, rfl⟩
 have hN1 : N <= 64 := by omega
 have hN2 : -255 <= N := by omega
 have hNw : IntKind.i64.wrap N = N := by rw [IntKind.wrap_i64]; omega
 have HNN : Hid (∀ k : Nat, (k : Int) < N -> k < p - lost) := zh fun k hk => by omega
 have HNE : Hid (∀ k : Nat, ¬ (k : Int) < N -> k <= p - lost -> k = p - lost) := zh fun k hk h => by omega
 have hM : (p - lost) <= 64 := by omega
 have HMF : Hid (masseyF p TL lost = (bm TL lost (p - lost)).rule) := zh rfl
 obtain ⟨M, hMe⟩ : ∃ M, p - lost = M := ⟨_, rfl⟩
 rw [hMe] at HNN HNE hM HMF
 have HOK := zh (zlu hT8 lost)
 have hlo2 : Hid (lost <= 1000) := zh (by omega)
 clear h hT hT8 hTl hp hlo hMe hu hb2 hbm
 go_enter Tryz.func136, Tryz.ntmps136
 go_wp2
 rw [<- HU.out]
 go_quiet (fail)
 have HB3 : Hid (Below w.heap.size w (u2.drewN nq)) := zh (HB2.out.drewN _)
 have HBM3 : Hid (Bmr (u2.drewN nq) (.slice (some ⟨w.heap.size, 0, none⟩) 1 1) (.slice (some ⟨w.heap.size + 1, 0, none⟩) 1 1) (bm TL lost 0)) := zh ⟨HBM.out.r.step ((zb).drewN _), HBM.out.l.step ((zb).drewN _)⟩
 generalize u2.drewN nq = wz at *
 clear HU HB2 HBM h2 h4 hN
 go_wp2
 go_loopw [3, 4, 5, 6, 7, 24] (fun r l m si sz i wr => ∃ k : Nat, k <= M ∧ i = .int .i64 k ∧ m = .int .u8 ((bm TL lost k).miss : Int) ∧ si = .int .i64 ((bm TL lost k).since : Int) ∧ sz = .int .i64 ((bm TL lost k).size : Int) ∧ Bmr wr r l (bm TL lost k) ∧ Below w.heap.size w wr) (fun _ _ _ _ _ i _ => M - (intOf i).toNat)
 case atStart => exact ⟨0, Nat.zero_le _, rfl, rfl, rfl, rfl, HBM3.out, HB3.out⟩
 case round =>
  clear HB3 HBM3
  obtain ⟨k, hk, rfl, rfl, rfl, rfl, ⟨hrr, hrl⟩, hbw⟩ := hrel
  have HBW := zh hbw
  by_cases hlt : (k : Int) < N
  .have HKM : Hid (k < M) := zh (HNN.out k hlt)
   have hk64 : (k : Int) < 64 := by omega
   have hok := HOK.out k
   have HST : Hid (bm TL lost (k + 1) = bmStep TL lost k (bm TL lost k)) := zh rfl
   obtain ⟨st, hst⟩ : ∃ st, bm TL lost k = st := ⟨_, rfl⟩; rw [hst] at hrr hrl hok HST ⊢; obtain ⟨R, L, mi, si, sz⟩ := st; obtain ⟨hR8, hL8, hm8, hm0, hRl, hLl, hs1, hsz⟩ := hok
   simp only at hR8 hL8 hm8 hm0 hRl hLl hs1 hsz hrr hrl
   have HSOL := zh (HS0.out.step hbw); have HR := zh hrr; have HL := zh hrl
   have HMI : Hid (Calls Tryz.prog 161 #[.pointer (some ⟨s, 0, none⟩), u3, .int .i64 (k : Int)] wr fun e w' => e = .returned (.int .u8 (missF TL R lost k : Int)) ∧ Below wr.heap.size wr w') := zh (zbbg s b n p g lost k G V E T TL R u3 wr HSOL.out (HT0.out.step hbw) HT8.out HTl.out hrr hR8 (by omega) hlo2.out (by omega))
   have hd8 : missF TL R lost k < 256 := zji HT8.out hR8 lost k _
   have HSE : Hid (bmStep TL lost k ⟨R, L, mi, si, sz⟩ = if missF TL R lost k = 0 then ⟨R, L, mi, si + 1, sz⟩ else if 2 * sz <= k then ⟨nextF ⟨R, L, mi, si, sz⟩ (missF TL R lost k), R, missF TL R lost k, 1, k + 1 - sz⟩ else ⟨nextF ⟨R, L, mi, si, sz⟩ (missF TL R lost k), L, mi, si + 1, sz⟩) := zh rfl
   obtain ⟨d, hd⟩ : ∃ d, missF TL R lost k = d := ⟨_, rfl⟩; rw [hd] at HMI hd8 HSE
   have hsi : (si : Int) <= 1000 := by omega
   have hsi0 : 1 <= (si : Int) := by omega
   have hszb : (sz : Int) <= (k : Int) := by omega
   clear hbw hrr hrl hst hd
   by_cases hd0 : d = 0
   .have HN : Hid (bm TL lost (k + 1) = ⟨R, L, mi, si + 1, sz⟩) := zh (by rw [HST.out, HSE.out, if_pos hd0])
    have hdi : (d : Int) = 0 := by omega
    have hdt : ((d : Int) == 0) = true := by simpa using hd0
    clear hd0 hR8 hL8 hm8 hm0 HST HSE
    go_wp2_with (go_at_call 161; (with_reducible refine HMI.out.mono ?_); rintro e w2 ⟨rfl, b2⟩; have B2 := zh (HBW.out.next b2); have R2 := zh (HR.out.step b2); have L2 := zh (HL.out.step b2); clear b2)
    go_roundw
    case rel => exact ⟨k + 1, HKM.out, by go_num, by rw [HN.out], by rw [HN.out]; go_num, by rw [HN.out], ⟨by rw [HN.out]; exact R2.out, by rw [HN.out]; exact L2.out⟩, B2.out⟩
    case measure => have := HKM.out; simp [intOf]; omega
   .have hdt : ((d : Int) == 0) = false := by simp; omega
    have hdi : ¬ (d : Int) = 0 := by omega
    have HDV : Hid (∀ u, Below wr.heap.size wr u -> Calls Tryz.prog 162 #[.pointer (some ⟨b, 0, none⟩), .int .u8 (d : Int), .int .u8 (mi : Int)] u fun e w' => e = .returned (.tuple #[.int .u8 (gm d (iv mi) : Int), .bool (decide (mi ≠ 0))]) ∧ Below u.heap.size u w') := zh fun u hb => divV b d mi u (HSOL.out.fld.step hb) hd8 hm8
    have hq8 : gm d (iv mi) < 256 := zaz hd8 (zax _)
    have HNX : Hid (nextF ⟨R, L, mi, si, sz⟩ d = addl [R, pms [[gm d (iv mi)], shl L si]]) := zh rfl
    obtain ⟨q, hq⟩ : ∃ q, gm d (iv mi) = q := ⟨_, rfl⟩; rw [hq] at HDV hq8 HNX; have hS8 := zeg hL8 si; have hSl := zlm L si
    have HSH : Hid (∀ wx, Below wr.heap.size wr wx -> ∀ v, Rd L v wx -> Calls Tryz.prog 140 #[v, .int .i64 (si : Int)] wx fun e w' => (∃ v, e = .returned v ∧ Reads w' v (shl L si)) ∧ Below wx.heap.size wx w') := zh fun wx hb v hv => by
     have := shiftV v L (si : Int) wx hv (by omega)
     rwa [zbnf si (by omega)] at this
    obtain ⟨S, hS⟩ : ∃ S, shl L si = S := ⟨_, rfl⟩; rw [hS] at HSH hS8 hSl HNX
    have HBQ8 : Hid (By [q]) := zh (zea hq8)
    have hM8 : By (pms [[q], S]) := zbh HBQ8.out hS8
    have hMl := zcz [q] S
    have HPM : Hid (∀ wx, Below wr.heap.size wr wx -> ∀ v, Pls [[q], S] v wx -> Calls Tryz.prog 164 #[.pointer (some ⟨b, 0, none⟩), v] wx fun e w' => (∃ v, e = .returned v ∧ Reads w' v (pms [[q], S])) ∧ Below wx.heap.size wx w') := zh fun wx hb v hv => pmulV b v _ wx (HSOL.out.fld.step hb) hv (by simp) (by intro l hl; simp only [List.mem_cons, List.not_mem_nil, or_false] at hl; rcases hl with rfl | rfl; simp; omega)
    simp only [List.length_cons, List.length_nil] at hMl
    obtain ⟨Mm, hMm⟩ : ∃ Mm, pms [[q], S] = Mm := ⟨_, rfl⟩; rw [hMm] at HPM hM8 hMl HNX
    have HPA : Hid (∀ wx, Below wr.heap.size wr wx -> ∀ v, Pls [R, Mm] v wx -> Calls Tryz.prog 163 #[.pointer (some ⟨b, 0, none⟩), v] wx fun e w' => (∃ v, e = .returned v ∧ Reads w' v (addl [R, Mm])) ∧ Below wx.heap.size wx w') := zh fun wx hb v hv => paddV b v _ wx hv (by simp) (by intro l hl; simp only [List.mem_cons, List.not_mem_nil, or_false] at hl; rcases hl with rfl | rfl <;> omega)
    obtain ⟨Nn, hNn⟩ : ∃ Nn, addl [R, Mm] = Nn := ⟨_, rfl⟩; rw [hNn] at HPA HNX; have HBR := zh hR8; have HBS := zh hS8; have HBM8 := zh hM8
    have HG : Hid (2 * sz <= k -> bm TL lost (k + 1) = ⟨Nn, R, d, 1, k + 1 - sz⟩) := zh fun h => by rw [HST.out, HSE.out, if_neg hd0, if_pos h, HNX.out]
    have HH : Hid (¬ 2 * sz <= k -> bm TL lost (k + 1) = ⟨Nn, L, mi, si + 1, sz⟩) := zh fun h => by rw [HST.out, HSE.out, if_neg hd0, if_neg h, HNX.out]
    clear hd0 hR8 hL8 hS8 hM8 hMl hSl hq hS hMm hNn HST HSE HNX hm0 hm8 hRl hLl
    go_wp2_with (first
     | (go_at_call 161; (with_reducible refine HMI.out.mono ?_); rintro e w2 ⟨rfl, b2⟩; have B2 := zh b2; have c02 := (HSOL.out.step b2).c0; clear b2)
     | (go_at_call 162; (with_reducible refine (HDV.out w2 B2.out).mono ?_); rintro e w3 ⟨rfl, b3⟩; have B3 := zh (B2.out.next b3); clear b3 c02))
    have HLT : Hid (s < w3.heap.size) := zh (HSOL.out.step B3.out).lt
    have C0 : Hid (w3.cell? ⟨s, 0, none⟩ = some (.pointer (some ⟨b, 0, none⟩))) := zh (HSOL.out.step B3.out).c0
    have R3 := zh (HR.out.step B3.out); have L3 := zh (HL.out.step B3.out)
    refine zaj [(0, 45), (1, 46), (2, 47), (3, 48), (4, 49), (5, 50), (6, 51), (7, 52), (8, 53), (9, 54), (10, 55), (11, 56), (12, 57), (13, 58), (14, 59), (15, 60), (16, 61), (17, 62), (18, 12)]
     (fun ii => [Is (.pointer (some ⟨s, 0, none⟩)), Is (.pointer (some ⟨s, 0, none⟩)), Is (.pointer (some ⟨s, 0, none⟩)), Is (.pointer (some ⟨b, 0, none⟩)), Rd R, Is (.pointer (some ⟨s, 0, none⟩)), Is (.pointer (some ⟨s, 0, none⟩)), Is (.pointer (some ⟨s, 0, none⟩)), Is (.pointer (some ⟨b, 0, none⟩)), Is (.int .u8 (q : Int)), Rd [q], Rd L, Is (.int .i64 (si : Int)), Rd S, Pls [[q], S], Rd Mm, Pls [R, Mm], Rd Nn, Rd Nn].getD ii (Is undef))
     (fun w' => Below w3.heap.size w3 w') (by kernel_rfl) (by kernel_rfl) (by decide) (by decide) (by kernel_rfl) rfl ?monon ((zb).drew) ?stepn ?finn
    case monon =>
     intro i
     match i with
     | 0 | 1 | 2 | 3 | 5 | 6 | 7 | 8 | 9 | 12 => exact Is.monot _
     | 4 | 10 | 11 | 13 | 15 | 17 | 18 => exact Rd.monot _
     | 14 | 16 => exact Pls.monot _
     | _ + 19 => exact Is.monot _
    case stepn =>
     refine zf ⟨?ns0, zf ⟨?ns1, zf ⟨?ns2, zf ⟨?ns3, zf ⟨?ns4, zf ⟨?ns5, zf ⟨?ns6, zf ⟨?ns7, zf ⟨?ns8, zf ⟨?ns9, zf ⟨?ns10, zf ⟨?ns11, zf ⟨?ns12, zf ⟨?ns13, zf ⟨?ns14, zf ⟨?ns15, zf ⟨?ns16, zf ⟨?ns17, zf ⟨?ns18, List.forall_mem_nil _⟩⟩⟩⟩⟩⟩⟩⟩⟩⟩⟩⟩⟩⟩⟩⟩⟩⟩⟩
     case ns0 | ns5 | ns9 | ns12 =>
      intro u wx hg hC; clear hC; refine wpOp_step rfl fun K hK => ?_
      simp only [zu, zv]; go_simp; exact zK hK hg
     case ns1 =>
      intro u wx hg hC; have hJ0 := zj hC 0; clear hC; refine wpOp_step rfl fun K hK => ?_
      simp only [zu, zv]; go_simp; exact zK hK hg
     case ns2 =>
      intro u wx hg hC; have hJ1 := zj hC 1; clear hC; refine wpOp_step rfl fun K hK => ?_
      simp only [zu, zv]; go_simp; exact zK hK hg
     case ns3 =>
      intro u wx hg hC; have hJ2 := zj hC 2; clear hC
      have hcl : wx.cell? ⟨s, 0, none⟩ = some (.pointer (some ⟨b, 0, none⟩)) := (hg.cell (p := ⟨s, 0, none⟩) HLT.out).trans C0.out
      refine wpOp_step rfl fun K hK => ?_
      simp only [zu, zv]; go_simp; exact zK hK hg
     case ns4 =>
      intro u wx hg hC; clear hC; refine wpOp_step rfl fun K hK => ?_
      simp only [zu, zv]; go_simp; exact hK _ _ ⟨rfl, R3.out.step hg, hg, zb⟩
     case ns6 =>
      intro u wx hg hC; have hJ5 := zj hC 5; clear hC; refine wpOp_step rfl fun K hK => ?_
      simp only [zu, zv]; go_simp; exact zK hK hg
     case ns7 =>
      intro u wx hg hC; have hJ6 := zj hC 6; clear hC; refine wpOp_step rfl fun K hK => ?_
      simp only [zu, zv]; go_simp; exact zK hK hg
     case ns8 =>
      intro u wx hg hC; have hJ7 := zj hC 7; clear hC
      have hcl : wx.cell? ⟨s, 0, none⟩ = some (.pointer (some ⟨b, 0, none⟩)) := (hg.cell (p := ⟨s, 0, none⟩) HLT.out).trans C0.out
      refine wpOp_step rfl fun K hK => ?_
      simp only [zu, zv]; go_simp; exact zK hK hg
     case ns10 =>
      intro u wx hg hC; have hJ9 := zj hC 9; clear hC; refine wpOp_step rfl fun K hK => ?_
      simp only [zu, zv]; go_simp; exact hK _ _ ⟨rfl, ⟨some ⟨wx.heap.size, 0, none⟩, 1, rfl, Nat.le_refl _, Lies.new [_] _ _⟩, hg.alloc hg.size _, zab _ _⟩
     case ns11 =>
      intro u wx hg hC; clear hC; refine wpOp_step rfl fun K hK => ?_
      simp only [zu, zv]; go_simp; exact hK _ _ ⟨rfl, L3.out.step hg, hg, zb⟩
     case ns13 =>
      intro u wx hg hC
      have hJ11 : (Rd L) (u 11) wx := hC.at 11 (by kernel_rfl)
      have hJ12 := zj hC 12; clear hC; refine wpOp_step rfl fun K hK => ?_
      simp only [zu, zv]; go_simp
      refine (HSH.out wx (B3.out.next hg) _ hJ11).mono ?_
      rintro e w' ⟨⟨v, rfl, hv⟩, hb'⟩
      exact hK _ _ ⟨rfl, hv, hg.next hb', hb'⟩
     case ns14 =>
      intro u wx hg hC; obtain ⟨a10, c10, e10, q10⟩ : (Rd [q]) (u 10) wx := hC.at 10 (by kernel_rfl)
      have hJ10 : Rd [q] (.slice a10 ([q]).length c10) wx := ⟨_, _, rfl, q10⟩
      obtain ⟨a13, c13, e13, q13⟩ : (Rd S) (u 13) wx := hC.at 13 (by kernel_rfl)
      have hJ13 : Rd (S) (.slice a13 (S).length c13) wx := ⟨_, _, rfl, q13⟩
      clear hC; refine wpOp_step rfl fun K hK => ?_
      simp only [zu, zv]; go_simp
      refine hK _ _ ⟨rfl, ?_, hg.alloc hg.size _, zab _ _⟩
      change Pls [[q], S] _ _
      exact zgn (HBQ8.out) (HBS.out) (hJ10) (hJ13)
     case ns15 =>
      intro u wx hg hC; have hJ8 := zj hC 8
      have hJ14 : (Pls [[q], S]) (u 14) wx := hC.at 14 (by kernel_rfl)
      clear hC; refine wpOp_step rfl fun K hK => ?_
      simp only [zu, zv]; go_simp
      refine (HPM.out wx (B3.out.next hg) _ hJ14).mono ?_
      rintro e w' ⟨⟨v, rfl, hv⟩, hb'⟩
      exact hK _ _ ⟨rfl, hv, hg.next hb', hb'⟩
     case ns16 =>
      intro u wx hg hC; obtain ⟨a4, c4, e4, q4⟩ : (Rd R) (u 4) wx := hC.at 4 (by kernel_rfl)
      have hJ4 : Rd (R) (.slice a4 (R).length c4) wx := ⟨_, _, rfl, q4⟩
      obtain ⟨a15, c15, e15, q15⟩ : (Rd Mm) (u 15) wx := hC.at 15 (by kernel_rfl)
      have hJ15 : Rd (Mm) (.slice a15 (Mm).length c15) wx := ⟨_, _, rfl, q15⟩
      clear hC; refine wpOp_step rfl fun K hK => ?_
      simp only [zu, zv]; go_simp
      refine hK _ _ ⟨rfl, ?_, hg.alloc hg.size _, zab _ _⟩
      change Pls [R, Mm] _ _
      exact zgn (HBR.out) (HBM8.out) (hJ4) (hJ15)
     case ns17 =>
      intro u wx hg hC; have hJ3 := zj hC 3
      have hJ16 : (Pls [R, Mm]) (u 16) wx := hC.at 16 (by kernel_rfl)
      clear hC; refine wpOp_step rfl fun K hK => ?_
      simp only [zu, zv]; go_simp
      refine (HPA.out wx (B3.out.next hg) _ hJ16).mono ?_
      rintro e w' ⟨⟨v, rfl, hv⟩, hb'⟩
      exact hK _ _ ⟨rfl, hv, hg.next hb', hb'⟩
     case ns18 =>
      intro u wx hg hC
      have hJ17 : (Rd Nn) (u 17) wx := hC.at 17 (by kernel_rfl)
      clear hC; refine wpOp_step rfl fun K hK => ?_
      simp only [zu, zv]; go_simp; exact hK _ _ ⟨rfl, hJ17, hg, zb⟩
    case finn =>
     intro u wq hbq hφ
     have h12 : Rd Nn (u 18) wq := hφ (18, 12) (by decide)
     clear hφ; simp only [zu, zv]; go_simp
     have H12 : Hid (Reads wq (u 18) Nn) := zh h12
     have RQ := zh (R3.out.step hbq); have LQ := zh (L3.out.step hbq); have HBQ := zh ((HBW.out.next B3.out).next hbq); clear hbq h12
     by_cases hgr : 2 * sz <= k
     .have hgi : 2 * (sz : Int) <= (k : Int) := by omega
      have HN := zh (HG.out hgr)
      have HKS : Hid (sz <= k) := zh (by omega)
      clear hgr HG HH; go_wp2
      go_roundw
      case rel => exact ⟨k + 1, HKM.out, by go_num, by rw [HN.out], by rw [HN.out]; rfl, by rw [HN.out]; have := HKS.out; exact congrArg (Value.int .i64) (by simp only; omega), ⟨by rw [HN.out]; exact H12.out, by rw [HN.out]; exact RQ.out⟩, HBQ.out⟩
      case measure => have := HKM.out; simp [intOf]; omega
     .have hgi : ¬ 2 * (sz : Int) <= (k : Int) := by omega
      have HN := zh (HH.out hgr); clear hgr HG HH; go_wp2
      go_roundw
      case rel => exact ⟨k + 1, HKM.out, by go_num, by rw [HN.out], by rw [HN.out]; go_num, by rw [HN.out], ⟨by rw [HN.out]; exact H12.out, by rw [HN.out]; exact LQ.out⟩, HBQ.out⟩
      case measure => have := HKM.out; simp [intOf]; omega
  .have HE : Hid (k = M) := zh (HNE.out k (by omega) hk)
   have HV : Hid (Reads wr u3 (masseyF p TL lost)) := zh (by rw [HMF.out, <- HE.out]; exact hrr)
   clear hbw hrr hrl; go_wp2; go_ret; exact ⟨⟨_, rfl, HV.out⟩, HBW.out⟩
end
end Go.Proofs.YtojimgbcghiblaaGreatDoor