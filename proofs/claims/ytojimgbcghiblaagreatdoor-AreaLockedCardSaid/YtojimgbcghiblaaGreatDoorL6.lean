import Derived.Deep.QuietTactic
import Derived.BigQuiet
import Derived.StillTailTactics
import Derived.Test.YtojimgbcghiblaaGreatDoorShelf
import Derived.Shelf.Strings.Builder1
import Derived.PlainAid
import Derived.Test.YtojimgbcghiblaaGreatDoorL5
set_option linter.unusedVariables false
set_option maxRecDepth 100000
set_option maxHeartbeats 8000000
namespace Go.Proofs.YtojimgbcghiblaaGreatDoor
open Go.RowKit
theorem zgA {P : Program} {ops : Array Oper} {Q : Exit -> Act -> World -> Prop} {i : Nat} {o : Oper} {D : List (Nat × Nat)} {a A : Act} {u : Nat -> Value} {w : World} {K : Act -> World -> Prop} (hA : puts D a u = A) (ho : ops[i]? = some o) (j d : Nat) (b : Bool) (hgd : o.guard = some (j, b)) (hd : (ops[j]?).bind (·.dst) = some d) (hJ : u j = .bool b)
 (h : ∀ K' : Act -> World -> Prop, (∀ a w, K a w -> K' a w) -> o.wp P A w K' Q) (h1 : (D.map (·.2)).Nodup := by decide) (h2 : (j, d) ∈ D := by decide) (h3 : Nat.blt d a.tmps.size = true := by kernel_rfl) : wpOp P ops Q i K A w := by
 subst hA; exact zg ho j d b hgd hd hJ h h1 h2 h3
theorem zkA {P : Program} {ops : Array Oper} {Q : Exit -> Act -> World -> Prop} {i : Nat} {o : Oper} {D : List (Nat × Nat)} {a A : Act} {u : Nat -> Value} {w : World} {K : Act -> World -> Prop} (hA : puts D a u = A) (ho : ops[i]? = some o) (j d : Nat) (b : Bool) (hgd : o.guard = some (j, b)) (hd : (ops[j]?).bind (·.dst) = some d) (hJ : u j = .bool !b)
 (h : K (A.put o.dst undef) w) (h1 : (D.map (·.2)).Nodup := by decide) (h2 : (j, d) ∈ D := by decide) (h3 : Nat.blt d a.tmps.size = true := by kernel_rfl) : wpOp P ops Q i K A w := by
 subst hA; exact zk ho j d b hgd hd hJ h h1 h2 h3
end Go.Proofs.YtojimgbcghiblaaGreatDoor
namespace Go.Proofs.YtojimgbcghiblaaGreatDoor
section
open Go.RowKit
end
section
open Go.RowKit GfMath PolyMath
end
section
open Go.RowKit GfMath PolyMath RsMath
end
section
open Go.RowKit GfMath PolyMath RsMath SolMath
theorem zbfc (l : List Nat) : nats l = ints (l.map fun n : Nat => (n : Int)) := by simp [nats, ints]
theorem zbmp (x y z : Value) (w : World) (Q : Value -> Value -> Value -> World -> Prop)
  (h : Calls Tryz.prog 135 #[x, y, z, .func (.func 136) #[] #[]] w fun e w' => ∃ p q r, e = .returned (.tuple #[p, q, r]) ∧ Q p q r w') :
  Calls Tryz.prog 107 #[x, y, z] w fun e w' => ∃ p q r, e = .returned (.tuple #[p, q, r]) ∧ Q p q r w' := by
 have HM := zh h
 clear h
 go_enter Tryz.func107, Tryz.ntmps107
 go_wp2_with (go_at_call 135; (with_reducible refine HM.out.mono ?_); rintro e w1 ⟨p, q, r, rfl, hq⟩; have HQ := zh hq; clear hq)
 go_ret3
 exact ⟨_, _, _, rfl, HQ.out⟩
theorem zbfb {B : Nat} {d : Md} {n : Nat} {e : Ending} {w : World} (h : Mdd B d n e w) : ∃ p q r, e = .returned (.tuple #[p, q, r]) := by
 cases d with
 | arg => exact ⟨_, _, _, h⟩
 | bad => exact ⟨_, _, _, h⟩
 | ok m l => obtain ⟨_, _, _, h, _⟩ := h; exact ⟨_, _, _, h⟩
theorem zbjf (c b k p : Nat) (wb wo cw : Nat) (W : List Nat) (ea : Option Addr) (ecap : Nat) (er : List Int) (w : World) (h : Cod w c b k p) (hWl : W.length = k + p) (hWc : W.length <= cw) (hW8 : By W) (hW : Lies w w.heap.size (some ⟨wb, wo, none⟩) (u8s W)) (hel : er.length <= 1000) (her : Lies w w.heap.size ea (ints er)) :
  Calls Tryz.prog 107 #[.pointer (some ⟨c, 0, none⟩), .slice (some ⟨wb, wo, none⟩) (k + p) cw, .slice ea er.length ecap] w fun e w' =>
   Mdd w.heap.size (mendF masseyF (k + p) p W er) (k + p) e w' ∧ Below w.heap.size w w' :=
 (zbmp _ _ _ w (fun x y z w' => Mdd w.heap.size (mendF masseyF (k + p) p W er) (k + p) (.returned (.tuple #[x, y, z])) w' ∧ Below w.heap.size w w') ((zsq c b k p wb wo cw W ea ecap er w h hWl hWc hW8 hW hel her).mono fun e w' ⟨h1, h2⟩ => by
  obtain ⟨x, y, z, rfl⟩ := zbfb h1
  exact ⟨x, y, z, rfl, h1, h2⟩)).mono fun e w' ⟨x, y, z, h1, h2, h3⟩ => ⟨by rw [h1]; exact h2, h3⟩
end
section
open Go.RowKit
theorem Row.resultT {w : World} {g : Nat} {t : TypeId} {l : List Value} (h : Row w g t l) {fn : Func} {p q : Tmp} {ty : TypeId} (hf : fn.results = #[.cell p ty, .tmp q]) (tmps : Array Value) (d : TypeDesc)
  (hp : tmps.getD p undef = .pointer (some ⟨g, 0, none⟩)) (hu : Tryz.prog.underlying ty = some d) (hd : d.isRow = true) (hi : (Tryz.prog.info? ty).map (·.size) = some l.length) :
  (results fn tmps).run Tryz.prog w = .ok (.tuple #[.agg l.toArray, tmps.getD q undef]) w := by
 have hp' : tmps[p]?.getD undef = .pointer (some ⟨g, 0, none⟩) := by simpa using hp
 have := run_loadVar_row (P := Tryz.prog) w g t ty l.toArray (0, 0) d h hu (by cases d <;> simp_all) (by simpa using hi)
 simp [results, hf, hp', asAddr, this]
end
section
open Go.RowKit CrcMath
theorem zeq : ∀ u, (zeroValue 40).run Tryz.prog u = .ok (.agg (bytes (List.replicate 60 0)).toArray) u := fun u => by kernel_rfl
theorem fits_block : Fits Tryz.prog 40 60 := ⟨⟨_, Tryz.underlying40, rfl⟩, by kernel_rfl⟩
theorem zoc : One Tryz.prog 5 := One.of (by kernel_rfl)
theorem zki (s : ByteArray) (w : World) (hs : s.size <= 140737488355328) :
  Calls Tryz.prog 58 #[.string s] w fun e w' => e = .returned (.tuple #[.agg (bytes (blk s.data.toList)).toArray, .string (str (s.data.toList.drop 60))]) ∧ Below w.heap.size w w' := by
 obtain ⟨O, hO⟩ : ∃ O : List UInt8, O = List.replicate 60 0 := ⟨_, rfl⟩
 obtain ⟨B, hB⟩ : ∃ B, B = bytes (blk s.data.toList) := ⟨_, rfl⟩
 obtain ⟨n, hn⟩ : ∃ n, n = Nat.min s.size 60 := ⟨_, rfl⟩
 obtain ⟨Y, hY⟩ : ∃ Y : List Value, Y = bytes (List.replicate n 0) := ⟨_, rfl⟩
 obtain ⟨Z, hZ⟩ : ∃ Z : List Value, Z = bytes (List.replicate (60 - n) 0) := ⟨_, rfl⟩
 obtain ⟨X, hX⟩ : ∃ X, X = s.extract n s.size := ⟨_, rfl⟩
 have hn1 : n <= s.size := by rw [hn]; exact Nat.min_le_left _ _
 have hn2 : n <= 60 := by rw [hn]; exact Nat.min_le_right _ _
 have hnc : (n = s.size ∧ s.size <= 60) ∨ (n = 60 ∧ 60 <= s.size) := by
  have h : n = min s.size 60 := hn
  omega
 have hsl := zak s
 have HZ0 : Hid (∀ u, (zeroValue 40).run Tryz.prog u = .ok (.agg (bytes O).toArray) u) := zh (by rw [hO]; exact zeq)
 have HOY : Hid (bytes O = [] ++ Y ++ Z) := zh (by rw [hO, hY, hZ, List.nil_append, <- zai, List.replicate_append_replicate, show n + (60 - n) = 60 by omega])
 have HBY : Hid ([] ++ bytes (s.data.toList.take n) ++ Z = B) := zh (by
  rw [hB, hZ, List.nil_append, <- zai, blk, zak]
  congr 2
  .rcases hnc with h | h
   .rw [h.1, List.take_of_length_le (by omega), List.take_of_length_le (by omega)]
   .rw [h.1]
  .congr 1
   omega)
 have HN : Hid (Nat.min s.size 60 = n) := zh hn.symm
 have LY : Hid (Y.length = n) := zh (by rw [hY, zaa, List.length_replicate])
 have LB : Hid (B.length = 60) := zh (by rw [hB, zaa, blk_length])
 have LO : Hid ((bytes O).length = 60) := zh (by rw [hO, zaa, List.length_replicate])
 have HB1 : Hid (B.all (·.oneCell') = true) := zh (by rw [hB]; exact zbo _)
 have HXE : Hid (X = str (s.data.toList.drop 60)) := zh (by
  have e : X.data.toList = s.data.toList.drop 60 := by
   rw [hX, ByteArray.data_extract]
   simp only [Array.toList_extract]
   rw [List.extract_eq_take_drop, <- hsl]
   rcases hnc with h | h
   .rw [List.drop_of_length_le (by omega), List.drop_of_length_le (by omega), List.take_nil]
   .rw [h.1, List.take_of_length_le (by simp)]
  rw [<- e, zfu])
 rw [<- hB, <- HXE.out]
 have HXX : Hid (s.extract n s.size = X) := zh hX.symm
 have hn3 : (n : Int) <= (s.size : Int) := by omega
 clear hO hB hn hY hZ hnc hsl hX
 go_enter Tryz.func58, Tryz.ntmps58
 go_wp2_with (first
  | ((with_reducible refine wpAllocK (w := w) (bytes O) 40 HZ0.out ?_ ?_); rfl; intro u1 r1 b1 s1; have R1 := zh r1; have B1 := zh b1; have S1 := zh s1; clear r1 b1 s1)
  | ((with_reducible refine wpAllocK (w := u1) (bytes O) 40 HZ0.out ?_ ?_); rfl; intro u2 r2 b2 s2; rw [HOY.out] at r2; have R2 := zh r2; have Q2 := zh (R1.out.step b2); have B2 := zh (B1.out.next b2); have S2 := zh s2; clear r2 b2 s2)
  | ((with_reducible refine R2.out.wpCopyK (s := s) (dLen := 60) rfl 9 60 Tryz.underlying107 zoc HN.out LY.out ?_ ?_); rfl; intro u3 r3 o3 s3; rw [HBY.out] at r3; have R3 := zh r3; have Q3 := zh (Q2.out.only o3 (by have := S1.out; omega)); have B3 := zh (B2.out.trans (o3.below B1.out.size B2.out.size)); clear r3 o3 s3))
 refine zkg 4 0 [1, 2, 3, 5] (by decide) [(0, 9), (1, 10), (2, 11), (3, 12), (5, 3)]
  (fun ii => [Is (.agg (B).toArray), Is (.string s), Is (.int .i64 (n : Int)), Is (.string X), Is undef, Is (.string X)].getD ii (Is undef))
  (fun w' => Below u3.heap.size u3 w') (fun _ w' => Below w.heap.size w w' ∧ Row w' w.heap.size 40 B) (by kernel_rfl) (by decide) (by kernel_rfl) (by kernel_rfl) (by decide) (by decide) (by kernel_rfl) rfl (by kernel_rfl) ?monoA ((zb).drew) ?stepA ?stepXA ?stepSA ?finA
 case monoA =>
  intro i
  match i with
  | 0 | 1 | 2 | 3 | 4 | 5 => exact Is.monot _
  | _ + 6 => exact Is.monot _
 case stepA =>
  refine zf ⟨?As0, zf ⟨?As1, zf ⟨?As2, zf ⟨?As3, zf ⟨?As5, List.forall_mem_nil _⟩⟩⟩⟩⟩
  case As0 =>
   intro _; intro u wx hg hC; clear hC; generalize hA : puts [(0, 9), (1, 10), (2, 11), (3, 12), (5, 3)] _ u = A
   have hp : A.tmps.getD 4 undef = (.pointer (some ⟨u1.heap.size, 0, none⟩)) := by rw [<- hA]; exact (zci u _ _ 4 (by decide)).trans (by rfl)
   have hsz : 9 < A.tmps.size := by rw [<- hA]; exact zaq u (by kernel_rfl)
   refine wpOp_step rfl fun K hK => ?_
   clear hA; exact opLoadK (φ := Is (.agg (B).toArray)) (R3.out.step hg) _ (fits_block) (LB.out) 9 rfl hsz hK (.tmp 4) rfl hp rfl hg
  case As1 | As2 =>
   intro _; intro u wx hg hC; clear hC; refine wpOp_step rfl fun K hK => ?_
   simp only [puts, List.foldl]; go_simp; exact zK hK hg
  case As3 =>
   intro _; intro u wx hg hC; have hJ1 := zj hC 1; have hJ2 := zj hC 2; clear hC
   have hxx : s.extract n s.size = X := HXX.out
   refine wpOp_step rfl fun K hK => ?_
   simp only [puts, List.foldl]; go_simp; exact zK hK hg
  case As5 =>
   intro hw; exact Bool.noConfusion (hw.symm.trans (show waitsB _ 5 4 = true by kernel_rfl))
 case stepXA =>
  refine zf ⟨?Ax0, zf ⟨?Ax1, zf ⟨?Ax2, zf ⟨?Ax3, zf ⟨?Ax5, List.forall_mem_nil _⟩⟩⟩⟩⟩
  case Ax0 =>
   intro hx; exact absurd hx (by decide)
  case Ax1 | Ax2 =>
   intro _ u wx hh hC; clear hC; refine wpOp_step rfl fun K hK => ?_
   simp only [puts, List.foldl]; go_simp; exact hK _ _ ⟨rfl, ⟨wx, rfl⟩, hh⟩
  case Ax3 =>
   intro _ u wx hh hC
   have hJ1 : u 1 = (.string s) := by obtain ⟨_, hq⟩ := hC.at 1 (by kernel_rfl) (by decide); exact hq
   have hJ2 : u 2 = (.int .i64 (n : Int)) := by obtain ⟨_, hq⟩ := hC.at 2 (by kernel_rfl) (by decide); exact hq
   clear hC
   have hxx : s.extract n s.size = X := HXX.out
   refine wpOp_step rfl fun K hK => ?_
   simp only [puts, List.foldl]; go_simp; exact hK _ _ ⟨rfl, ⟨wx, rfl⟩, hh⟩
  case Ax5 =>
   intro _ u wx hh hC
   have hJ3 : u 3 = (.string X) := by obtain ⟨_, hq⟩ := hC.at 3 (by kernel_rfl) (by decide); exact hq
   clear hC; refine wpOp_step rfl fun K hK => ?_
   simp only [puts, List.foldl]; go_simp; exact hK _ _ ⟨rfl, ⟨wx, rfl⟩, hh⟩
 case stepSA =>
  intro u wx hg hC
  have hJ0 : u 0 = .agg B.toArray := hC (0, 9) (by decide) (by decide)
  clear hC
  generalize hA : puts [(0, 9), (1, 10), (2, 11), (3, 12), (5, 3)] _ u = A
  have hp : A.tmps.getD 2 undef = .pointer (some ⟨w.heap.size, 0, none⟩) := by rw [<- hA]; exact (zci u _ _ 2 (by decide)).trans (by rfl)
  have hq : A.tmps.getD 9 undef = .agg B.toArray := by rw [<- hA]; exact (zat u 0 9 _ _ (by decide) (by decide) (by kernel_rfl)).trans hJ0
  refine wpOp_step rfl fun K hK => ?_
  clear hA
  exact opStoreK (Q3.out.step hg) _ B fits_block LO.out LB.out HB1.out hK (.tmp 2) (.tmp 9) rfl hp hq fun w' h1 h2 h3 => ⟨(B3.out.next hg).trans (h2.below (Nat.le_refl _) (B3.out.next hg).size), h1⟩
 case finA =>
  intro u wx hh hφ
  obtain ⟨_, hJ5⟩ : ∃ w1 : World, u 5 = .string X := hφ (5, 3) (by decide)
  simp only [puts, List.foldl]
  rw [hJ5]
  obtain ⟨hb, hr⟩ := hh
  have HR := zh hr
  have HB := zh hb
  clear hr hb
  go_wp2
  exact bodyPost_ret (HR.out.resultT rfl _ _ rfl Tryz.underlying40 rfl (by rw [LB.out]; exact fits_block.size)) rfl ⟨rfl, HB.out⟩
theorem zwh (b : Nat) (l : List UInt8) (w : World) (ht : Tab w b 0) (hb : b < w.heap.size) (hl : l.length = 60) :
  Calls Tryz.prog 42 #[.pointer (some ⟨b, 0, none⟩), .agg (bytes l).toArray] w fun e w' => e = .returned (.string (str (sealB l))) ∧ Below w.heap.size w w' := by
 obtain ⟨L, hL⟩ : ∃ L, L = bytes l := ⟨_, rfl⟩
 obtain ⟨T, hT⟩ : ∃ T, T = str l := ⟨_, rfl⟩
 obtain ⟨S, hS⟩ : ∃ S, S = str (sealB l) := ⟨_, rfl⟩
 have HC : Hid (∀ u g cap, Row u g 40 L -> (convert 107 9 (.slice (some ⟨g, 0, none⟩) 60 cap)).run Tryz.prog u = .ok (.string T) u) := zh fun u g cap h => by
  rw [hT]
  refine conv_bytes g 0 cap l 60 u hl fun j hj => ?_
  rw [Nat.zero_add, h.cell, hL]
  exact zet l j hj
 have hcat : cat [T] = l := by rw [zqa, hT, zca]
 have HSE : Hid (∀ u, Tab u b 0 -> b < u.heap.size -> Calls Tryz.prog 77 #[.pointer (some ⟨b, 0, none⟩), .slice (some ⟨u.heap.size, 0, none⟩) 1 1] (u.alloc (.cells #[.string T] 9)) fun e w' => e = .returned (.string S) ∧ Below u.heap.size u w') := zh fun u h1 h2 => by
  have hz : T.size = 60 := by rw [hT, zbl, hl]
  have := zbkf b 1 1 [T] 9 u rfl h1 h2 (by omega) (Nat.le_refl _) (by intro x hx; rw [List.mem_singleton] at hx; rw [hx, hz]; unfold maxLen; omega) (by rw [hcat, hl]; omega)
  rw [hcat] at this
  rw [hS]
  exact this
 have HT := zh (ht.below (Below.refl _ w) hb)
 have HB := zh hb
 rw [<- hL, <- hS]
 clear hL hT hS hcat ht hb
 go_enter Tryz.func42, Tryz.ntmps42
 go_wp2_with (first
  | ((with_reducible refine wpBoxK (w := w) L 40 ?_ ?_); rfl; intro u1 r1 b1 s1; have hc := HC.out u1 w.heap.size 60 r1; have T1 := zh (HT.out.below b1 HB.out); have L1 : Hid (b < u1.heap.size) := zh (Nat.lt_of_lt_of_le HB.out b1.size); have B1 := zh b1; clear r1 b1 s1)
  | (go_at_call 77; (with_reducible refine (HSE.out u1 T1.out L1.out).mono ?_); rintro e u2 ⟨rfl, b2⟩; have B2 := zh (B1.out.next b2); clear b2))
 go_ret
 exact ⟨rfl, B2.out⟩
theorem zye (p : Value) (x : ByteArray) (n : Int) (s : ByteArray) (r : Bool) (w : World) (hs : s.size <= 140737488355328) (hr : r = (decide (n = 0) && decide (s.size = 64)))
  (hO : ∀ u, Below w.heap.size w u -> Calls Tryz.prog 134 #[p, .string s] u fun e w' => e = .returned (.tuple #[.string x, .int .i64 n]) ∧ Below u.heap.size u w') :
  Calls Tryz.prog 106 #[p, .string s] w fun e w' => e = .returned (.tuple #[.agg (bytes (blk s.data.toList)).toArray, .bool r]) ∧ Below w.heap.size w w' := by
 obtain ⟨O, hOO⟩ : ∃ O : List UInt8, O = List.replicate 60 0 := ⟨_, rfl⟩
 obtain ⟨B, hB⟩ : ∃ B, B = bytes (blk s.data.toList) := ⟨_, rfl⟩
 obtain ⟨X, hX⟩ : ∃ X, X = str (s.data.toList.drop 60) := ⟨_, rfl⟩
 have HZ0 : Hid (∀ u, (zeroValue 40).run Tryz.prog u = .ok (.agg (bytes O).toArray) u) := zh (by rw [hOO]; exact zeq)
 have LB : Hid (B.length = 60) := zh (by rw [hB, zaa, blk_length])
 have LO : Hid ((bytes O).length = 60) := zh (by rw [hOO, zaa, List.length_replicate])
 have HB1 : Hid (B.all (·.oneCell') = true) := zh (by rw [hB]; exact zbo _)
 have HF : Hid (∀ u, Calls Tryz.prog 58 #[.string s] u fun e w' => e = .returned (.tuple #[.agg B.toArray, .string X]) ∧ Below u.heap.size u w') := zh fun u => by rw [hB, hX]; exact zki s u hs
 have HO := zh hO
 rw [<- hB]
 have HR := zh hr
 obtain ⟨a, ha⟩ : ∃ a, a = decide (n = 0) := ⟨_, rfl⟩
 obtain ⟨c, hc⟩ : ∃ c, c = decide (s.size = 64) := ⟨_, rfl⟩
 have HRR : Hid (r = (a && c)) := zh (by rw [hr, ha, hc])
 have h1 : (n == 0) = a := by rw [ha]; by_cases h : n = 0 <;> simp [h]
 have h2 : ((s.size : Int) == 64) = c := by
  rw [hc]
  by_cases h : s.size = 64
  .simp [h]
  .have h' : ¬ (s.size : Int) = 64 := by omega
   simp [h, h']
 clear hOO hB hX hO hr ha hc HR
 cases a
 all_goals cases c
 all_goals
  have hrv := HRR.out
  simp at hrv
  subst hrv
  go_enter Tryz.func106, Tryz.ntmps106
  go_wp2_with (first
   | ((with_reducible refine wpAllocK (w := w) (bytes O) 40 HZ0.out ?_ ?_); rfl; intro u1 r1 b1 s1; have R1 := zh r1; have B1 := zh b1; have S1 := zh s1; clear r1 b1 s1)
   | (go_at_call 134; (with_reducible refine (HO.out u1 B1.out).mono ?_); rintro e u2 ⟨rfl, b2⟩; have B2 := zh (B1.out.next b2); have R2 := zh (R1.out.step b2); clear b2)
   | (go_at_call 58; (with_reducible refine (HF.out u2).mono ?_); rintro e u3 ⟨rfl, b3⟩; have B3 := zh (B2.out.next b3); have R3 := zh (R2.out.step b3); clear b3)
   | ((with_reducible refine wpAllocK (w := u3) (bytes O) 40 HZ0.out ?_ ?_); rfl; intro u4 r4 b4 s4; have Q4 := zh r4; have B4 := zh (B3.out.next b4); have R4 := zh (R3.out.step b4); have S4 := zh s4; clear r4 b4 s4)
   | ((with_reducible refine Q4.out.wpStoreK 40 B fits_block LO.out LB.out HB1.out ?_ ?_); rfl; intro u5 r5 o5 s5; have Q5 := zh r5; have B5 := zh (B4.out.trans (o5.below B3.out.size B4.out.size)); have R5 := zh (R4.out.only o5 (by have := S1.out; have := R3.out.lt; omega)); clear r5 o5 s5)
   | ((with_reducible refine Q5.out.wpLoadK 40 fits_block LB.out ?_ ?_); rfl)
   | ((with_reducible refine R5.out.wpStoreK 40 B fits_block LO.out LB.out HB1.out ?_ ?_); rfl; intro u6 r6 o6 s6; have R6 := zh r6; have B6 := zh (B5.out.trans (o6.below (Nat.le_refl _) B5.out.size)); clear r6 o6 s6))
  exact bodyPost_ret (R6.out.resultT rfl _ _ rfl Tryz.underlying40 rfl (by rw [LB.out]; exact fits_block.size)) rfl ⟨rfl, B6.out⟩
theorem zwg (b : Nat) (s : ByteArray) (w : World) (ht : Tab w b 0) (hb : b < w.heap.size) (hs : s.size <= 140737488355328) :
  Calls Tryz.prog 106 #[.pointer (some ⟨b, 0, none⟩), .string s] w fun e w' => e = .returned (.tuple #[.agg (bytes (blk s.data.toList)).toArray, .bool (rightT s.data.toList)]) ∧ Below w.heap.size w w' :=
 zye _ _ _ s _ w hs (by rw [rightT, zak]) fun u hu => zbjj b s u (ht.below hu hb) (Nat.lt_of_lt_of_le hb hu.size) hs
end
section
open Go.RowKit
def Bd (B b : Nat) (l : List UInt8) (w : World) : Prop := Lib.IsBuilder 188 5 B b (bytes l) w
theorem Bd.below {B b : Nat} {l : List UInt8} {w w' : World} (h : Bd B b l w) (hb : Below w.heap.size w w') : Bd B b l w' := by
 have key : ∀ p, Lib.BuilderAt 188 5 B b p (bytes l) w -> Lib.BuilderAt 188 5 B b p (bytes l) w' := by
  rintro p ⟨h1, v, h2, h3, h4⟩
  exact ⟨h1, v, (hb.block b (Array.getElem?_eq_some_iff.1 h2).1).trans h2, zbi h3 hb, h4⟩
 rcases h with h | h
 .exact Or.inl (key _ h)
 .exact Or.inr (key _ h)
theorem Bd.lt {B b : Nat} {l : List UInt8} {w : World} (h : Bd B b l w) : b < w.heap.size := by
 rcases h with h | h
 .exact h.lt
 .exact h.lt
theorem Bd.new (w : World) : Bd w.heap.size w.heap.size [] (w.alloc (.cells #[.pointer none, .slice none 0 0] 188)) := Lib.fresh_isBuilder _ _ _
end
section
open Go.RowKit CrcMath
theorem layC : Go.Proofs.Lays.n240 Tryz.prog Tryz.lays156_ren := { Tryz.lays156 with }
theorem zbae (B b : Nat) (l : List UInt8) (g cap n : Nat) (m : List UInt8) (w : World) (h : Bd B b l w) (hg : Row w g 40 (bytes m)) (hgb : g ≠ b) (hm : m.length = n) (hm0 : 0 < n) (hlen : Big (l.length + n <= 1099511627776)) (hBw : B <= w.heap.size) :
  Calls Tryz.prog 118 #[.pointer (some ⟨b, 0, none⟩), .slice (some ⟨g, 0, none⟩) n cap] w fun e w' => e = .returned (.tuple #[.int .i64 (n : Int), .nilIface]) ∧ Bd B b (l ++ m) w' ∧ Below B w w' := by
 have HC : Hid (Calls Tryz.prog 145 #[.pointer (some ⟨b, 0, none⟩)] w fun e w' => e = .returned (.tuple #[]) ∧ Lib.BuilderAt 188 5 B b (.pointer (some ⟨b, 0, none⟩)) (bytes l) w' ∧ Below B w w' ∧ Row w' g 40 (bytes m)) := zh <| by
  rcases h with h | h
  .refine (Any.Builder_copyCheck_fresh layC Tryz.Builder_Extra_156.toX72 b w h.cell0 h.shape h.frozen0).mono ?_
   rintro e w' ⟨rfl, rfl⟩
   exact ⟨rfl, h.used _, (Below.refl B w).setCell (p := ⟨b, 0, none⟩) h.1 _, hg.far _ _ hgb⟩
  .refine (Any.Builder_copyCheck_used layC Tryz.Builder_Extra_156.toX72 b w h.cell0).mono ?_
   rintro e w' ⟨rfl, rfl⟩
   exact ⟨rfl, h, Below.refl B _, hg⟩
 have HL : Hid ((bytes l).length = l.length) := zh (zaa l)
 have HM : Hid ((bytes m).length = n) := zh ((zaa m).trans hm)
 have HM1 : Hid ((bytes m).all (·.oneCell') = true) := zh (zbo m)
 have HBA : Hid (bytes (l ++ m) = bytes l ++ bytes m) := zh (zai l m)
 unfold Bd
 rw [HBA.out]
 have hlies : ∀ u, Row u g 40 (bytes m) -> Lies u u.heap.size (some ⟨g, 0, none⟩) (bytes m) := fun u hu _ => ⟨g, 0, rfl, hu.lt, fun j v hj => by rw [Nat.zero_add, hu.cell]; exact hj⟩
 clear HBA h hg
 generalize hL : bytes l = L at HC HL ⊢
 generalize hM : bytes m = M at HC HM HM1 hlies ⊢
 generalize hk : l.length = k at HL hlen
 have HLEN := hlen
 have hmi : 0 < (n : Int) := by omega
 have HM0 := zh hm0
 have HBW := zh hBw
 have HLI := zh hlies
 clear hL hM hk hlies hm hm0 hBw hlen hgb
 go_enter Tryz.func118, Tryz.ntmps118
 go_wp2_with (first
  | (go_at_call 145; (with_reducible refine HC.out.mono ?_); rintro e w1 ⟨rfl, ⟨h1, v, h2, h3, h4⟩, hb1, hr1⟩; rw [HL.out] at h3; have H1 := zh h1; have H2 := zh h2; have H3 := zh h3; have H4 := zh h4; have HB1 := zh hb1; have R1 := zh (HLI.out w1 hr1); have c1 : w1.cell? ⟨b, 1, none⟩ = some v := (by rw [Lib.cell_of_heap h2]; rfl); clear h1 h2 h3 h4 hb1 hr1)
  | ((with_reducible refine wpAppendK (base := B) cap H3.out Tryz.underlying107 zoc R1.out HM.out HM0.out HM1.out HLEN ?_ ?_ ?_); exact Nat.le_trans HBW.out HB1.out.size; rfl; intro v' w2 o2 g2 q2; obtain ⟨p2, c2, rfl, _⟩ := zjj o2; have hb2 : w2.heap[b]? = some (.cells #[.pointer (some ⟨b, 0, none⟩), v] 188 (0, 0)) := (by rw [g2.block b (Array.getElem?_eq_some_iff.1 H2.out).1 (fun e => H4.out e.symm)]; exact H2.out); have d1 : w2.cell? ⟨b, 1, none⟩ = some v := (by rw [Lib.cell_of_heap hb2]; rfl); have f1 := Lib.frozen_of_heap hb2 1; have HB2 := zh hb2; have O2 := zh o2; have G2 := zh g2; clear o2 g2 q2 hb2))
 go_ret2
 have hl2 : (L ++ M).length = k + n := by rw [List.length_append, HL.out, HM.out]
 refine ⟨rfl, Or.inr (Lib.BuilderAt.put H1.out HB2.out (by rw [hl2]; exact O2.out) (by decide)), ?_⟩
 exact (HB1.out.grown G2.out (Nat.le_trans HBW.out HB1.out.size) (fun q hq => (H3.out.lt q hq).1)).setCell (p := ⟨b, 1, none⟩) H1.out _
theorem Lies.range {w : World} {B : Nat} {b o : Nat} {xs : List Value} (hc : ∀ j u, xs[j]? = some u -> w.cell? ⟨b, o + j, none⟩ = some u) (x y z : List Value) (e : xs = x ++ y ++ z) (i : Nat) (hi : x.length = i) : w.rangeAt b (o + i) y := by
 intro j v hv
 have hj : j < y.length := (List.getElem?_eq_some_iff.1 hv).1
 have := hc (i + j) v (by rw [e, List.append_assoc, List.getElem?_append_right (by omega), <- hi, Nat.add_sub_cancel_left, List.getElem?_append_left hj, hv])
 rwa [<- Nat.add_assoc] at this
theorem zwf (a : Option Addr) (cap : Nat) (L : List (List UInt8)) (w : World) (hL : ∀ b ∈ L, b.length = 60) (hn : L.length <= 100000) (hr : Lies w w.heap.size a (bytes L.flatten)) :
  Calls Tryz.prog 79 #[.slice a L.length cap] w fun e w' => e = .returned (.string (str L.flatten)) ∧ Below w.heap.size w w' := by
 obtain ⟨O, hO⟩ : ∃ O : List UInt8, O = List.replicate 60 0 := ⟨_, rfl⟩
 have HZ0 : Hid (∀ u, (zeroValue 40).run Tryz.prog u = .ok (.agg (bytes O).toArray) u) := zh (by rw [hO]; exact zeq)
 have LO : Hid ((bytes O).length = 60) := zh (by rw [hO, zaa, List.length_replicate])
 have HL := zh hL
 have HR := zh hr
 have HB0 := zh (Bd.new w)
 clear hO hL hr
 go_enter Tryz.func79, Tryz.ntmps79
 go_wp2
 go_loopw [5, 8] (fun _ i wr => ∃ k : Nat, k <= L.length ∧ i = .int .i64 k ∧ Bd w.heap.size w.heap.size (L.take k).flatten wr ∧ Below w.heap.size w wr) (fun _ i _ => L.length - (intOf i).toNat)
 case atStart => exact ⟨0, by omega, rfl, HB0.out, zab _ _⟩
 case round =>
  obtain ⟨k, hk, rfl, hbd, hbw⟩ := hrel
  by_cases hlt : k < L.length
  .have hl60 := HL.out L[k] (List.getElem_mem _)
   obtain ⟨z, e1, e2⟩ := zbid L HL.out k hlt; obtain ⟨bl, off, rfl, hbb, hc⟩ := HR.out (by rw [zaa, zhw L HL.out]; omega)
   obtain ⟨C, hC⟩ : ∃ C, L[k] = C := ⟨_, rfl⟩; rw [hC] at hl60 e1
   have HT : Hid ((L.take (k + 1)).flatten = (L.take k).flatten ++ C) := zh (by rw [zkv L k hlt, hC])
   have HRG : Hid (wr.rangeAt bl (off + k * 60) (bytes C)) := zh (Lies.range (w := wr) (B := 0) (fun j u hj => (hbw.cell (p := ⟨bl, off + j, none⟩) hbb).trans (hc j u hj)) (bytes (L.take k).flatten) (bytes C) (bytes z) (by rw [e1, zai, zai]) (k * 60) (by rw [zaa, e2]; omega))
   have LC : Hid ((bytes C).length = 60) := zh (by rw [zaa, hl60])
   have LC2 := zh hl60
   have HC1 : Hid ((bytes C).all (·.oneCell') = true) := zh (zbo C)
   have HBIG : Big ((L.take k).flatten.length + 60 <= 1099511627776) := ⟨by rw [e2]; omega⟩
   have HBD := zh hbd; have HBW := zh hbw; generalize (L.take k).flatten = D at HT HBIG HBD; generalize hM : bytes C = M at HRG LC HC1; have HM := zh hM; clear hc hl60 e1 e2 hC hbd hbw hM
   go_wp2_with (first
    | ((with_reducible refine wpLoadRK HRG.out 40 fits_block LC.out ?_ ?_); rfl)
    | ((with_reducible refine wpAllocK (w := wr) (bytes O) 40 HZ0.out ?_ ?_); rfl; intro u1 r1 b1 s1; have R1 := zh r1; have W1 := zh b1; have B1 := zh (HBW.out.next b1); clear r1 b1 s1)
    | ((with_reducible refine R1.out.wpStoreK 40 M fits_block LO.out LC.out HC1.out ?_ ?_); rfl; intro u2 r2 o2 s2; rw [<- HM.out] at r2; have R2 := zh r2; have D2 : Hid (Bd w.heap.size w.heap.size D u2) := zh (HBD.out.below (W1.out.trans (o2.below (Nat.le_refl _) W1.out.size))); have B2 := zh (B1.out.trans (o2.below HBW.out.size B1.out.size)); have N2 : Hid (wr.heap.size ≠ w.heap.size) := zh (by have := HBD.out.lt; omega); clear r2 o2 s2)
    | (go_at_call 118; (with_reducible refine (zbae _ _ D _ _ 60 C u2 D2.out R2.out N2.out LC2.out (by decide) HBIG B2.out.size).mono ?_); rintro e u3 ⟨rfl, d3, b3⟩; have D3 := zh d3; have B3 := zh (B2.out.trans b3); clear d3 b3))
   go_roundw
   case rel => exact ⟨k + 1, by omega, by go_num, by rw [HT.out]; exact D3.out, B3.out⟩
   case measure => simp [intOf]; omega
  .have HE : Hid (L.take k = L) := zh (List.take_of_length_le (by omega))
   rw [HE.out] at hbd; have HS := zh (Tryz.Builder_String_any w.heap.size w.heap.size L.flatten wr hbd hbw.size); clear hbd
   go_wp2_with (go_at_call 119; (with_reducible refine HS.out.mono ?_); rintro e w3 ⟨rfl, hb3⟩)
   go_ret; exact ⟨rfl, hbw.trans hb3⟩
def manyF (m : Int) : Nat := (min (max m 0) 64).toNat
theorem zbiz (m : Int) : manyF m <= 64 := by unfold manyF; omega
theorem zgg : (Tryz.prog.info? 40).map (fun i => (i.zero, i.size)) = some (some (.agg (List.replicate 60 (.int .u8 0)).toArray), 60) := by kernel_rfl
theorem zfl : ((Tryz.prog.info? 40).map fun i => decide (i.bytes <= 4096)) = some true := by kernel_rfl
def half (n k : Nat) (l : List UInt8) : List UInt8 := (splitF k l).flatten ++ List.replicate (60 * (n - k)) 0
theorem zmg (k : Nat) (l : List UInt8) : (splitF k l).flatten.length = 60 * k := by rw [zhw _ (zjs k l), zga]
theorem zbeq (n : Nat) (l : List UInt8) : half n 0 l = List.replicate (n * 60) 0 := by simp [half, splitF, Nat.mul_comm]
theorem zbeo (n : Nat) (l : List UInt8) : half n n l = (splitF n l).flatten := by simp [half]
theorem zbik (n k : Nat) (l : List UInt8) (h : k < n) : half n k l = (splitF k l).flatten ++ List.replicate 60 0 ++ List.replicate (60 * (n - (k + 1))) 0 := by
 rw [half, List.append_assoc, List.replicate_append_replicate]
 congr 2
 omega
theorem zbep (n k : Nat) (l : List UInt8) : (splitF k l).flatten ++ blk (l.drop (60 * k)) ++ List.replicate (60 * (n - (k + 1))) 0 = half n (k + 1) l := by
 rw [half, zna, List.flatten_append, List.flatten_cons, List.flatten_nil, List.append_nil]
theorem zsx (s : ByteArray) (m : Int) (w : World) (hs : s.size <= 140737488355328) :
  Calls Tryz.prog 27 #[.string s, .int .i64 m] w fun e w' => ∃ g, e = .returned (.slice (some ⟨g, 0, none⟩) (manyF m) (manyF m)) ∧ w.heap.size <= g ∧ Row w' g 40 (bytes (splitF (manyF m) s.data.toList).flatten) ∧ Below w.heap.size w w' := by
 obtain ⟨l, hl⟩ : ∃ l, l = s.data.toList := ⟨_, rfl⟩
 obtain ⟨n, hn⟩ : ∃ n, n = manyF m := ⟨_, rfl⟩
 have hsl : s = str (l.drop (60 * 0)) := by rw [hl, Nat.mul_zero, List.drop_zero, zfu]
 have hls : l.length <= 140737488355328 := by rw [hl, zak]; exact hs
 have hmn : min (max m 0) 64 = (n : Int) := by rw [hn]; unfold manyF; omega
 have hn64 : n <= 64 := by rw [hn]; exact zbiz m
 rw [<- hl, <- hn]
 have HF : Hid (∀ k u, Calls Tryz.prog 58 #[.string (str (l.drop (60 * k)))] u fun e w' => e = .returned (.tuple #[.agg (bytes (blk (l.drop (60 * k)))).toArray, .string (str (l.drop (60 * (k + 1))))]) ∧ Below u.heap.size u w') := zh fun k u => by
  have := zki (str (l.drop (60 * k))) u (by rw [zbl, List.length_drop]; omega)
  rwa [zca, List.drop_drop, show 60 * k + 60 = 60 * (k + 1) by omega] at this
 have HI := zh zgg
 have HI2 := zh zfl
 have HS := zh hsl
 have HN := zh hn64
 have HMK : Hid (∀ u, Row u w.heap.size 40 (List.replicate (n * 60) (.int .u8 0)) -> Row u w.heap.size 40 (bytes (half n 0 l))) := zh fun u h => by rw [zbeq, zhn]; exact h
 have HMB : Hid (n <= 1000000) := zh (by omega)
 clear hs hls hn hn64 hl hsl
 go_enter Tryz.func27, Tryz.ntmps27
 go_wp2_with ((with_reducible refine wpMakeS 31 40 (.int .u8 0) 60 n Tryz.underlying31 HI.out HI2.out (by decide) HMB.out ?_ ?_); rfl; intro u1 r1 b1 s1; have R1 := zh (HMK.out u1 r1); have B1 := zh b1; clear r1 b1 s1)
 go_loopw [0, 6, 13] (fun t _ i wr => ∃ k : Nat, k <= n ∧ i = .int .i64 k ∧ t = .string (str (l.drop (60 * k))) ∧ Row wr w.heap.size 40 (bytes (half n k l)) ∧ Below w.heap.size w wr) (fun _ _ i _ => n - (intOf i).toNat)
 case atStart => exact ⟨0, by omega, rfl, by rw [<- HS.out], R1.out, B1.out⟩
 case round =>
  obtain ⟨k, hk, rfl, rfl, hrow, hbw⟩ := hrel
  by_cases hlt : k < n
  .rw [zbik n k l hlt, zai, zai] at hrow
   have HNX : Hid (bytes (splitF k l).flatten ++ bytes (blk (l.drop (60 * k))) ++ bytes (List.replicate (60 * (n - (k + 1))) 0) = bytes (half n (k + 1) l)) := zh (by rw [<- zbep, zai, zai])
   have L1 : Hid ((bytes (splitF k l).flatten).length = k * 60) := zh (by rw [zaa, zmg]; omega)
   have L2 : Hid ((bytes (List.replicate 60 0)).length = 60) := zh (by rw [zaa, List.length_replicate])
   have L3 : Hid ((bytes (blk (l.drop (60 * k)))).length = 60) := zh (by rw [zaa, blk_length])
   have H1 : Hid ((bytes (blk (l.drop (60 * k)))).all (·.oneCell') = true) := zh (zbo _)
   have HF2 := zh (HF.out k wr); generalize bytes (blk (l.drop (60 * k))) = B at HNX L3 H1 HF2; generalize bytes (splitF k l).flatten = X at HNX L1 hrow; generalize bytes (List.replicate 60 0) = Y at L2 hrow; generalize bytes (List.replicate (60 * (n - (k + 1))) 0) = Z at HNX hrow; obtain ⟨S, hS⟩ : ∃ S, S = str (l.drop (60 * k)) := ⟨_, rfl⟩; obtain ⟨S2, hS2⟩ : ∃ S, S = str (l.drop (60 * (k + 1))) := ⟨_, rfl⟩; rw [<- hS, <- hS2] at HF2; rw [<- hS]; have HS2 := zh hS2; have HROW := zh hrow; have HBW := zh hbw; clear hrow hbw hS hS2
   go_wp2_with (first
    | (go_at_call 58; (with_reducible refine HF2.out.mono ?_); rintro e u2 ⟨rfl, b2⟩; have R2 := zh (HROW.out.step b2); have B2 := zh (HBW.out.next b2); clear b2)
    | ((with_reducible refine R2.out.wpStoreMidK (k * 60) L1.out 40 B fits_block L2.out L3.out H1.out ?_ ?_); rfl; intro u3 r3 o3 s3; rw [HNX.out] at r3; have R3 := zh r3; have B3 := zh (B2.out.trans (o3.below (Nat.le_refl _) B2.out.size)); clear r3 o3 s3))
   go_roundw
   case rel => exact ⟨k + 1, by omega, by go_num, by rw [HS2.out], R3.out, B3.out⟩
   case measure => simp [intOf]; omega
  .have ek : k = n := by omega
   subst ek; rw [zbeo] at hrow; have HROW := zh hrow; clear hrow; go_wp2; go_ret; exact ⟨_, rfl, Nat.le_refl _, HROW.out, hbw⟩
theorem zxw (A : List UInt8) (w : World) (hA : A.length = 60) :
  Calls Tryz.prog 24 #[.agg (bytes A).toArray] w fun e w' => e = .returned (.string (str A)) ∧ Below w.heap.size w w' := by
 have LA := zh hA
 clear hA
 go_enter Tryz.func24, Tryz.ntmps24
 go_wp2_with (first
  | ((with_reducible refine wpBoxK (w := w) (bytes A) 40 ?_ ?_); rfl; intro u0 r0 b0 s0; have R0 := zh r0; have B0 := zh b0; have S0 := zh s0; clear r0 b0 s0))
 have hown0 : (u0.alloc (.cells #[] 5)).ownsRow u0.heap.size 5 1 (.slice (some ⟨u0.heap.size, 0, none⟩) 0 0) 0 (bytes (A.take 0)) := by
  have h1 : Row (u0.alloc (.cells #[] 5)) u0.heap.size 5 ([] ++ []) := Row.new u0 _ []
  have := h1.owns (base := u0.heap.size) (n := 0) (cap := 0) (Nat.le_refl _) rfl rfl (by omega) (by unfold maxLen; omega)
  simpa [bytes] using this
 have hr1 := R0.out.step (zab u0 (.cells #[] 5))
 have hb1 := B0.out.next (zab u0 (.cells #[] 5))
 have hz1 : u0.heap.size <= (u0.alloc (.cells #[] 5)).heap.size := (zab u0 (.cells #[] 5)).size
 have HOWN := zh hown0
 have HR := zh hr1
 have HB := zh hb1
 have HZ := zh hz1
 obtain ⟨M, hM⟩ : ∃ M, M = u0.heap.size := ⟨_, rfl⟩
 have hMw : w.heap.size < M := by have := S0.out; omega
 clear hown0 hr1 hb1 hz1 R0 B0 S0
 go_loopw [4, 3] (fun i v wr => ∃ k : Nat, k <= 60 ∧ i = .int .i64 k ∧ wr.ownsRow M 5 1 v k (bytes (A.take k)) ∧ Row wr w.heap.size 40 (bytes A) ∧ M <= wr.heap.size ∧ Below w.heap.size w wr) (fun i _ _ => 60 - (intOf i).toNat)
 case atStart => exact ⟨0, by omega, rfl, by rw [hM]; exact HOWN.out, HR.out, by rw [hM]; exact HZ.out, HB.out⟩
 case round =>
  clear HOWN HR HB HZ hM
  obtain ⟨k, hk, rfl, hown, hr, hmw, hbw⟩ := hrel
  by_cases hlt : k < 60
  .have hkA : k < A.length := by rw [LA.out]; exact hlt
   obtain ⟨b, hb⟩ : ∃ b, A[k] = b := ⟨_, rfl⟩
   have hcell : wr.cell? ⟨w.heap.size, k, none⟩ = some (.int .u8 (b.toNat : Int)) := by rw [hr.cell, zet _ _ hkA, hb]
   have HT : Hid (bytes (A.take (k + 1)) = bytes (A.take k) ++ [.int .u8 (b.toNat : Int)]) := zh (by rw [List.take_succ_eq_append_getElem hkA, hb, zai]; rfl)
   have HOWN := zh (hown.alloc (.cells #[.int .u8 (b.toNat : Int)] 5))
   have HL : Hid (Lies (wr.alloc (.cells #[.int .u8 (b.toNat : Int)] 5)) (wr.alloc (.cells #[.int .u8 (b.toNat : Int)] 5)).heap.size (some ⟨wr.heap.size, 0, none⟩) [.int .u8 (b.toNat : Int)]) := zh (Lies.new [_] _ _)
   have HBW := zh (hbw.alloc hbw.size (.cells #[.int .u8 (b.toNat : Int)] 5)); have HR := zh (hr.alloc (.cells #[.int .u8 (b.toNat : Int)] 5))
   have HZZ : Hid (M <= (wr.alloc (.cells #[.int .u8 (b.toNat : Int)] 5)).heap.size) := zh (by simp; omega)
   have HO1 : Hid ((Value.int .u8 (b.toNat : Int)).oneCell' = true) := zh rfl
   have HPK : Big (k + 1 <= 1099511627776) := ⟨by omega⟩
   have HOL : Hid (∀ j, u3.ownBlock = some j -> M <= j) := zh fun j hj => (hown.lt j hj).1
   have hk1 : (k : Int) < 60 := by omega
   clear hown hr hmw hbw hb hkA
   go_wp2_with (first
    | ((with_reducible refine wpAppend1K HOWN.out Tryz.underlying107 zoc HL.out HO1.out HPK HZZ.out ?_ ?_); rfl; intro v1 w1 g1 g2 g3; have HV1 := zh g1; have HG1 := zh g2; clear g1 g2 g3))
   go_roundw
   case rel =>
    have hb1 := HBW.out.grown HG1.out HBW.out.size (fun j hj => by have := HOL.out j hj; omega)
    refine ⟨k + 1, by omega, by go_num, by rw [HT.out]; exact HV1.out, (HG1.out.block w.heap.size HR.out.lt (fun e => by have := HOL.out _ e.symm; omega)).trans HR.out, Nat.le_trans HZZ.out HG1.out.size, hb1⟩
   case measure => simp [intOf]; omega
  .have ek : k = 60 := by omega
   rw [ek, List.take_of_length_le (by rw [LA.out]; omega)] at hown
   have hconv := own_string hown; have HB := zh hbw; clear hown hr hmw hbw ek; go_wp2; go_ret; exact ⟨rfl, HB.out⟩
theorem zkj : (Tryz.prog.info? 5).map (·.size) = some 1 := by kernel_rfl
def fillB (l : List UInt8) (k : Nat) : List UInt8 := l.take k ++ List.replicate (60 - k) 0
theorem zuk (l : List UInt8) (k : Nat) (h : k <= l.length) (h2 : k <= 60) : (fillB l k).length = 60 := by simp [fillB]; omega
theorem zbas (l : List UInt8) (k : Nat) (h : k < l.length) (h2 : k < 60) : (fillB l k).set k l[k] = fillB l (k + 1) := by
 rw [fillB, fillB, List.set_append_right _ _ (by simp; omega)]
 have e : k - (l.take k).length = 0 := by simp; omega
 rw [e, show 60 - k = (60 - (k + 1)) + 1 by omega, List.replicate_succ, List.set_cons_zero, List.take_succ_eq_append_getElem h, List.append_assoc]
 rfl
theorem zbei (l : List UInt8) (k : Nat) (h : k <= l.length) (h2 : k <= 60) (h3 : ¬ (k < 60 ∧ k < l.length)) : fillB l k = blk l := by
 rw [fillB, blk]
 by_cases h4 : k = 60
 .subst h4
  rw [show 60 - l.length = 0 by omega]
 .have e : k = l.length := by omega
  rw [e, List.take_of_length_le (by omega), List.take_of_length_le (by omega)]
theorem zvq (s : ByteArray) (w : World) (hs : s.size <= 140737488355328) :
  Calls Tryz.prog 23 #[.string s] w fun e w' => e = .returned (.agg (bytes (blk s.data.toList)).toArray) ∧ Below w.heap.size w w' := by
 obtain ⟨O, hO⟩ : ∃ O : List UInt8, O = List.replicate 60 0 := ⟨_, rfl⟩
 have HZ0 : Hid (∀ u, (zeroValue 40).run Tryz.prog u = .ok (.agg (bytes O).toArray) u) := zh (by rw [hO]; exact zeq)
 have LO : Hid ((bytes O).length = 60) := zh (by rw [hO, zaa, List.length_replicate])
 have HO1 : Hid ((bytes O).all (·.oneCell') = true) := zh (zbo O)
 have HBU : Hid (Tryz.prog.built 40 [] = some (bytes O).toArray) := zh (by rw [hO]; kernel_rfl)
 have HOF : Hid (bytes O = bytes (fillB s.data.toList 0)) := zh (by rw [hO]; rfl)
 have hsl := zak s
 have HSL := zh hsl
 clear hO hsl
 go_enter Tryz.func23, Tryz.ntmps23
 go_wp2_with (first
  | ((with_reducible refine wpAllocK (w := w) (bytes O) 40 HZ0.out ?_ ?_); rfl; intro u1 r1 b1 s1; have R1 := zh r1; have B1 := zh b1; have S1 := zh s1; clear r1 b1 s1)
  | ((with_reducible refine wpBuildZeroK (bytes O) 40 HBU.out ?_ ?_); rfl)
  | ((with_reducible refine wpAllocK (w := u1) (bytes O) 40 HZ0.out ?_ ?_); rfl; intro u2 r2 b2 s2; have R2 := zh r2; have Q2 := zh (R1.out.step b2); have B2 := zh (B1.out.next b2); clear r2 b2 s2)
  | ((with_reducible refine R2.out.wpStoreK 40 (bytes O) fits_block LO.out LO.out HO1.out ?_ ?_); rfl; intro u3 r3 o3 s3; rw [HOF.out] at r3; have R3 := zh r3; have Q3 := zh (Q2.out.only o3 (by have := S1.out; omega)); have B3 := zh (B2.out.trans (o3.below B1.out.size B2.out.size)); clear r3 o3 s3))
 obtain ⟨g, hg⟩ : ∃ g, g = u1.heap.size := ⟨_, rfl⟩
 rw [<- hg] at R3 ⊢
 have HGW : Hid (w.heap.size < g) := zh (by rw [hg, S1.out]; omega)
 clear hg
 go_loopw [4] (fun i wr => ∃ k : Nat, k <= 60 ∧ k <= s.size ∧ i = .int .i64 k ∧ Row wr g 40 (bytes (fillB s.data.toList k)) ∧ Row wr w.heap.size 40 (bytes O) ∧ Below w.heap.size w wr) (fun i _ => 60 - (intOf i).toNat)
 case atStart => exact ⟨0, by omega, by omega, rfl, R3.out, Q3.out, B3.out⟩
 case round =>
  obtain ⟨k, hk, hks, rfl, hrow, hrow0, hbw⟩ := hrel
  have HR := zh hrow
  have HQ := zh hrow0
  have HB := zh hbw
  clear hrow hrow0 hbw
  by_cases hlt : k < 60 ∧ k < s.size
  .have h1 := hlt.1
   have h2 := hlt.2
   have hi1 : (k : Int) < 60 := by omega
   have hi2 : (k : Int) < (s.size : Int) := by omega
   have HLEN : Hid (k < (bytes (fillB s.data.toList k)).length) := zh (by rw [zaa, zuk _ _ (by rw [HSL.out]; omega) hk]; exact h1)
   have hkl : k < s.data.toList.length := by rw [HSL.out]; exact h2
   have HNX : Hid ((bytes (fillB s.data.toList k)).set k (.int .u8 (s[k].toNat : Int)) = bytes (fillB s.data.toList (k + 1))) := zh (by
    rw [<- zbas s.data.toList k hkl h1, zrh]
    rfl)
   generalize bytes (fillB s.data.toList k) = F at HR HLEN HNX; clear hlt
   go_wp2_with (first
    | ((with_reducible refine HR.out.wpStore1K k 5 (.int .u8 (s[k].toNat : Int)) zkj HLEN.out ?_ ?_ ?_ ?_); rfl; rfl; rfl; intro w2 r2 o2 s2; rw [HNX.out] at r2; have R2 := zh r2; have Q2 := zh (HQ.out.only o2 (by have := HGW.out; omega)); have B2 := zh (HB.out.trans (o2.below (by have := HGW.out; omega) HB.out.size)); clear r2 o2 s2))
   go_roundw
   case rel => exact ⟨k + 1, by omega, by omega, by go_num, R2.out, Q2.out, B2.out⟩
   case measure => simp [intOf]; omega
  .have HE : Hid (bytes (fillB s.data.toList k) = bytes (blk s.data.toList)) := zh (by rw [zbei _ _ (by rw [HSL.out]; exact hks) hk (by rw [HSL.out]; exact hlt)])
   rw [HE.out] at HR
   have LB : Hid ((bytes (blk s.data.toList)).length = 60) := zh (by rw [zaa, blk_length])
   have LB1 : Hid ((bytes (blk s.data.toList)).all (·.oneCell') = true) := zh (zbo _)
   obtain ⟨B, hB⟩ : ∃ B, bytes (blk s.data.toList) = B := ⟨_, rfl⟩; rw [hB] at HR LB LB1 HE; have HBE := zh hB; clear hB
   have hcase : (¬ (k : Int) < 60) ∨ ((k : Int) < 60 ∧ ¬ (k : Int) < (s.size : Int)) := by omega
   clear hlt
   rcases hcase with h1 | ⟨h1, h2⟩
   all_goals
    go_wp2_with (first
     | ((with_reducible refine HR.out.wpLoadK 40 fits_block LB.out ?_ ?_); rfl)
     | ((with_reducible refine HQ.out.wpStoreK 40 B fits_block LO.out LB.out LB1.out ?_ ?_); rfl; intro w2 r2 o2 s2; have R2 := zh r2; have B2 := zh (HB.out.trans (o2.below (Nat.le_refl _) HB.out.size)); clear r2 o2 s2))
    exact bodyPost_ret (R2.out.result rfl _ _ rfl Tryz.underlying40 rfl (by rw [LB.out]; exact fits_block.size)) rfl ⟨by rw [HBE.out], B2.out⟩
def Smr : Value -> World -> Prop := fun v w => ∃ b, v = .pointer (some ⟨b, 0, none⟩) ∧ b < w.heap.size ∧ Tab w b 0
theorem Smr.monot : Monot Smr := fun _ _ _ ⟨b, h1, h2, h3⟩ hb => ⟨b, h1, Nat.lt_of_lt_of_le h2 hb.size, h3.below hb h2⟩
theorem zbnh (w : World) : Calls Tryz.prog 64 #[] w fun e w' => ∃ v, e = .returned v ∧ Smr v w' ∧ Below w.heap.size w w' :=
 (zww w).mono fun e w' ⟨b, h1, h2, h3, h4⟩ => ⟨_, h1, ⟨b, rfl, h2, h3⟩, h4⟩
theorem zbkg (v : Value) (l : List UInt8) (w : World) (h : Smr v w) (hl : l.length = 60) :
  Calls Tryz.prog 42 #[v, .agg (bytes l).toArray] w fun e w' => e = .returned (.string (str (sealB l))) ∧ Below w.heap.size w w' := by
 obtain ⟨b, rfl, h2, h3⟩ := h
 exact zwh b l w h3 h2 hl
theorem zbjk (v : Value) (s : ByteArray) (w : World) (h : Smr v w) (hs : s.size <= 140737488355328) :
  Calls Tryz.prog 106 #[v, .string s] w fun e w' => e = .returned (.tuple #[.agg (bytes (blk s.data.toList)).toArray, .bool (rightT s.data.toList)]) ∧ Below w.heap.size w w' := by
 obtain ⟨b, rfl, h2, h3⟩ := h
 exact zwg b s w h3 h2 hs
theorem zbnn : ∀ w : World, (sizeOf 5).run Tryz.prog w = .ok 1 w := fun w => Tryz.sizeOf5 w
theorem zbnm : ∀ w : World, (isAgg 5).run Tryz.prog w = .ok false w := fun w => Tryz.isAgg5 w
theorem zwe (D E : List UInt8) : (D.map fun b => (b.toNat : Int)) = (E.map fun b => (b.toNat : Int)) ↔ D = E := by
 constructor
 .intro h
  refine List.map_inj_right (f := fun b : UInt8 => (b.toNat : Int)) ?_ |>.1 h
  intro a b hab
  exact UInt8.toNat_inj.1 (by have h2 : (a.toNat : Int) = (b.toNat : Int) := hab; omega)
 .rintro rfl; rfl
theorem zbhr (D E : List UInt8) (hD : D.length = 60) (hE : E.length = 60) (u : World) :
  (Op.equalIn 10000 40 (.agg (bytes D).toArray) (.agg (bytes E).toArray)).run Tryz.prog u = .ok (decide (D = E)) u := by
 have e : ∀ l : List UInt8, bytes l = (l.map fun b => (b.toNat : Int)).map (Value.int .u8) := fun l => by simp [bytes]
 rw [e, e, zir 9998 40 5 60 .u8 _ _ u Tryz.underlying40 Tryz.underlying5 zbnn zbnm (by simpa using hD) (by simpa using hE)]
 congr 1
 exact decide_eq_decide.2 (zwe D E)
end
section
open Go.RowKit CrcMath GfMath PolyMath RsMath SolMath
theorem zbgm : (Tryz.prog.info? 5).map (fun i => (i.zero, i.size, i.bytes)) = some (some (.int .u8 0), 1, 8) ∨ (Tryz.prog.info? 5).map (fun i => (i.zero, i.size, i.bytes)) = some (some (.int .u8 0), 1, 1) := Or.inr zbv
def colP (f : Fb) (n b k : Nat) : List Nat := tab n fun i => if i < k then (f i b).toNat else 0
theorem zbdj (f : Fb) (n b : Nat) : colP f n b 0 = List.replicate n 0 := by rw [zep]; exact zam _ fun i _ => if_neg (by omega)
theorem zbdh (f : Fb) (n b : Nat) : colP f n b n = colF f n b := zam _ fun i hi => if_pos hi
theorem zbdi (f : Fb) (n b k : Nat) : (colP f n b k).set k (f k b).toNat = colP f n b (k + 1) := by
 rw [colP, zdh]
 refine zam _ fun i _ => ?_
 by_cases e : i = k
 .rw [if_pos e, if_pos (by omega), e]
 .rw [if_neg e]
  by_cases h : i < k
  .rw [if_pos h, if_pos (by omega)]
  .rw [if_neg h, if_neg (by omega)]
theorem zgf {w : World} {bl off n : Nat} {f : Fb} (hc : ∀ j u, (bytes (grid n f))[j]? = some u -> w.cell? ⟨bl, off + j, none⟩ = some u) (k : Nat) (hk : k < n) : w.rangeAt bl (off + k * 60) (bytes (bkF f k)) :=
 Lies.range (w := w) (B := 0) hc (bytes (grid k f)) (bytes (bkF f k)) (bytes (grid (n - k - 1) (fun j => f (k + 1 + j)))) (by rw [zjd f hk, zai, zai]) (k * 60) (by rw [zaa, zan])
theorem zlo (a : Option Addr) (cap n : Nat) (f : Fb) (b : Nat) (w : World) (hn : n <= 1000) (hb : b < 60) (hr : Lies w w.heap.size a (bytes (grid n f))) :
  Calls Tryz.prog 108 #[.slice a n cap, .int .i64 (b : Int)] w fun e w' => (∃ g, e = .returned (.slice (some ⟨g, 0, none⟩) n n) ∧ w.heap.size <= g ∧ Row w' g 5 (u8s (colF f n b))) ∧ Below w.heap.size w w' := by
 obtain ⟨O, hO⟩ : ∃ O : List UInt8, O = List.replicate 60 0 := ⟨_, rfl⟩
 have HZ0 : Hid (∀ u, (zeroValue 40).run Tryz.prog u = .ok (.agg (bytes O).toArray) u) := zh (by rw [hO]; exact zeq)
 have LO : Hid ((bytes O).length = 60) := zh (by rw [hO, zaa, List.length_replicate])
 have HR := zh hr
 have HI8 := zh zbgm
 have HZC : Hid ((Value.int .u8 0).cells = #[.int .u8 0]) := zh rfl
 have HNN : Hid (n <= n) := zh (Nat.le_refl _)
 have HNM : Hid (n <= 1099511627776) := zh (by omega)
 have HZR : Hid (List.replicate n (Value.int .u8 0) = u8s (colP f n b 0)) := zh (by rw [zbdj, zer])
 have HB := zh hb
 have hb1 : (b : Int) < 60 := by omega
 have hn1 : (n : Int) <= 1000 := by omega
 clear hO hr hb hn
 go_enter Tryz.func108, Tryz.ntmps108
 go_wp2_with ((with_reducible refine wpMakeK 107 5 (.int .u8 0) n n Tryz.underlying107 HI8.out HZC.out HNN.out HNM.out ?_ ?_); rfl; intro u1 r1 b1 s1; rw [HZR.out] at r1; have R1 := zh r1; have B1 := zh b1; clear r1 b1 s1)
 go_loopw [13] (fun i wr => ∃ k : Nat, k <= n ∧ i = .int .i64 k ∧ Row wr w.heap.size 5 (u8s (colP f n b k)) ∧ Below w.heap.size w wr) (fun i _ => n - (intOf i).toNat)
 case atStart => exact ⟨0, by omega, rfl, R1.out, B1.out⟩
 case round =>
  clear R1 B1
  obtain ⟨k, hk, rfl, hrow, hbw⟩ := hrel
  by_cases hlt : k < n
  .have hki : (k : Int) < (n : Int) := by omega
   obtain ⟨bl, off, rfl, hbb, hc⟩ := HR.out (by rw [zaa, zan]; omega)
   have HRG : Hid (wr.rangeAt bl (off + k * 60) (bytes (bkF f k))) := zh (zgf (fun j u hj => (hbw.cell (p := ⟨bl, off + j, none⟩) hbb).trans (hc j u hj)) k hlt)
   have LM : Hid ((bytes (bkF f k)).length = 60) := zh (by rw [zaa, zba])
   have HM1 : Hid ((bytes (bkF f k)).all (·.oneCell') = true) := zh (zbo _)
   obtain ⟨x, hx⟩ : ∃ x, (f k b).toNat = x := ⟨_, rfl⟩
   have HMB : Hid ((bytes (bkF f k))[b]? = some (.int .u8 (x : Int))) := zh (by rw [<- hx, bytes, List.getElem?_map, zfd _ _ _ HB.out]; rfl)
   have HNX : Hid ((u8s (colP f n b k)).set k (.int .u8 (x : Int)) = u8s (colP f n b (k + 1))) := zh (by rw [zcl, <- hx, zbdi])
   have HLN : Hid (k < (u8s (colP f n b k)).length) := zh (by rw [zaf, colP, zad]; exact hlt)
   have HROW := zh hrow; have HBW := zh hbw; generalize bytes (bkF f k) = M at HRG LM HM1 HMB; generalize u8s (colP f n b k) = F at HROW HNX HLN; clear hrow hbw hc hx hlt
   go_wp2_with (first
    | ((with_reducible refine wpLoadRK HRG.out 40 fits_block LM.out ?_ ?_); rfl)
    | ((with_reducible refine wpAllocK (w := wr) (bytes O) 40 HZ0.out ?_ ?_); rfl; intro u1 r1 b1 s1; have R1 := zh r1; have Q1 := zh (HROW.out.step b1); have B1 := zh (HBW.out.next b1); clear r1 b1 s1)
    | ((with_reducible refine R1.out.wpStoreK 40 M fits_block LO.out LM.out HM1.out ?_ ?_); rfl; intro u2 r2 o2 s2; have hcell : u2.cell? ⟨wr.heap.size, b, none⟩ = some (.int .u8 (x : Int)) := (by rw [r2.cell]; exact HMB.out); have Q2 := zh (Q1.out.only o2 (by have := HROW.out.lt; omega)); have B2 := zh (B1.out.trans (o2.below HBW.out.size B1.out.size)); clear r2 o2 s2)
    | ((with_reducible refine Q2.out.wpStore1K k 5 (.int .u8 (x : Int)) zkj HLN.out ?_ ?_ ?_ ?_); rfl; rfl; rfl; intro u3 r3 o3 s3; rw [HNX.out] at r3; have R3 := zh r3; have B3 := zh (B2.out.trans (o3.below (Nat.le_refl _) B2.out.size)); clear r3 o3 s3))
   go_roundw
   case rel => exact ⟨k + 1, by omega, by go_num, R3.out, B3.out⟩
   case measure => simp [intOf]; omega
  .obtain rfl : k = n := by omega
   rw [zbdh] at hrow; have HROW := zh hrow; have HBW := zh hbw; clear hrow hbw; go_wp2; go_ret; exact ⟨⟨_, rfl, Nat.le_refl _, HROW.out⟩, HBW.out⟩
theorem zxd (N : Nat) (f : Fb) (ys : List Value) (i b : Nat) (v : UInt8) (x : Nat) (hv : v.toNat = x) (hi : i < N) (hb : b < 60) : (bytes (grid N f) ++ ys).set (i * 60 + b) (.int .u8 (x : Int)) = bytes (grid N (setF f i b v)) ++ ys := by
 rw [List.set_append_left _ _ (by rw [zaa, zan]; omega), <- zbij N f i b v hi hb, bytes, bytes, List.map_set, hv]
theorem zup (N : Nat) (f : Fb) (ys : List Value) (i b : Nat) (hi : i < N) (hb : b < 60) : (bytes (grid N f) ++ ys)[i * 60 + b]? = some (.int .u8 ((f i b).toNat : Int)) := by
 rw [List.getElem?_append_left (by rw [zaa, zan]; omega), bytes, List.getElem?_map, zzd _ _ _ _ hi hb]
 rfl
theorem znd (g o n cap N : Nat) (T : TypeId) (f : Fb) (ys : List Value) (b g2 o2 cap2 : Nat) (X : List Nat) (w : World) (hn : n <= 1000) (hN : o + n <= N) (hb : b < 60) (hX : By X) (hXl : X.length = n) (hg : g2 ≠ g)
  (hr : Row w g T (bytes (grid N f) ++ ys)) (hx : Lies w w.heap.size (some ⟨g2, o2, none⟩) (u8s X)) :
  Calls Tryz.prog 109 #[.slice (some ⟨g, o * 60, none⟩) n cap, .int .i64 (b : Int), .slice (some ⟨g2, o2, none⟩) n cap2] w fun e w' => e = .returned (.tuple #[]) ∧ Row w' g T (bytes (grid N (putF f o b X n)) ++ ys) ∧ Only g w w' := by
 have HR : Hid (Row w g T (bytes (grid N (putF f o b X 0)) ++ ys)) := zh (by rw [zbfv]; exact hr)
 have HX8 := zh hX
 have HXL := zh hXl
 have HXX := zh hx
 have HB := zh hb
 have HNN := zh hN
 have HG := zh hg
 have hb1 : (b : Int) < 60 := by omega
 have hn1 : (n : Int) <= 1000 := by omega
 clear hr hX hXl hx hb hN hn hg
 go_enter Tryz.func109, Tryz.ntmps109
 go_wp2
 go_loopw [9] (fun i wr => ∃ k : Nat, k <= n ∧ i = .int .i64 k ∧ Row wr g T (bytes (grid N (putF f o b X k)) ++ ys) ∧ Only g w wr) (fun i _ => n - (intOf i).toNat)
 case atStart => exact ⟨0, by omega, rfl, HR.out, Only.refl _ _⟩
 case round =>
  clear HR
  obtain ⟨k, hk, rfl, hrow, hbw⟩ := hrel
  by_cases hlt : k < n
  .have hki : (k : Int) < (n : Int) := by omega
   obtain ⟨b3, o3, e3, hbb, hc⟩ := HXX.out (by rw [zaf, HXL.out]; omega)
   cases e3
   have hx8 := HX8.out.sq k; obtain ⟨x, hx⟩ : ∃ x, sq X k = x := ⟨_, rfl⟩
   have hcw : w.cell? ⟨g2, o2 + k, none⟩ = some (.int .u8 (x : Int)) := hc k _ (by rw [zbp _ _ (by rw [HXL.out]; exact hlt), <- hx, zar _ _ (by rw [HXL.out]; exact hlt)])
   have hcell : wr.cell? ⟨g2, o2 + k, none⟩ = some (.int .u8 (x : Int)) := by
    rw [<- hcw]
    simp only [World.cell?]
    rw [hbw.2.2.2.2 g2 hbb HG.out]
   have hdst : wr.cell? ⟨g, o * 60 + k * 60 + b, none⟩ = some (.int .u8 ((putF f o b X k (o + k) b).toNat : Int)) := by
    have := zup N (putF f o b X k) ys (o + k) b (by have := HNN.out; omega) HB.out
    rw [hrow.cell, show o * 60 + k * 60 + b = (o + k) * 60 + b by omega]
    exact this
   have hfr : wr.frozen? ⟨g, o * 60 + k * 60 + b, none⟩ = false := hrow.frozen _
   have HNX : Hid ((bytes (grid N (putF f o b X k)) ++ ys).set (o * 60 + k * 60 + b) (.int .u8 (x : Int)) = bytes (grid N (putF f o b X (k + 1))) ++ ys) := zh (by
    rw [show o * 60 + k * 60 + b = (o + k) * 60 + b by omega, zxd N _ ys (o + k) b (UInt8.ofNat x) x (zmv (by rw [<- hx]; exact hx8)) (by have := HNN.out; omega) HB.out, <- hx, zbfu])
   have HROW := zh hrow; have HBW := zh hbw; obtain ⟨y, hy⟩ : ∃ y, ((putF f o b X k (o + k) b).toNat : Int) = y := ⟨_, rfl⟩; rw [hy] at hdst; clear hrow hbw hc hx hlt hcw hy; go_wp2
   go_region
   have R2 : Hid (Row ((wr.setCell ⟨g, o * 60 + k * 60 + b, none⟩ (.int .u8 (x : Int))).drew) g T (bytes (grid N (putF f o b X (k + 1))) ++ ys)) := zh (by
    have h := HROW.out.set (o * 60 + k * 60 + b) (.int .u8 (x : Int)); rw [HNX.out] at h; exact h.drew)
   have O2 : Hid (Only g w ((wr.setCell ⟨g, o * 60 + k * 60 + b, none⟩ (.int .u8 (x : Int))).drew)) := zh (HBW.out.setCell ⟨g, o * 60 + k * 60 + b, none⟩ _ (Or.inl rfl)).drew
   generalize (wr.setCell ⟨g, o * 60 + k * 60 + b, none⟩ (.int .u8 (x : Int))).drew = W2 at *; clear hcell hdst hfr HROW HBW; go_wp2
   go_roundw
   case rel => exact ⟨k + 1, by omega, by go_num, R2.out, O2.out⟩
   case measure => simp [intOf]; omega
  .obtain rfl : k = n := by omega
   have HROW := zh hrow; have HBW := zh hbw; clear hrow hbw; go_wp2
   go_end0
   exact ⟨rfl, HROW.out, HBW.out⟩
end
section
open Go.RowKit
structure Many (P : Program) (e : TypeId) (s : Nat) : Prop where
 row : ∃ i z, P.info? e = some i ∧ i.zero = some z ∧ i.size = s ∧ z.cells.size = s ∧ i.bytes <= 64
theorem Many.of {P : Program} {e : TypeId} {s : Nat} (h : ((P.info? e).map fun i => (i.zero.map fun z => z.cells.size) == some s && i.size == s && decide (i.bytes <= 64)) = some true) : Many P e s := by
 generalize hq : P.info? e = q at h
 match q with
 | none => cases h
 | some i =>
  simp only [Option.map_some, Option.some.injEq, Bool.and_eq_true, beq_iff_eq, decide_eq_true_eq] at h
  obtain ⟨⟨h1, h2⟩, h3⟩ := h
  generalize hz : i.zero = zz at h1
  match zz with
  | none => cases h1
  | some z =>
   simp only [Option.map_some, Option.some.injEq] at h1
   exact ⟨i, z, hq, hz, h2, h1, h3⟩
section
variable {P : Program}
theorem wpAppendM {ops : Array Oper} {rest : List Oper} {o : Oper} {a : Act} {w : World} {Q : Exit -> Act -> World -> Prop} {base n m s : Nat} {T e : TypeId} {v : Value} {xs news : List Value} {p : Option Addr} (c : Nat)
  (hown : w.ownsRow base e s v n xs) (hT : P.underlying T = some (.slice e)) (he : Many P e s) (hs : Lies w w.heap.size p news) (hl : news.length = m * s) (hm : 0 < m) (hs0 : 0 < s) (h1 : news.all (·.oneCell') = true) (hn : Big (n + m <= 1099511627776)) (hbase : base <= w.heap.size)
  (ho : appendOf o a = some (T, T, v, .slice p m c))
  (k : ∀ v' w', w'.ownsRow base e s v' (n + m) (xs ++ news) -> w.grownBy w' v.ownBlock -> (v'.ownBlock = v.ownBlock ∨ v'.ownBlock = some w.heap.size) -> wpList P ops Q rest (a.put o.dst v') w') : wpList P ops Q (o :: rest) a w := by
 obtain ⟨hg, x, y, hop, hx, hy⟩ := zfw ho
 obtain ⟨i, z, hi, hz, h2, h3, h4⟩ := he.row
 obtain ⟨b, off, rfl, hb, hc⟩ := hs (by rw [hl]; exact Nat.mul_pos hm hs0)
 refine wpList_append_own_at w hg x y T hop base e i z s i.bytes hT hi hz h2 rfl h3 hs0 v n xs hx hown ⟨b, off, none⟩ m c news hy hl ?_ (fun u hu => (List.all_eq_true.1 h1) u hu) ?_ ?_ hbase fun v' w' g1 g2 _ g4 => k v' w' g1 g2 g4
 .intro j u hj
  rw [Addr.add_mid]
  exact hc j u hj
 .have := hn.out; unfold maxLen; omega
 .exact Nat.le_trans (Nat.mul_le_mul hn.out h4) (by omega)
end
theorem zfs {w : World} {base s : Nat} {v : Value} {n : Nat} {xs : List Value} {e : TypeId} (h : w.ownsRow base e s v n xs) :
  ∃ a cap, v = .slice a n cap ∧ Lies w w.heap.size a xs := by
 rcases h.2 with ⟨rfl, rfl⟩ | ⟨g, cap, cur, rfl, hb, hh, hr⟩
 .exact ⟨none, 0, rfl, fun h0 => by have := h.1; omega⟩
 .refine ⟨some ⟨g, 0, none⟩, cap, rfl, fun _ => ⟨g, 0, rfl, (Array.getElem?_eq_some_iff.1 hh).1, fun j u hu => ?_⟩⟩
  have := h.cells (g := g) rfl j u hu
  rwa [Addr.add_lit] at this
end
section
open Go.RowKit
section
variable {P : Program}
theorem znw (w : World) (t u ty e : TypeId) (i : TypeInfo) (z : Value) (s : Nat) (k : IntKind) (ht : P.underlying t = some (.slice e)) (hu : P.underlying u = some (.int k)) (hi : P.info? e = some i) (hz : i.zero = some z) (hs : i.size = s)
  (n : Nat) (h0 : 0 < n) (hs0 : 0 < s) (hn : n <= 1099511627776) (hb : i.bytes <= 64) :
  (Builtin.append_ #[t, u] ty #[.slice none 0 0, .int .i64 (n : Int)]).run P w =
   .ok (.slice (some ⟨w.heap.size, 0, none⟩) n (grownCap w n 0 e)) (w.drew.alloc (.cells (Builtin.zeroCells z.cells n ++ Builtin.zeroCells z.cells (grownCap w n 0 e - n)) e)) := by
 have hn0 : n ≠ 0 := by omega
 have hns : n * s ≠ 0 := Nat.mul_ne_zero hn0 (by omega)
 have hw : IntKind.i64.wrap (n : Int) = (n : Int) := by rw [IntKind.wrap_i64]; omega
 have hpos : ¬ (n : Int) < 0 := by omega
 have h63' : ¬ (9223372036854775807 < (n : Int)) := by omega
 have hb1 : n * i.bytes <= 1099511627776 * 64 := Nat.mul_le_mul hn hb
 have hb2 : ¬ (281474976710656 < (n : Int) * (i.bytes : Int)) := by
  have : ((n * i.bytes : Nat) : Int) <= 281474976710656 := by omega
  rw [Int.natCast_mul] at this
  omega
 have h48' : ¬ (281474976710656 < Builtin.nextslicecap n 0 * i.bytes) := by rw [nextslicecap_zero h0]; omega
 simp [Builtin.append_, run_underlying ht, run_underlying hu, asInt, asIntOf, sizeOf, typeInfo, zeroValue, hi, hz, hs, hw, hpos, hb2, Builtin.lenOf, hn0, hns, h63', h48', Question.forced, run_firstCells_none, newRow, grownCap]
theorem wpAppendMadeM {ops : Array Oper} {rest : List Oper} {o : Oper} {a : Act} {w : World} {Q : Exit -> Act -> World -> Prop} {n s : Nat} {T U e : TypeId} (k : IntKind)
  (hT : P.underlying T = some (.slice e)) (hU : P.underlying U = some (.int k)) (he : Many P e s) (h0 : 0 < n) (hs0 : 0 < s) (hn : n <= 1099511627776)
  (ho : appendOf o a = some (T, U, .slice none 0 0, .int .i64 (n : Int)))
  (kk : ∀ c w', n <= c -> w'.ownsRow w.heap.size e s (.slice (some ⟨w.heap.size, 0, none⟩) 0 c) 0 [] -> Below w.heap.size w w' -> wpList P ops Q rest (a.put o.dst (.slice (some ⟨w.heap.size, 0, none⟩) n c)) w') : wpList P ops Q (o :: rest) a w := by
 obtain ⟨hg, x, y, hop, hx, hy⟩ := zfw ho
 obtain ⟨i, z, hi, hz, h2, h3, h4⟩ := he.row
 refine wpList_plain hg fun K hK => ?_
 have hr := znw (P := P) w T U o.type e i z s k hT hU hi hz h2 n h0 hs0 hn h4
 unfold Oper.wp execOp
 simp only [hop, resolve, invoke, builtin, Sem.run_bind, Sem.run_pure, Result.andThen_ok, List.map_toArray, List.map_cons, List.map_nil, hx, hy, hr]
 have hge := grownCap_ge w n 0 e
 have hm : n <= maxLen := by unfold maxLen; omega
 have hle := grownCap_le_maxLen w n 0 e hm
 refine hK _ _ (kk _ _ hge ⟨by simp, .inr ⟨w.heap.size, _, _, rfl, Nat.le_refl _, heap_alloc_new w.drew _, Nat.zero_le _, hle, ?_, by simp⟩⟩ (((zb).drew).alloc (Nat.le_refl _) _))
 rw [Array.size_append, size_zeroCells, size_zeroCells, h3, <- Nat.add_mul]
 congr 1
 omega
end
end
section
open Go.RowKit CrcMath GfMath PolyMath RsMath SolMath
theorem zgi : Many Tryz.prog 40 60 := Many.of (by kernel_rfl)
theorem zvz (n : Nat) (w : World) (h0 : 0 < n) (hn : n <= 1000000) :
  Calls Tryz.prog 138 #[.slice none 0 0, .int .i64 (n : Int)] w fun e w' => (∃ c, e = .returned (.slice (some ⟨w.heap.size, 0, none⟩) 0 c) ∧ w'.ownsRow w.heap.size 40 60 (.slice (some ⟨w.heap.size, 0, none⟩) 0 c) 0 []) ∧ Below w.heap.size w w' := by
 have h1 : ¬ (n : Int) < 0 := by omega
 have h2 : (n : Int) > 0 := by omega
 have h3 : (0 : Int) <= (n : Int) := by omega
 have hnb : (n : Int) <= 1000000 := by omega
 have H0 := zh h0
 have HS0 : Hid (0 < 60) := zh (by omega)
 have HN : Hid (n <= 1099511627776) := zh (by omega)
 go_enter Tryz.func138, Tryz.ntmps138
 go_wp2_with ((with_reducible refine wpAppendMadeM .i64 Tryz.underlying31 Tryz.underlying3 zgi H0.out HS0.out HN.out ?_ ?_); rfl; intro c w1 k1 k2 k3; have K1 : ((0 : Int) <= (c : Int)) := (by omega); have K2 := zh k2; have K3 := zh k3; clear k1 k2 k3)
 go_ret
 exact ⟨⟨_, rfl, K2.out⟩, K3.out⟩
theorem zbjn {w : World} {base g n cap s : Nat} {e : TypeId} {xs : List Value} (h : w.ownsRow base e s (.slice (some ⟨g, 0, none⟩) n cap) n xs) : base <= g ∧ ∃ ys, Row w g e (xs ++ ys) := by
 rcases h.2 with ⟨h1, _⟩ | ⟨g', cap', cur, h1, h2, h3, h4, h5, h6, h7⟩
 .cases h1
 .cases h1
  refine ⟨h2, cur.toList.drop (n * s), ?_⟩
  rw [<- h7, List.take_append_drop]
  exact h3
def cumF (k p j : Nat) : Nat := if j = 0 then 0 else if j = 1 then k else k + p
def catF (f : Fb) (k p j : Nat) : List UInt8 := grid (cumF k p j) (wholeT f k p 0)
theorem zbca (gl gz : Nat) (a : Option Addr) (capa capz k p : Nat) (f : Fb) (w : World) (hk : 0 < k) (hk2 : k <= 1000) (hp : 0 < p) (hp2 : p <= 1000)
  (c0 : w.cell? ⟨gl, 0, none⟩ = some (.slice a k capa)) (c1 : w.cell? ⟨gl, 1, none⟩ = some (.slice (some ⟨gz, 0, none⟩) p capz)) (hra : Lies w w.heap.size a (bytes (grid k f))) (hrz : Row w gz 40 (List.replicate (p * 60) (.int .u8 0))) :
  Calls Tryz.prog 111 #[.slice (some ⟨gl, 0, none⟩) 2 2] w fun e w' =>
   (∃ g c ys, e = .returned (.slice (some ⟨g, 0, none⟩) (k + p) c) ∧ k + p <= c ∧ w.heap.size <= g ∧ Row w' g 40 (bytes (grid (k + p) (wholeT f k p 0)) ++ ys)) ∧ Below w.heap.size w w' := by
 have hgl : gl < w.heap.size := by
  simp only [World.cell?] at c0
  by_cases h : gl < w.heap.size
  .exact h
  .rw [Array.getElem?_eq_none (by omega)] at c0
   cases c0
 have HGL := zh hgl
 have HGET : Hid (∀ j, j < 2 -> ∃ q y c news, w.cell? ⟨gl, j, none⟩ = some (.slice q y c) ∧ Lies w w.heap.size q (bytes news) ∧ news.length = y * 60 ∧ 0 < y ∧ y <= 1000 ∧ cumF k p (j + 1) = cumF k p j + y ∧ catF f k p (j + 1) = catF f k p j ++ news) := zh fun j hj => by
  match j, hj with
  | 0, _ =>
   refine ⟨a, k, capa, grid k f, c0, hra, zan _ _, hk, hk2, by simp [cumF], ?_⟩
   show grid k (wholeT f k p 0) = [] ++ grid k f
   rw [List.nil_append]; exact zbu fun i hi b _ => zeh f k p 0 i b hi
  | 1, _ =>
   refine ⟨_, p, capz, List.replicate (p * 60) 0, c1, ?_, List.length_replicate, hp, hp2, by simp [cumF], ?_⟩
   .intro _
    refine ⟨gz, 0, rfl, hrz.lt, fun j u hu => ?_⟩
    rw [Nat.zero_add, hrz.cell]; rw [zhn] at hu; exact hu
   .show grid (k + p) (wholeT f k p 0) = grid k (wholeT f k p 0) ++ _
    rw [<- zbaw, zbu (g := f) (f := wholeT f k p 0) fun i hi b _ => zeh f k p 0 i b hi]
 have HG := zh (zvz (k + p) w (by omega) (by omega))
 have H0 : Hid (cumF k p 0 = 0) := zh rfl
 have HC0 : Hid (catF f k p 0 = []) := zh rfl
 have H2 : Hid (cumF k p 2 = k + p) := zh rfl
 have HC2 : Hid (catF f k p 2 = grid (k + p) (wholeT f k p 0)) := zh rfl
 have HLE : Hid (∀ j, cumF k p j <= 2000) := zh fun j => by unfold cumF; split; omega; split <;> omega
 have HFL : Hid (0 < k + p) := zh (by omega)
 rw [<- HC2.out]
 obtain ⟨M, hM⟩ : ∃ M, k + p = M := ⟨_, rfl⟩
 rw [hM] at HG H2 HFL ⊢
 generalize cumF k p = cum at *
 generalize catF f k p = catl at *
 clear hM c0 c1 hra hrz hk hk2 hp hp2 HC2 hgl
 go_enter Tryz.func111, Tryz.ntmps111
 go_wp2
 go_loop [3, 11] (fun s i => ∃ j : Nat, j <= 2 ∧ i = .int .i64 j ∧ s = .int .i64 ((cum j : Nat) : Int)) (fun _ i => 2 - (intOf i).toNat)
 case atStart => exact ⟨0, Nat.zero_le _, rfl, by rw [H0.out]; rfl⟩
 case round =>
  obtain ⟨j, hj, rfl, rfl⟩ := hrel
  by_cases hlt : j < 2
  .have hk1 : (j : Int) < 2 := by omega
   obtain ⟨q, y, c, news, hcell, _, _, hy0, hy1, hcum, _⟩ := HGET.out j hlt; have hb1 := HLE.out (j + 1); obtain ⟨x, hx⟩ : ∃ x, cum j = x := ⟨_, rfl⟩; rw [hx] at hcum ⊢; obtain ⟨t, ht2⟩ : ∃ t, x + y = t := ⟨_, rfl⟩; rw [ht2] at hcum
   have hxy : ((x : Int) + (y : Int)) = (t : Int) := by omega
   have hxy0 : ¬ (t : Int) < 0 := by omega
   have hxyw : IntKind.i64.wrap (t : Int) = (t : Int) := by rw [IntKind.wrap_i64]; omega
   have HS2 := zh hcum; clear hcum hb1 hx ht2 hy0 hy1; go_wp2
   go_round
   case rel => exact ⟨j + 1, by omega, by go_num, by rw [HS2.out]⟩
   case measure => simp [intOf]; omega
  .have HJ : Hid (cum j = M) := zh (by rw [show j = 2 by omega, H2.out])
   have hj2 : ¬ (j : Int) < 2 := by omega
   rw [HJ.out]
   go_wp2_with (go_at_call 138; (with_reducible refine HG.out.mono ?_); rintro e w1 ⟨⟨c1, rfl, o1⟩, b1⟩; have O1 := zh o1; have B1 := zh b1; clear o1 b1)
   go_loopw [6, 27] (fun v i wr => ∃ q : Nat, q <= 2 ∧ i = .int .i64 q ∧ wr.ownsRow w.heap.size 40 60 v (cum q) (bytes (catl q)) ∧ Below w.heap.size w wr) (fun _ i _ => 2 - (intOf i).toNat)
   case atStart => exact ⟨0, Nat.zero_le _, rfl, by rw [H0.out, HC0.out]; exact O1.out, B1.out⟩
   case round =>
    clear O1 B1; obtain ⟨z, hz, rfl, hown, hbw⟩ := hrel; obtain ⟨av, cv, rfl, hlv⟩ := zfs hown; clear hlv
    by_cases hlt : z < 2
    .have hk1 : (z : Int) < 2 := by omega
     obtain ⟨q, y, c, news, hc1, hql, hnl, hy0, hy1, hcum, hcat⟩ := HGET.out z hlt
     have hcell : wr.cell? ⟨gl, z, none⟩ = some (.slice q y c) := (hbw.cell (p := ⟨gl, z, none⟩) HGL.out).trans hc1
     have hb1 := HLE.out z; have HQL := zh ((hql.below hbw).mono hbw.size)
     have HNL : Hid ((bytes news).length = y * 60) := zh (by rw [zaa, hnl])
     have HU1 : Hid ((bytes news).all (·.oneCell') = true) := zh (zbo news)
     have HCAT : Hid (bytes (catl (z + 1)) = bytes (catl z) ++ bytes news) := zh (by rw [hcat, zai])
     obtain ⟨x, hx⟩ : ∃ x, cum z = x := ⟨_, rfl⟩; rw [hx] at hown hb1 hcum ⊢
     have HBG : Big (x + y <= 1099511627776) := ⟨by omega⟩
     have HCUM := zh hcum
     have HSZ : Hid (w.heap.size <= wr.heap.size) := zh hbw.size
     have HOWN := zh hown; have HBW := zh hbw
     have HPO : Hid (0 < y) := zh hy0
     have HP60 : Hid (0 < 60) := zh (by omega)
     have HOL : Hid (∀ j, (Value.slice av x cv).ownBlock = some j -> w.heap.size <= j) := zh fun j hj => by
      rcases HOWN.out.2 with ⟨h1, _⟩ | ⟨g', cap', cur, h1, h2, _⟩
      .rw [h1] at hj; cases hj
      .rw [h1] at hj; cases hj; exact h2
     generalize bytes news = NW at HQL HNL HU1 HCAT; clear hcum hcat hown hbw hql hnl hy0 hy1 hb1 hx hc1
     go_wp2_with ((with_reducible refine wpAppendM c HOWN.out Tryz.underlying31 zgi HQL.out HNL.out HPO.out HP60.out HU1.out HBG HSZ.out ?_ ?_); rfl; intro v1 w2 g1 g2 g3; have G1 := zh g1; have G2 := zh g2; clear g1 g2 g3)
     go_roundw
     case rel => exact ⟨z + 1, by omega, by go_num, by rw [HCUM.out, HCAT.out]; exact G1.out, HBW.out.grown G2.out HBW.out.size HOL.out⟩
     case measure => simp [intOf]; omega
    .have HZ : Hid (z = 2) := zh (by omega)
     rw [show z = 2 by omega, H2.out] at hown
     rw [show z = 2 by omega, H2.out]
     have hform : ∃ g c2, Value.slice av M cv = .slice (some ⟨g, 0, none⟩) M c2 ∧ M <= c2 := by
      rcases hown.2 with ⟨_, h2⟩ | ⟨g', cap', cur, h2, h3, _, h5, _⟩
      .have := HFL.out; omega
      .exact ⟨g', cap', h2, h5⟩
     obtain ⟨g, c2, hv, hg⟩ := hform; rw [hv] at hown ⊢; have HOWN := zh (zbjn hown); have HBW := zh hbw; have HGC := zh hg; clear hown hbw hv hg hz hlt; go_wp2; go_ret; obtain ⟨h1, ys, h2⟩ := HOWN.out; exact ⟨⟨g, c2, ys, rfl, HGC.out, h1, h2⟩, HBW.out⟩
end
end Go.Proofs.YtojimgbcghiblaaGreatDoor
namespace Go.Proofs.YtojimgbcghiblaaGreatDoor.GeoMath
structure Gm where
 d : Int
 p : Int
 s : Int
structure Sp where
 n : Int
 lo : Int
 hi : Int
def Sp.ok (s : Sp) : Bool := !(decide (s.n < s.lo) || decide (s.hi < s.n))
def okAll (L : List Sp) : Bool := L.all Sp.ok
def right (g : Gm) : Bool := okAll [⟨g.d, 1, 8⟩, ⟨g.p, 2, 6⟩, ⟨g.s, 1, 8⟩]
structure Rt (g : Gm) : Prop where
 d1 : 1 <= g.d
 d8 : g.d <= 8
 p2 : 2 <= g.p
 p6 : g.p <= 6
 s1 : 1 <= g.s
 s8 : g.s <= 8
theorem zbfi (s : Sp) : s.ok = true ↔ s.lo <= s.n ∧ s.n <= s.hi := by simp [Sp.ok]
theorem zbj (g : Gm) : right g = true ↔ Rt g := by
 rw [right, okAll]
 simp only [List.all_cons, List.all_nil, Bool.and_true, Bool.and_eq_true, zbfi]
 exact ⟨fun ⟨⟨a, b⟩, ⟨c, d⟩, e, f⟩ => ⟨a, b, c, d, e, f⟩, fun ⟨a, b, c, d, e, f⟩ => ⟨⟨a, b⟩, ⟨c, d⟩, e, f⟩⟩
def wide (g : Gm) : Int := if right g = true then g.d + g.p else 0
def slot (g : Gm) : Int := wide g * g.s
def log (g : Gm) : Int := 3 * slot g
def tal (g : Gm) : Int := log g + 16
def all (g : Gm) : Int := if right g = true then tal g + 2 else 0
def room (g : Gm) : Int := if right g = true then max 0 (60 * g.d * g.s - 48) else 0
def askF (g : Gm) (L : List Sp) : Int := if right g = true then (if okAll L = true then 0 else 2) else 1
theorem zes {g : Gm} (h : right g = true) : wide g = g.d + g.p := if_pos h
theorem zrc {g : Gm} (h : right g = false) : wide g = 0 := if_neg (by rw [h]; decide)
theorem zbng {g : Gm} (h : right g = false) : slot g = 0 := by rw [slot, zrc h, Int.zero_mul]
theorem zzx (g : Gm) : 0 <= wide g ∧ wide g <= 14 := by
 cases h : right g with
 | false => rw [zrc h]; decide
 | true =>
  have hr := (zbj g).1 h
  rw [zes h]
  have h1 := hr.d1; have h2 := hr.d8; have h3 := hr.p2; have h4 := hr.p6
  omega
theorem zis (g : Gm) : 0 <= slot g ∧ slot g <= 112 := by
 cases h : right g with
 | false => rw [zbng h]; decide
 | true =>
  have hr := (zbj g).1 h
  have hw := zzx g
  have h1 := hr.s1
  have h8 := hr.s8
  rw [slot]
  refine ⟨Int.mul_nonneg hw.1 (by omega), ?_⟩
  have h2 : wide g * g.s <= 14 * g.s := Int.mul_le_mul_of_nonneg_right hw.2 (by omega)
  omega
def sectQ (g : Gm) (a b c : Int) : Int := askF g [⟨a, 0, 2⟩, ⟨b, 0, g.s - 1⟩, ⟨c, 0, wide g - 1⟩]
def sect (g : Gm) (a b c : Int) : Int := if sectQ g a b c = 0 then a * slot g + c * g.s + b else 0
def halfQ (g : Gm) (a b : Int) : Int := askF g [⟨a, 0, 1⟩, ⟨b, 0, 1⟩]
def half (g : Gm) (a b : Int) : Int := if halfQ g a b = 0 then log g + (a * 2 + b) * 4 else 0
theorem ask_cases (g : Gm) (L : List Sp) : (right g = false ∧ askF g L = 1) ∨ (right g = true ∧ okAll L = false ∧ askF g L = 2) ∨ (right g = true ∧ okAll L = true ∧ askF g L = 0) := by
 rw [askF]
 cases right g <;> cases okAll L <;> simp
theorem zbhe (g : Gm) (L M : List Sp) (h : right g = true -> L = M) : askF g L = askF g M := by
 rw [askF, askF]
 cases hr : right g with
 | false => simp
 | true => rw [h hr]
theorem okAll3 (a b c : Sp) : okAll [a, b, c] = true ↔ (a.lo <= a.n ∧ a.n <= a.hi) ∧ (b.lo <= b.n ∧ b.n <= b.hi) ∧ (c.lo <= c.n ∧ c.n <= c.hi) := by
 simp [okAll, zbfi]
structure SIn (g : Gm) (a b c : Int) : Prop where
 r : Rt g
 a0 : 0 <= a
 a2 : a <= 2
 b0 : 0 <= b
 bs : b < g.s
 c0 : 0 <= c
 cw : c < g.d + g.p
theorem zjo (g : Gm) (a b c : Int) : sectQ g a b c = 0 ↔ SIn g a b c := by
 rw [sectQ]
 rcases ask_cases g [⟨a, 0, 2⟩, ⟨b, 0, g.s - 1⟩, ⟨c, 0, wide g - 1⟩] with ⟨h1, h2⟩ | ⟨h1, h2, h3⟩ | ⟨h1, h2, h3⟩
 .rw [h2]
  refine ⟨fun h => absurd h (by decide), fun h => ?_⟩
  rw [(zbj g).2 h.r] at h1
  cases h1
 .rw [h3]
  refine ⟨fun h => absurd h (by decide), fun h => ?_⟩
  have : okAll [⟨a, 0, 2⟩, ⟨b, 0, g.s - 1⟩, ⟨c, 0, wide g - 1⟩] = true := (okAll3 _ _ _).2 ⟨⟨h.a0, h.a2⟩, ⟨h.b0, by have := h.bs; show b <= g.s - 1; omega⟩, h.c0, by have := h.cw; show c <= wide g - 1; rw [zes h1]; omega⟩
  rw [this] at h2
  cases h2
 .rw [h3]
  refine ⟨fun _ => ?_, fun _ => rfl⟩
  obtain ⟨⟨x1, x2⟩, ⟨x3, x4⟩, x5, x6⟩ := (okAll3 _ _ _).1 h2
  dsimp only at x1 x2 x3 x4 x5 x6
  rw [zes h1] at x6
  exact ⟨(zbj g).1 h1, x1, x2, x3, by omega, x5, by omega⟩
theorem zjr {g : Gm} (h : Rt g) : slot g = (g.d + g.p) * g.s := by rw [slot, zes ((zbj g).2 h)]
end Go.Proofs.YtojimgbcghiblaaGreatDoor.GeoMath
namespace Go.Proofs.YtojimgbcghiblaaGreatDoor
section
open Go.RowKit GeoMath
def spc (s : Sp) : List Value := [.int .i64 s.n, .int .i64 s.lo, .int .i64 s.hi]
def spv (s : Sp) : Value := .agg (spc s).toArray
def SpAt (w : World) (b : Nat) (L : List Sp) : Prop := b < w.heap.size ∧ ∀ i (h : i < L.length), w.rangeAt b (i * 3) (spc L[i])
theorem SpAt.step {w w' : World} {b : Nat} {L : List Sp} (h : SpAt w b L) (hb : Below w.heap.size w w') : SpAt w' b L :=
 ⟨Nat.lt_of_lt_of_le h.1 hb.size, fun i hi j v hj => (hb.cell (p := ⟨b, i * 3 + j, none⟩) h.1).trans (h.2 i hi j v hj)⟩
def Sps (L : List Sp) : Value -> World -> Prop := fun v w => ∃ b, v = .slice (some ⟨b, 0, none⟩) L.length L.length ∧ SpAt w b L
theorem Sps.monot (L : List Sp) : Monot (Sps L) := fun _ _ _ ⟨b, h1, h2⟩ hb => ⟨b, h1, h2.step hb⟩
theorem SpAt.of_row {w : World} {b : Nat} {T : TypeId} {L : List Sp} (h : Row w b T (L.flatMap spc)) : SpAt w b L := by
 refine ⟨h.lt, fun i hi j v hj => ?_⟩
 rw [h.cell]
 have h3 : j < 3 := (List.getElem?_eq_some_iff.1 hj).1
 rw [<- hj]
 clear h hj
 induction L generalizing i with
 | nil => exact absurd hi (by simp)
 | cons x L ih =>
  rw [List.flatMap_cons]
  cases i with
  | zero => rw [List.getElem?_append_left (by show 0 * 3 + j < 3; omega)]; simp
  | succ i =>
   rw [List.getElem?_append_right (by show 3 <= (i + 1) * 3 + j; omega)]
   have := ih i (by simpa using hi)
   rw [show (i + 1) * 3 + j - (spc x).length = i * 3 + j from by show (i + 1) * 3 + j - 3 = _; omega]
   simpa using this
section
variable {P : Program}
theorem wpLoadAtG {ops : Array Oper} {rest : List Oper} {o : Oper} {a : Act} {w : World} {Q : Exit -> Act -> World -> Prop} {g i : Nat} {y : List Value} (hy : w.rangeAt g i y) (ty : TypeId) {n : Nat} (hf : Fits P ty n) (hl : y.length = n)
  (ho : loadOf o a = some (ty, .pointer (some ⟨g, i, none⟩))) (k : wpList P ops Q rest (a.put o.dst (.agg y.toArray)) w) : wpList P ops Q (o :: rest) a w := by
 obtain ⟨hg, x, ho, hx⟩ := zed ho
 obtain ⟨d, hu, hd⟩ := hf.row
 exact wpList_load_mid hg ty x ho g i hx y d hy hu hd (by rw [hl]; exact hf.size) k
end
theorem fits_span : Fits Tryz.prog 116 3 := ⟨⟨_, Tryz.underlying116, rfl⟩, by kernel_rfl⟩
theorem zht : ∀ u, (zeroValue 116).run Tryz.prog u = .ok (.agg [Value.int .i64 0, .int .i64 0, .int .i64 0].toArray) u := fun u => by kernel_rfl
theorem zkm (n many m : Int) (w : World) (hm : wrap64 (many - 1) = m) :
  Calls Tryz.prog 102 #[.int .i64 n, .int .i64 many] w fun e w' => e = .returned (spv ⟨n, 0, m⟩) ∧ Below w.heap.size w w' := by
 have HM := zh hm
 clear hm
 have HV : Hid (Value.agg [Value.int .i64 n, .int .i64 0, .int .i64 (wrap64 (many - 1))].toArray = spv ⟨n, 0, m⟩) := zh (by rw [HM.out]; rfl)
 go_enter Tryz.func102, Tryz.ntmps102
 go_wp2_with (first
  | ((with_reducible refine wpAllocK [Value.int .i64 0, .int .i64 0, .int .i64 0] 116 zht ?_ ?_); rfl; intro w1 r1 b1 s1; have R1 := zh r1; have B1 := zh b1; clear r1 b1 s1)
  | ((with_reducible refine R1.out.wpStoreK 116 [Value.int .i64 n, .int .i64 0, .int .i64 (wrap64 (many - 1))] fits_span rfl rfl rfl ?_ ?_); rfl; intro w2 r2 o2 s2; have R2 := zh r2; have B2 := zh (B1.out.trans (o2.below (Nat.le_refl _) B1.out.size)); clear r2 o2 s2))
 exact bodyPost_ret (R2.out.result rfl _ _ rfl Tryz.underlying116 rfl fits_span.size) rfl ⟨by rw [HV.out], B2.out⟩
theorem zrt {L : List Sp} {k : Nat} (hk : k < L.length) (h : L[k].ok = false) : okAll L = false := List.all_eq_false.2 ⟨_, List.getElem_mem hk, by rw [h]; decide⟩
theorem zbff {L : List Sp} (h : ∀ j (hj : j < L.length), L[j].ok = true) : okAll L = true := List.all_eq_true.2 fun s hs => by
 obtain ⟨j, hj, rfl⟩ := List.mem_iff_getElem.1 hs
 exact h j hj
theorem zkc (b : Nat) (L : List Sp) (w : World) (h : SpAt w b L) (hL : L.length < 1000) :
  Calls Tryz.prog 57 #[.slice (some ⟨b, 0, none⟩) L.length L.length] w fun e w' => e = .returned (.bool (okAll L)) ∧ Below w.heap.size w w' := by
 obtain ⟨n, hn⟩ : ∃ n, L.length = n := ⟨_, rfl⟩
 have HNL := zh hn
 have HH := zh h
 rw [hn] at hL ⊢
 clear h hn
 go_enter Tryz.func57, Tryz.ntmps57
 go_wp2
 go_loopw [7] (fun x wr => ∃ k : Nat, k <= n ∧ x = .int .i64 k ∧ Below w.heap.size w wr ∧ ∀ j (hj : j < L.length), j < k -> L[j].ok = true) (fun x _ => n - (intOf x).toNat)
 case atStart => exact ⟨0, Nat.zero_le _, rfl, zb, fun j hj h => absurd h (by omega)⟩
 case round =>
  obtain ⟨k, hk, rfl, hbl, hall⟩ := hrel
  have HA := zh hall
  have HBL := zh hbl
  clear hall hbl
  by_cases hlt : k < n
  .have hkL : k < L.length := by rw [HNL.out]; exact hlt
   obtain ⟨x, lo, hi, hs⟩ : ∃ x lo hi, L[k] = ⟨x, lo, hi⟩ := ⟨_, _, _, rfl⟩
   have RY : Hid (wr.rangeAt b (k * 3) [Value.int .i64 x, .int .i64 lo, .int .i64 hi]) := zh (by
    have := (HH.out.step HBL.out).2 k hkL
    rwa [hs] at this)
   have HS : Hid (∀ hj : k < L.length, L[k] = ⟨x, lo, hi⟩) := zh fun _ => hs
   have HK := zh hkL; clear hs hkL
   by_cases h1 : x < lo
   .have HG : Hid (okAll L = false) := zh (zrt HK.out (by rw [HS.out HK.out]; simp [Sp.ok, h1]))
    go_wp2_with (first
     | ((with_reducible refine wpLoadAtG RY.out 116 fits_span rfl ?_ ?_); rfl)
     | ((with_reducible refine wpAllocK [Value.int .i64 0, .int .i64 0, .int .i64 0] 116 zht ?_ ?_); rfl; intro w1 r1 b1 s1; have R1 := zh r1; have B1 := zh (HBL.out.next b1); clear r1 b1 s1)
     | ((with_reducible refine R1.out.wpStoreK 116 [Value.int .i64 x, .int .i64 lo, .int .i64 hi] fits_span rfl rfl rfl ?_ ?_); rfl; intro w2 r2 o2 s2; have c0 := r2.cell 0; have c1 := r2.cell 1; have c2 := r2.cell 2; have B2 := zh (B1.out.trans (o2.below HBL.out.size B1.out.size)); clear r2 o2 s2))
    go_ret; exact ⟨zap HG.out.symm, B2.out⟩
   .by_cases h2 : hi < x
    .have HG : Hid (okAll L = false) := zh (zrt HK.out (by rw [HS.out HK.out]; simp [Sp.ok, h2]))
     go_wp2_with (first
      | ((with_reducible refine wpLoadAtG RY.out 116 fits_span rfl ?_ ?_); rfl)
      | ((with_reducible refine wpAllocK [Value.int .i64 0, .int .i64 0, .int .i64 0] 116 zht ?_ ?_); rfl; intro w1 r1 b1 s1; have R1 := zh r1; have B1 := zh (HBL.out.next b1); clear r1 b1 s1)
      | ((with_reducible refine R1.out.wpStoreK 116 [Value.int .i64 x, .int .i64 lo, .int .i64 hi] fits_span rfl rfl rfl ?_ ?_); rfl; intro w2 r2 o2 s2; have c0 := r2.cell 0; have c1 := r2.cell 1; have c2 := r2.cell 2; have B2 := zh (B1.out.trans (o2.below HBL.out.size B1.out.size)); clear r2 o2 s2))
     go_ret; exact ⟨zap HG.out.symm, B2.out⟩
    .have HG : Hid (∀ hj : k < L.length, L[k].ok = true) := zh fun hj => by rw [HS.out hj]; simp [Sp.ok]; omega
     go_wp2_with (first
      | ((with_reducible refine wpLoadAtG RY.out 116 fits_span rfl ?_ ?_); rfl)
      | ((with_reducible refine wpAllocK [Value.int .i64 0, .int .i64 0, .int .i64 0] 116 zht ?_ ?_); rfl; intro w1 r1 b1 s1; have R1 := zh r1; have B1 := zh (HBL.out.next b1); clear r1 b1 s1)
      | ((with_reducible refine R1.out.wpStoreK 116 [Value.int .i64 x, .int .i64 lo, .int .i64 hi] fits_span rfl rfl rfl ?_ ?_); rfl; intro w2 r2 o2 s2; have c0 := r2.cell 0; have c1 := r2.cell 1; have c2 := r2.cell 2; have B2 := zh (B1.out.trans (o2.below HBL.out.size B1.out.size)); clear r2 o2 s2))
     go_roundw
     case rel => exact ⟨k + 1, by omega, by go_num, B2.out, fun j hj h => by
      by_cases e : j = k
      .subst e; exact HG.out hj
      .exact HA.out j hj (by omega)⟩
     case measure => simp [intOf]; omega
  .have HG : Hid (okAll L = true) := zh (zbff fun j hj => HA.out j hj (by rw [HNL.out] at hj; omega))
   go_wp2; go_ret; exact ⟨zap HG.out.symm, HBL.out⟩
end
section
open Go.RowKit GeoMath
def geoV (g : Gm) : Value := .agg #[.int .i64 g.d, .int .i64 g.p, .int .i64 g.s]
theorem fits_geo : Fits Tryz.prog 23 3 := ⟨⟨_, Tryz.underlying23, rfl⟩, by kernel_rfl⟩
theorem zbcf (L : List Sp) (cs : Array Value) (n : Nat) (w : World) (hc : cs = (L.flatMap spc).toArray) (hn : L.length = n) (hL : n < 1000) :
  Calls Tryz.prog 57 #[.slice (some ⟨w.heap.size, 0, none⟩) n n] (w.alloc (.cells cs 116)) fun e w' => e = .returned (.bool (okAll L)) ∧ Below w.heap.size w w' := by
 subst hc
 subst hn
 refine (zkc _ L _ (SpAt.of_row (Row.new w 116 (L.flatMap spc))) hL).mono ?_
 rintro e w' ⟨h1, h2⟩
 exact ⟨h1, (zab w _).next h2⟩
theorem zdj (g : Gm) (w : World) :
  Calls Tryz.prog 26 #[geoV g] w fun e w' => e = .returned (.bool (right g)) ∧ Below w.heap.size w w' := by
 have HX := zh fun w1 => zbcf [⟨g.d, 1, 8⟩, ⟨g.p, 2, 6⟩, ⟨g.s, 1, 8⟩] #[.int .i64 g.d, .int .i64 1, .int .i64 8, .int .i64 g.p, .int .i64 2, .int .i64 6, .int .i64 g.s, .int .i64 1, .int .i64 8] 3 w1 rfl rfl (by decide)
 have HR : Hid (okAll [⟨g.d, 1, 8⟩, ⟨g.p, 2, 6⟩, ⟨g.s, 1, 8⟩] = right g) := zh rfl
 generalize okAll [⟨g.d, 1, 8⟩, ⟨g.p, 2, 6⟩, ⟨g.s, 1, 8⟩] = r at HX HR
 rw [<- HR.out]
 obtain ⟨d, p, s⟩ := g
 dsimp only [geoV] at HX ⊢
 go_enter Tryz.func26, Tryz.ntmps26
 go_wp2_with (first
  | ((with_reducible refine wpBoxK [Value.int .i64 d, .int .i64 p, .int .i64 s] 23 ?_ ?_); rfl; intro w1 r1 b1 s1; have c0 := r1.cell 0; have c1 := r1.cell 1; have c2 := r1.cell 2; have B1 := zh b1; clear r1 b1 s1)
  | (go_at_call 57; (with_reducible refine (HX.out w1).mono ?_); rintro e u1 ⟨rfl, b2⟩; have B2 := zh (B1.out.next b2); clear b2))
 go_ret
 exact ⟨rfl, B2.out⟩
theorem zjv (g : Gm) (w : World) :
  Calls Tryz.prog 17 #[geoV g] w fun e w' => e = .returned (.int .i64 (wide g)) ∧ Below w.heap.size w w' := by
 have HX := zh fun w1 => zdj g w1
 cases hr : right g with
 | false =>
  have HW := zh (zrc hr)
  rw [hr] at HX
  clear hr
  obtain ⟨d, p, s⟩ := g
  dsimp only [geoV] at HX ⊢
  go_enter Tryz.func17, Tryz.ntmps17
  go_wp2_with (first
   | ((with_reducible refine wpBoxK [Value.int .i64 d, .int .i64 p, .int .i64 s] 23 ?_ ?_); rfl; intro w1 r1 b1 s1; have R1 := zh r1; have B1 := zh b1; clear r1 b1 s1)
   | ((with_reducible refine R1.out.wpLoadK 23 fits_geo rfl ?_ ?_); rfl)
   | (go_at_call 26; (with_reducible refine (HX.out w1).mono ?_); rintro e u1 ⟨rfl, b2⟩; have B2 := zh (B1.out.next b2); clear b2))
  go_ret
  exact ⟨zay HW.out.symm, B2.out⟩
 | true =>
  have HW := zh (zes hr)
  have hg := (zbj g).1 hr
  rw [hr] at HX
  clear hr
  obtain ⟨d, p, s⟩ := g
  have h1 := hg.d1
  have h2 := hg.d8
  have h3 := hg.p2
  have h4 := hg.p6
  clear hg
  dsimp only [geoV] at HX h1 h2 h3 h4 ⊢
  go_enter Tryz.func17, Tryz.ntmps17
  go_wp2_with (first
   | ((with_reducible refine wpBoxK [Value.int .i64 d, .int .i64 p, .int .i64 s] 23 ?_ ?_); rfl; intro w1 r1 b1 s1; have R1 := zh r1; have B1 := zh b1; clear r1 b1 s1)
   | ((with_reducible refine R1.out.wpLoadK 23 fits_geo rfl ?_ ?_); rfl)
   | (go_at_call 26; (with_reducible refine (HX.out w1).mono ?_); rintro e u1 ⟨rfl, b2⟩; have R2 := R1.out.step b2; have c0 := R2.cell 0; have c1 := R2.cell 1; have B2 := zh (B1.out.next b2); clear b2 R2))
  go_ret
  exact ⟨zay HW.out.symm, B2.out⟩
theorem zjq (g : Gm) (w : World) :
  Calls Tryz.prog 50 #[geoV g] w fun e w' => e = .returned (.int .i64 (slot g)) ∧ Below w.heap.size w w' := by
 have HX := zh fun w1 => zjv g w1
 have HW : Hid (IntKind.i64.wrap (wide g * g.s) = slot g) := zh (by
  have := zis g
  rw [<- slot, IntKind.wrap_i64]
  omega)
 generalize slot g = sl at HW ⊢
 generalize wide g = wd at HX HW
 obtain ⟨d, p, s⟩ := g
 dsimp only [geoV] at HX HW ⊢
 go_enter Tryz.func50, Tryz.ntmps50
 go_wp2_with ((with_reducible refine wpBoxK [Value.int .i64 d, .int .i64 p, .int .i64 s] 23 ?_ ?_); rfl; intro w1 r1 b1 s1; have R1 := zh r1; have B1 := zh b1; clear r1 b1 s1)
 have HLT : Hid (w.heap.size < w1.heap.size) := zh R1.out.lt
 have C0 : Hid (w1.cell? ⟨w.heap.size, 0, none⟩ = some (.int .i64 d)) := zh (R1.out.cell 0)
 have C1 : Hid (w1.cell? ⟨w.heap.size, 1, none⟩ = some (.int .i64 p)) := zh (R1.out.cell 1)
 have C2 : Hid (w1.cell? ⟨w.heap.size, 2, none⟩ = some (.int .i64 s)) := zh (R1.out.cell 2)
 refine zaj [(0, 3), (1, 4), (2, 5), (3, 6), (4, 7), (5, 2)]
  (fun ii => [Is (.agg #[(.int .i64 d), (.int .i64 p), (.int .i64 s)]), Is (.int .i64 wd), Is (.pointer (some ⟨w.heap.size, 2, none⟩)), Is (.int .i64 s), Is (.int .i64 sl), Is (.int .i64 sl)].getD ii (Is undef))
  (fun w' => Below w1.heap.size w1 w') (by kernel_rfl) (by kernel_rfl) (by decide) (by decide) (by kernel_rfl) rfl ?monoq ((zb).drew) ?stepq ?finq
 case monoq =>
  intro i
  match i with
  | 0 | 1 | 2 | 3 | 4 | 5 => exact Is.monot _
  | _ + 6 => exact Is.monot _
 case stepq =>
  refine zf ⟨?qs0, zf ⟨?qs1, zf ⟨?qs2, zf ⟨?qs3, zf ⟨?qs4, zf ⟨?qs5, List.forall_mem_nil _⟩⟩⟩⟩⟩⟩
  case qs0 =>
   intro u wx hg hC; clear hC
   have hcl0 : wx.cell? ⟨w.heap.size, 0, none⟩ = some (.int .i64 d) := (hg.cell (p := ⟨w.heap.size, 0, none⟩) HLT.out).trans C0.out
   have hcl1 : wx.cell? ⟨w.heap.size, 1, none⟩ = some (.int .i64 p) := (hg.cell (p := ⟨w.heap.size, 1, none⟩) HLT.out).trans C1.out
   have hcl2 : wx.cell? ⟨w.heap.size, 2, none⟩ = some (.int .i64 s) := (hg.cell (p := ⟨w.heap.size, 2, none⟩) HLT.out).trans C2.out
   refine wpOp_step rfl fun K hK => ?_
   simp only [puts, List.foldl]; go_simp; exact zK hK hg
  case qs1 =>
   intro u wx hg hC; have hJ0 := zj hC 0; clear hC; refine wpOp_step rfl fun K hK => ?_
   simp only [puts, List.foldl]; go_simp
   refine (HX.out wx).mono ?_
   rintro e w' ⟨rfl, hb'⟩
   exact hK _ _ ⟨rfl, rfl, hg.next hb', hb'⟩
  case qs2 =>
   intro u wx hg hC; clear hC; refine wpOp_step rfl fun K hK => ?_
   simp only [puts, List.foldl]; go_simp; exact zK hK hg
  case qs3 =>
   intro u wx hg hC; have hJ2 := zj hC 2; clear hC
   have hcl : wx.cell? ⟨w.heap.size, 2, none⟩ = some (.int .i64 s) := (hg.cell (p := ⟨w.heap.size, 2, none⟩) HLT.out).trans C2.out
   refine wpOp_step rfl fun K hK => ?_
   simp only [puts, List.foldl]; go_simp; exact zK hK hg
  case qs4 =>
   intro u wx hg hC; have hJ1 := zj hC 1; have hJ3 := zj hC 3; clear hC
   have hw : IntKind.i64.wrap (wd * s) = sl := HW.out
   refine wpOp_step rfl fun K hK => ?_
   simp only [puts, List.foldl]; go_simp; exact zK hK hg
  case qs5 =>
   intro u wx hg hC; have hJ4 := zj hC 4; clear hC; refine wpOp_step rfl fun K hK => ?_
   simp only [puts, List.foldl]; go_simp; exact zK hK hg
 case finq =>
  intro u wq hbq hφ
  have e2 : u 5 = .int .i64 sl := hφ (5, 2) (by decide)
  clear hφ
  simp only [puts, List.foldl]
  go_simp
  have HBQ := zh (B1.out.next hbq)
  clear hbq e2
  go_wp2
  go_ret
  exact ⟨zay rfl, HBQ.out⟩
theorem zxc (g : Gm) (w : World) :
  Calls Tryz.prog 95 #[geoV g] w fun e w' => e = .returned (.int .i64 (log g)) ∧ Below w.heap.size w w' := by
 have HX := zh fun w1 => zjq g w1
 have HW := zis g
 rw [log]
 generalize slot g = sl at HX HW ⊢
 have h1 := HW.1
 have h2 := HW.2
 clear HW
 obtain ⟨d, p, s⟩ := g
 dsimp only [geoV] at HX ⊢
 go_enter Tryz.func95, Tryz.ntmps95
 go_wp2_with (first
  | ((with_reducible refine wpBoxK [Value.int .i64 d, .int .i64 p, .int .i64 s] 23 ?_ ?_); rfl; intro w1 r1 b1 s1; have R1 := zh r1; have B1 := zh b1; clear r1 b1 s1)
  | ((with_reducible refine R1.out.wpLoadK 23 fits_geo rfl ?_ ?_); rfl)
  | (go_at_call 50; (with_reducible refine (HX.out w1).mono ?_); rintro e u1 ⟨rfl, b2⟩; have B2 := zh (B1.out.next b2); clear b2))
 go_ret
 exact ⟨zay rfl, B2.out⟩
theorem zbfa (g : Gm) : 0 <= log g ∧ log g <= 336 := by have := zis g; rw [log]; omega
theorem zbno (g : Gm) (w : World) :
  Calls Tryz.prog 61 #[geoV g] w fun e w' => e = .returned (.int .i64 (tal g)) ∧ Below w.heap.size w w' := by
 have HX := zh fun w1 => zxc g w1
 have HW := zbfa g
 rw [tal]
 generalize log g = sl at HX HW ⊢
 have h1 := HW.1
 have h2 := HW.2
 clear HW
 obtain ⟨d, p, s⟩ := g
 dsimp only [geoV] at HX ⊢
 go_enter Tryz.func61, Tryz.ntmps61
 go_wp2_with (first
  | ((with_reducible refine wpBoxK [Value.int .i64 d, .int .i64 p, .int .i64 s] 23 ?_ ?_); rfl; intro w1 r1 b1 s1; have R1 := zh r1; have B1 := zh b1; clear r1 b1 s1)
  | ((with_reducible refine R1.out.wpLoadK 23 fits_geo rfl ?_ ?_); rfl)
  | (go_at_call 95; (with_reducible refine (HX.out w1).mono ?_); rintro e u1 ⟨rfl, b2⟩; have B2 := zh (B1.out.next b2); clear b2))
 go_ret
 exact ⟨zay rfl, B2.out⟩
theorem zboo (g : Gm) : 16 <= tal g ∧ tal g <= 352 := by have := zbfa g; rw [tal]; omega
theorem zyo (g : Gm) (w : World) :
  Calls Tryz.prog 32 #[geoV g] w fun e w' => e = .returned (.int .i64 (all g)) ∧ Below w.heap.size w w' := by
 have HX := zh fun w1 => zdj g w1
 have HT := zh fun w1 => zbno g w1
 have HW := zboo g
 rw [all]
 cases hr : right g with
 | false =>
  rw [hr] at HX
  clear hr HW
  obtain ⟨d, p, s⟩ := g
  dsimp only [geoV] at HX HT ⊢
  go_enter Tryz.func32, Tryz.ntmps32
  go_wp2_with (first
   | ((with_reducible refine wpBoxK [Value.int .i64 d, .int .i64 p, .int .i64 s] 23 ?_ ?_); rfl; intro w1 r1 b1 s1; have R1 := zh r1; have B1 := zh b1; clear r1 b1 s1)
   | ((with_reducible refine R1.out.wpLoadK 23 fits_geo rfl ?_ ?_); rfl)
   | (go_at_call 26; (with_reducible refine (HX.out w1).mono ?_); rintro e u1 ⟨rfl, b2⟩; have B2 := zh (B1.out.next b2); clear b2))
  go_ret
  exact ⟨zay rfl, B2.out⟩
 | true =>
  rw [hr] at HX
  clear hr
  generalize tal g = sl at HT HW ⊢
  have h1 := HW.1
  have h2 := HW.2
  clear HW
  obtain ⟨d, p, s⟩ := g
  dsimp only [geoV] at HX HT ⊢
  go_enter Tryz.func32, Tryz.ntmps32
  go_wp2_with (first
   | ((with_reducible refine wpBoxK [Value.int .i64 d, .int .i64 p, .int .i64 s] 23 ?_ ?_); rfl; intro w1 r1 b1 s1; have R1 := zh r1; have B1 := zh b1; clear r1 b1 s1)
   | ((with_reducible refine R1.out.wpLoadK 23 fits_geo rfl ?_ ?_); rfl)
   | ((with_reducible refine R2.out.wpLoadK 23 fits_geo rfl ?_ ?_); rfl)
   | (go_at_call 26; (with_reducible refine (HX.out w1).mono ?_); rintro e u1 ⟨rfl, b2⟩; have R2 := zh (R1.out.step b2); have B2 := zh (B1.out.next b2); clear b2)
   | (go_at_call 61; (with_reducible refine (HT.out _).mono ?_); rintro e u2 ⟨rfl, b3⟩; have B3 := zh (B2.out.next b3); clear b3))
  go_ret
  exact ⟨zay rfl, B3.out⟩
theorem zeo (g : Gm) (w : World) :
  Calls Tryz.prog 18 #[geoV g] w fun e w' => e = .returned (.int .i64 (room g)) ∧ Below w.heap.size w w' := by
 have HX := zh fun w1 => zdj g w1
 rw [room]
 cases hr : right g with
 | false =>
  rw [hr] at HX
  clear hr
  obtain ⟨d, p, s⟩ := g
  dsimp only [geoV] at HX ⊢
  go_enter Tryz.func18, Tryz.ntmps18
  go_wp2_with (first
   | ((with_reducible refine wpBoxK [Value.int .i64 d, .int .i64 p, .int .i64 s] 23 ?_ ?_); rfl; intro w1 r1 b1 s1; have R1 := zh r1; have B1 := zh b1; clear r1 b1 s1)
   | ((with_reducible refine R1.out.wpLoadK 23 fits_geo rfl ?_ ?_); rfl)
   | (go_at_call 26; (with_reducible refine (HX.out w1).mono ?_); rintro e u1 ⟨rfl, b2⟩; have B2 := zh (B1.out.next b2); clear b2))
  go_ret
  exact ⟨zay rfl, B2.out⟩
 | true =>
  have hg := (zbj g).1 hr
  rw [hr] at HX
  clear hr
  obtain ⟨d, p, s⟩ := g
  have h1 := hg.d1
  have h2 := hg.d8
  have h5 := hg.s1
  have h6 := hg.s8
  clear hg
  dsimp only at h1 h2 h5 h6
  obtain ⟨q, hq⟩ : ∃ q, 60 * d * s = q := ⟨_, rfl⟩
  have h3 : 0 <= q := by rw [<- hq]; exact Int.mul_nonneg (by omega) (by omega)
  have h4 : q <= 3840 := by
   have : 60 * d * s <= 480 * s := Int.mul_le_mul_of_nonneg_right (by omega) (by omega)
   omega
  dsimp only [geoV] at HX ⊢
  rw [hq]
  go_enter Tryz.func18, Tryz.ntmps18
  go_wp2_with (first
   | ((with_reducible refine wpBoxK [Value.int .i64 d, .int .i64 p, .int .i64 s] 23 ?_ ?_); rfl; intro w1 r1 b1 s1; have R1 := zh r1; have B1 := zh b1; clear r1 b1 s1)
   | ((with_reducible refine R1.out.wpLoadK 23 fits_geo rfl ?_ ?_); rfl)
   | (go_at_call 26; (with_reducible refine (HX.out w1).mono ?_); rintro e u1 ⟨rfl, b2⟩; have R2 := R1.out.step b2; have c0 := R2.cell 0; have c2 := R2.cell 2; have B2 := zh (B1.out.next b2); clear b2 R2))
  all_goals (go_ret; exact ⟨zay (by omega), B2.out⟩)
theorem zblk (g : Gm) (b : Nat) (L : List Sp) (n : Nat) (w : World) (h : SpAt w b L) (hn : L.length = n) (hL : n < 1000) :
  Calls Tryz.prog 101 #[geoV g, .slice (some ⟨b, 0, none⟩) n n] w fun e w' => e = .returned (.int .i64 (askF g L)) ∧ Below w.heap.size w w' := by
 subst hn
 have HX := zh fun w1 => zdj g w1
 have HY : Hid (∀ w1, Below w.heap.size w w1 -> Calls Tryz.prog 57 #[.slice (some ⟨b, 0, none⟩) L.length L.length] w1 fun e w' => e = .returned (.bool (okAll L)) ∧ Below w1.heap.size w1 w') :=
  zh fun w1 hb => zkc b L w1 (h.step hb) hL
 rw [askF]
 clear h hL
 generalize L.length = n at HY ⊢
 generalize okAll L = r at HY ⊢
 cases hr : right g with
 | false =>
  rw [hr] at HX
  clear hr HY
  obtain ⟨d, p, s⟩ := g
  dsimp only [geoV] at HX ⊢
  go_enter Tryz.func101, Tryz.ntmps101
  go_wp2_with (first
   | ((with_reducible refine wpBoxK [Value.int .i64 d, .int .i64 p, .int .i64 s] 23 ?_ ?_); rfl; intro w1 r1 b1 s1; have R1 := zh r1; have B1 := zh b1; clear r1 b1 s1)
   | ((with_reducible refine R1.out.wpLoadK 23 fits_geo rfl ?_ ?_); rfl)
   | (go_at_call 26; (with_reducible refine (HX.out w1).mono ?_); rintro e u1 ⟨rfl, b2⟩; have B2 := zh (B1.out.next b2); clear b2))
  go_ret
  exact ⟨zay rfl, B2.out⟩
 | true =>
  rw [hr] at HX
  clear hr
  obtain ⟨d, p, s⟩ := g
  cases r with
  | false =>
   dsimp only [geoV] at HX ⊢
   go_enter Tryz.func101, Tryz.ntmps101
   go_wp2_with (first
    | ((with_reducible refine wpBoxK [Value.int .i64 d, .int .i64 p, .int .i64 s] 23 ?_ ?_); rfl; intro w1 r1 b1 s1; have R1 := zh r1; have B1 := zh b1; clear r1 b1 s1)
    | ((with_reducible refine R1.out.wpLoadK 23 fits_geo rfl ?_ ?_); rfl)
    | (go_at_call 26; (with_reducible refine (HX.out w1).mono ?_); rintro e u1 ⟨rfl, b2⟩; have B2 := zh (B1.out.next b2); clear b2)
    | (go_at_call 57; (with_reducible refine (HY.out u1 B2.out).mono ?_); rintro e u2 ⟨rfl, b3⟩; have B3 := zh (B2.out.next b3); clear b3))
   go_ret; exact ⟨zay rfl, B3.out⟩
  | true =>
   dsimp only [geoV] at HX ⊢
   go_enter Tryz.func101, Tryz.ntmps101
   go_wp2_with (first
    | ((with_reducible refine wpBoxK [Value.int .i64 d, .int .i64 p, .int .i64 s] 23 ?_ ?_); rfl; intro w1 r1 b1 s1; have R1 := zh r1; have B1 := zh b1; clear r1 b1 s1)
    | ((with_reducible refine R1.out.wpLoadK 23 fits_geo rfl ?_ ?_); rfl)
    | (go_at_call 26; (with_reducible refine (HX.out w1).mono ?_); rintro e u1 ⟨rfl, b2⟩; have B2 := zh (B1.out.next b2); clear b2)
    | (go_at_call 57; (with_reducible refine (HY.out u1 B2.out).mono ?_); rintro e u2 ⟨rfl, b3⟩; have B3 := zh (B2.out.next b3); clear b3))
   go_ret; exact ⟨zay rfl, B3.out⟩
theorem zbav (g : Gm) (w : World) :
  Calls Tryz.prog 19 #[geoV g] w fun e w' => e = .returned (.tuple #[.int .i64 0, .int .i64 (slot g)]) ∧ Below w.heap.size w w' := by
 have HX := zh fun w1 => zjq g w1
 have HS := zh (zis g)
 generalize slot g = sl at HX HS ⊢
 obtain ⟨d, p, s⟩ := g
 dsimp only [geoV] at HX ⊢
 go_enter Tryz.func19, Tryz.ntmps19
 go_wp2_with ((with_reducible refine wpBoxK [Value.int .i64 d, .int .i64 p, .int .i64 s] 23 ?_ ?_); rfl; intro w1 r1 b1 s1; have R1 := zh r1; have B1 := zh b1; clear r1 b1 s1)
 have HLT : Hid (w.heap.size < w1.heap.size) := zh R1.out.lt
 have C0 : Hid (w1.cell? ⟨w.heap.size, 0, none⟩ = some (.int .i64 d)) := zh (R1.out.cell 0)
 have C1 : Hid (w1.cell? ⟨w.heap.size, 1, none⟩ = some (.int .i64 p)) := zh (R1.out.cell 1)
 have C2 : Hid (w1.cell? ⟨w.heap.size, 2, none⟩ = some (.int .i64 s)) := zh (R1.out.cell 2)
 refine zaj [(0, 4), (1, 5), (2, 6), (3, 7), (4, 8), (5, 9), (6, 2), (7, 3)]
  (fun ii => [Is (.agg #[(.int .i64 d), (.int .i64 p), (.int .i64 s)]), Is (.int .i64 sl), Is (.int .i64 0), Is (.agg #[(.int .i64 d), (.int .i64 p), (.int .i64 s)]), Is (.int .i64 sl), Is (.int .i64 sl), Is (.int .i64 0), Is (.int .i64 sl)].getD ii (Is undef))
  (fun w' => Below w1.heap.size w1 w') (by kernel_rfl) (by kernel_rfl) (by decide) (by decide) (by kernel_rfl) rfl ?monoq ((zb).drew) ?stepq ?finq
 case monoq =>
  intro i
  match i with
  | 0 | 1 | 2 | 3 | 4 | 5 | 6 | 7 => exact Is.monot _
  | _ + 8 => exact Is.monot _
 case stepq =>
  refine zf ⟨?qs0, zf ⟨?qs1, zf ⟨?qs2, zf ⟨?qs3, zf ⟨?qs4, zf ⟨?qs5, zf ⟨?qs6, zf ⟨?qs7, List.forall_mem_nil _⟩⟩⟩⟩⟩⟩⟩⟩
  case qs0 | qs3 =>
   intro u wx hg hC; clear hC
   have hcl0 : wx.cell? ⟨w.heap.size, 0, none⟩ = some (.int .i64 d) := (hg.cell (p := ⟨w.heap.size, 0, none⟩) HLT.out).trans C0.out
   have hcl1 : wx.cell? ⟨w.heap.size, 1, none⟩ = some (.int .i64 p) := (hg.cell (p := ⟨w.heap.size, 1, none⟩) HLT.out).trans C1.out
   have hcl2 : wx.cell? ⟨w.heap.size, 2, none⟩ = some (.int .i64 s) := (hg.cell (p := ⟨w.heap.size, 2, none⟩) HLT.out).trans C2.out
   refine wpOp_step rfl fun K hK => ?_
   simp only [puts, List.foldl]; go_simp; exact zK hK hg
  case qs1 =>
   intro u wx hg hC; have hJ0 := zj hC 0; clear hC; refine wpOp_step rfl fun K hK => ?_
   simp only [puts, List.foldl]; go_simp
   refine (HX.out wx).mono ?_
   rintro e w' ⟨rfl, hb'⟩
   exact hK _ _ ⟨rfl, rfl, hg.next hb', hb'⟩
  case qs2 =>
   intro u wx hg hC; have hJ1 := zj hC 1; clear hC
   have hw : IntKind.i64.wrap (0 * sl) = 0 := by rw [Int.zero_mul]; rfl
   refine wpOp_step rfl fun K hK => ?_
   simp only [puts, List.foldl]; go_simp; exact zK hK hg
  case qs4 =>
   intro u wx hg hC; have hJ3 := zj hC 3; clear hC; refine wpOp_step rfl fun K hK => ?_
   simp only [puts, List.foldl]; go_simp
   refine (HX.out wx).mono ?_
   rintro e w' ⟨rfl, hb'⟩
   exact hK _ _ ⟨rfl, rfl, hg.next hb', hb'⟩
  case qs5 =>
   intro u wx hg hC; have hJ4 := zj hC 4; clear hC
   have hw : IntKind.i64.wrap (1 * sl) = sl := by have := HS.out; rw [Int.one_mul, IntKind.wrap_i64]; omega
   have hw2 : IntKind.i64.wrap sl = sl := by have := HS.out; rw [IntKind.wrap_i64]; omega
   refine wpOp_step rfl fun K hK => ?_
   simp only [puts, List.foldl]; go_simp; exact zK hK hg
  case qs6 =>
   intro u wx hg hC; have hJ2 := zj hC 2; clear hC; refine wpOp_step rfl fun K hK => ?_
   simp only [puts, List.foldl]; go_simp; exact zK hK hg
  case qs7 =>
   intro u wx hg hC; have hJ5 := zj hC 5; clear hC; refine wpOp_step rfl fun K hK => ?_
   simp only [puts, List.foldl]; go_simp; exact zK hK hg
 case finq =>
  intro u wq hbq hφ
  have e2 : u 6 = .int .i64 0 := hφ (6, 2) (by decide)
  have e3 : u 7 = .int .i64 sl := hφ (7, 3) (by decide)
  clear hφ
  simp only [puts, List.foldl]
  go_simp
  have HBQ := zh (B1.out.next hbq)
  clear hbq e2 e3
  go_wp2
  go_ret2
  exact ⟨rfl, HBQ.out⟩
theorem zbni (L : List Sp) (cs : Array Value) (n : Nat) (w : World) (hc : cs = (L.flatMap spc).toArray) (hn : L.length = n) :
  Sps L (.slice (some ⟨w.heap.size, 0, none⟩) n n) (w.alloc (.cells cs 116)) := by
 subst hc
 subst hn
 exact ⟨_, rfl, SpAt.of_row (Row.new w 116 (L.flatMap spc))⟩
theorem zbll (g : Gm) (L : List Sp) (w1 : World) (hL : L.length < 1000) : ∀ (wx : World) v, Sps L v wx ->
  Calls Tryz.prog 101 #[geoV g, v] wx fun e w' => e = .returned (.int .i64 (askF g L)) ∧ Below wx.heap.size wx w' := by
 rintro wx v ⟨b, rfl, hb⟩
 exact zblk g b L L.length wx hb rfl hL
theorem zbnq {g : Gm} {a : Int} (h0 : 0 <= a) (h2 : a <= 2) : IntKind.i64.wrap (a * slot g) = a * slot g ∧ 0 <= a * slot g ∧ a * slot g <= 224 := by
 have hs := zis g
 have e : a = 0 ∨ a = 1 ∨ a = 2 := by omega
 rcases e with rfl | rfl | rfl
 .rw [Int.zero_mul]; exact ⟨rfl, by decide, by decide⟩
 .rw [Int.one_mul, IntKind.wrap_i64]; omega
 .rw [IntKind.wrap_i64]; omega
theorem zpk (g : Gm) (a b c : Int) (w : World) :
  Calls Tryz.prog 66 #[geoV g, .int .i64 a, .int .i64 b, .int .i64 c] w fun e w' => e = .returned (.tuple #[.int .i64 (sect g a b c), .int .i64 (sectQ g a b c)]) ∧ Below w.heap.size w w' := by
 have HX := zh fun w1 => zjv g w1
 have HSL := zh fun w1 => zjq g w1
 have H1 : Hid (∀ w1, Calls Tryz.prog 102 #[.int .i64 a, .int .i64 3] w1 fun e w' => e = .returned (.agg #[.int .i64 a, .int .i64 0, .int .i64 2]) ∧ Below w1.heap.size w1 w') := zh fun w1 => zkm a 3 2 w1 (by unfold wrap64; omega)
 have H2 : Hid (∀ w1, Calls Tryz.prog 102 #[.int .i64 b, .int .i64 g.s] w1 fun e w' => e = .returned (.agg #[.int .i64 b, .int .i64 0, .int .i64 (wrap64 (g.s - 1))]) ∧ Below w1.heap.size w1 w') := zh fun w1 => zkm b g.s _ w1 rfl
 have H3 : Hid (∀ w1, Calls Tryz.prog 102 #[.int .i64 c, .int .i64 (wide g)] w1 fun e w' => e = .returned (.agg #[.int .i64 c, .int .i64 0, .int .i64 (wrap64 (wide g - 1))]) ∧ Below w1.heap.size w1 w') := zh fun w1 => zkm c (wide g) _ w1 rfl
 have hQ : askF g [⟨a, 0, 2⟩, ⟨b, 0, wrap64 (g.s - 1)⟩, ⟨c, 0, wrap64 (wide g - 1)⟩] = sectQ g a b c := zbhe g _ _ fun h => by
  have hr := (zbj g).1 h
  have hw := zzx g
  have h1 := hr.s1
  have h8 := hr.s8
  have e1 : wrap64 (g.s - 1) = g.s - 1 := by unfold wrap64; omega
  have e2 : wrap64 (wide g - 1) = wide g - 1 := by unfold wrap64; omega
  rw [e1, e2]
 have HA := zh (zbll g [⟨a, 0, 2⟩, ⟨b, 0, wrap64 (g.s - 1)⟩, ⟨c, 0, wrap64 (wide g - 1)⟩] w (by show 3 < 1000; decide))
 rw [hQ] at HA
 clear hQ
 have HNO : Hid (¬ sectQ g a b c = 0 -> sect g a b c = 0) := zh fun h => if_neg h
 have HYES : Hid (sectQ g a b c = 0 -> sect g a b c = a * slot g + c * g.s + b ∧ (0 <= a * slot g ∧ a * slot g <= 224 ∧ 0 <= c * g.s ∧ c * g.s <= 104 ∧ 0 <= b ∧ b <= 7) ∧ IntKind.i64.wrap (a * slot g) = a * slot g ∧ IntKind.i64.wrap (c * g.s) = c * g.s) := zh fun h => by
  have hi := (zjo g a b c).1 h
  have hw := zbnq (g := g) hi.a0 hi.a2
  have h1 : 0 <= c * g.s := Int.mul_nonneg hi.c0 (by have := hi.r.s1; omega)
  have h2 : c * g.s <= 13 * g.s := Int.mul_le_mul_of_nonneg_right (by have := hi.cw; have := hi.r.d8; have := hi.r.p6; omega) (by have := hi.r.s1; omega)
  have h8 := hi.r.s8
  have hb := hi.bs
  refine ⟨if_pos h, ⟨hw.2.1, hw.2.2, h1, by omega, hi.b0, by omega⟩, hw.1, ?_⟩
  rw [IntKind.wrap_i64]
  omega
 generalize sect g a b c = rr at HNO HYES ⊢
 generalize sectQ g a b c = q at HA HNO HYES ⊢
 generalize hm1 : a * slot g = m1 at HYES
 generalize hm2 : c * g.s = m2 at HYES
 have M1 := zh hm1
 have M2 := zh hm2
 generalize slot g = sl at HSL M1 hm1
 generalize wrap64 (g.s - 1) = sm at H2 HA
 generalize wrap64 (wide g - 1) = wm at H3 HA
 generalize wide g = wd at HX H3
 rw [<- M1.out, <- M2.out] at HYES
 clear hm1 hm2 M1 M2
 obtain ⟨d, p, s⟩ := g
 dsimp only [geoV] at HX HSL H2 HA HYES ⊢
 generalize hm1 : a * sl = m1 at HYES
 generalize hm2 : c * s = m2 at HYES
 have M1 := zh hm1
 have M2 := zh hm2
 have HYES : Hid (q = 0 -> rr = m1 + m2 + b ∧ (0 <= m1 ∧ m1 <= 224 ∧ 0 <= m2 ∧ m2 <= 104 ∧ 0 <= b ∧ b <= 7) ∧ IntKind.i64.wrap (a * sl) = m1 ∧ IntKind.i64.wrap (c * s) = m2) := zh (by rw [M1.out, M2.out]; exact HYES.out)
 clear hm1 hm2 M1 M2
 go_enter Tryz.func66, Tryz.ntmps66
 go_wp2_with ((with_reducible refine wpBoxK [Value.int .i64 d, .int .i64 p, .int .i64 s] 23 ?_ ?_); rfl; intro w1 r1 b1 s1; have R1 := zh r1; have B1 := zh b1; clear r1 b1 s1)
 have HLT : Hid (w.heap.size < w1.heap.size) := zh R1.out.lt
 have C0 : Hid (w1.cell? ⟨w.heap.size, 0, none⟩ = some (.int .i64 d)) := zh (R1.out.cell 0)
 have C1 : Hid (w1.cell? ⟨w.heap.size, 1, none⟩ = some (.int .i64 p)) := zh (R1.out.cell 1)
 have C2 : Hid (w1.cell? ⟨w.heap.size, 2, none⟩ = some (.int .i64 s)) := zh (R1.out.cell 2)
 refine zaj [(0, 11), (1, 12), (2, 13), (3, 14), (4, 15), (5, 16), (6, 17), (7, 18), (8, 19), (9, 20), (10, 21), (11, 22), (12, 23), (13, 10)]
  (fun ii => [Is (.agg #[(.int .i64 d), (.int .i64 p), (.int .i64 s)]), Is (.int .i64 a), Is (.agg #[.int .i64 a, .int .i64 0, .int .i64 2]), Is (.int .i64 b), Is (.pointer (some ⟨w.heap.size, 2, none⟩)), Is (.int .i64 s), Is (.agg #[.int .i64 b, .int .i64 0, .int .i64 sm]), Is (.int .i64 c), Is (.agg #[(.int .i64 d), (.int .i64 p), (.int .i64 s)]), Is (.int .i64 wd), Is (.agg #[.int .i64 c, .int .i64 0, .int .i64 wm]), Sps [⟨a, 0, 2⟩, ⟨b, 0, sm⟩, ⟨c, 0, wm⟩], Is (.int .i64 q), Is (.int .i64 q)].getD ii (Is undef))
  (fun w' => Below w1.heap.size w1 w') (by kernel_rfl) (by kernel_rfl) (by decide) (by decide) (by kernel_rfl) rfl ?monoq ((zb).drew) ?stepq ?finq
 case monoq =>
  intro i
  match i with
  | 0 | 1 | 2 | 3 | 4 | 5 | 6 | 7 | 8 | 9 | 10 | 12 | 13 => exact Is.monot _
  | 11 => exact Sps.monot _
  | _ + 14 => exact Is.monot _
 case stepq =>
  refine zf ⟨?qs0, zf ⟨?qs1, zf ⟨?qs2, zf ⟨?qs3, zf ⟨?qs4, zf ⟨?qs5, zf ⟨?qs6, zf ⟨?qs7, zf ⟨?qs8, zf ⟨?qs9, zf ⟨?qs10, zf ⟨?qs11, zf ⟨?qs12, zf ⟨?qs13, List.forall_mem_nil _⟩⟩⟩⟩⟩⟩⟩⟩⟩⟩⟩⟩⟩⟩
  case qs0 | qs8 =>
   intro u wx hg hC; clear hC
   have hcl0 : wx.cell? ⟨w.heap.size, 0, none⟩ = some (.int .i64 d) := (hg.cell (p := ⟨w.heap.size, 0, none⟩) HLT.out).trans C0.out
   have hcl1 : wx.cell? ⟨w.heap.size, 1, none⟩ = some (.int .i64 p) := (hg.cell (p := ⟨w.heap.size, 1, none⟩) HLT.out).trans C1.out
   have hcl2 : wx.cell? ⟨w.heap.size, 2, none⟩ = some (.int .i64 s) := (hg.cell (p := ⟨w.heap.size, 2, none⟩) HLT.out).trans C2.out
   refine wpOp_step rfl fun K hK => ?_
   simp only [puts, List.foldl]; go_simp; exact zK hK hg
  case qs1 | qs3 | qs4 | qs7 =>
   intro u wx hg hC; clear hC; refine wpOp_step rfl fun K hK => ?_
   simp only [puts, List.foldl]; go_simp; exact zK hK hg
  case qs2 =>
   intro u wx hg hC; have hJ1 := zj hC 1; clear hC; refine wpOp_step rfl fun K hK => ?_
   simp only [puts, List.foldl]; go_simp
   refine (H1.out wx).mono ?_
   rintro e w' ⟨rfl, hb'⟩
   exact hK _ _ ⟨rfl, rfl, hg.next hb', hb'⟩
  case qs5 =>
   intro u wx hg hC; have hJ4 := zj hC 4; clear hC
   have hcl : wx.cell? ⟨w.heap.size, 2, none⟩ = some (.int .i64 s) := (hg.cell (p := ⟨w.heap.size, 2, none⟩) HLT.out).trans C2.out
   refine wpOp_step rfl fun K hK => ?_
   simp only [puts, List.foldl]; go_simp; exact zK hK hg
  case qs6 =>
   intro u wx hg hC; have hJ3 := zj hC 3; have hJ5 := zj hC 5; clear hC; refine wpOp_step rfl fun K hK => ?_
   simp only [puts, List.foldl]; go_simp
   refine (H2.out wx).mono ?_
   rintro e w' ⟨rfl, hb'⟩
   exact hK _ _ ⟨rfl, rfl, hg.next hb', hb'⟩
  case qs9 =>
   intro u wx hg hC; have hJ8 := zj hC 8; clear hC; refine wpOp_step rfl fun K hK => ?_
   simp only [puts, List.foldl]; go_simp
   refine (HX.out wx).mono ?_
   rintro e w' ⟨rfl, hb'⟩
   exact hK _ _ ⟨rfl, rfl, hg.next hb', hb'⟩
  case qs10 =>
   intro u wx hg hC; have hJ7 := zj hC 7; have hJ9 := zj hC 9; clear hC; refine wpOp_step rfl fun K hK => ?_
   simp only [puts, List.foldl]; go_simp
   refine (H3.out wx).mono ?_
   rintro e w' ⟨rfl, hb'⟩
   exact hK _ _ ⟨rfl, rfl, hg.next hb', hb'⟩
  case qs11 =>
   intro u wx hg hC; have hJ2 := zj hC 2; have hJ6 := zj hC 6; have hJ10 := zj hC 10; clear hC; refine wpOp_step rfl fun K hK => ?_
   simp only [puts, List.foldl]; go_simp; exact hK _ _ ⟨rfl, zbni [⟨a, 0, 2⟩, ⟨b, 0, sm⟩, ⟨c, 0, wm⟩] _ 3 wx rfl rfl, hg.alloc hg.size _, zab _ _⟩
  case qs12 =>
   intro u wx hg hC; have hJ0 := zj hC 0
   have hJ11 : (Sps [⟨a, 0, 2⟩, ⟨b, 0, sm⟩, ⟨c, 0, wm⟩]) (u 11) wx := hC.at 11 (by kernel_rfl)
   clear hC; refine wpOp_step rfl fun K hK => ?_
   simp only [puts, List.foldl]; go_simp
   refine (HA.out wx _ hJ11).mono ?_
   rintro e w' ⟨rfl, hb'⟩
   exact hK _ _ ⟨rfl, rfl, hg.next hb', hb'⟩
  case qs13 =>
   intro u wx hg hC; have hJ12 := zj hC 12; clear hC; refine wpOp_step rfl fun K hK => ?_
   simp only [puts, List.foldl]; go_simp; exact zK hK hg
 case finq =>
  intro u wq hbq hφ
  have e10 : u 13 = .int .i64 q := hφ (13, 10) (by decide)
  clear hφ
  simp only [puts, List.foldl]
  go_simp
  have BQ := zh (B1.out.next hbq)
  have RQ := zh (R1.out.step hbq)
  clear hbq e10
  cases hz : decide (q = 0) with
  | false =>
   have hq0 : ¬ q = 0 := of_decide_eq_false hz
   have hq1 : (q == 0) = false := beq_false_of_ne hq0
   have hq2 : (q != 0) = true := by rw [bne, hq1]; rfl
   have HN := zh (HNO.out hq0); clear hz; go_wp2; go_ret2; exact ⟨by rw [HN.out]; rfl, BQ.out⟩
  | true =>
   have hq0 : q = 0 := of_decide_eq_true hz
   have HIN := HYES.out hq0; have HE := zh HIN.1; have HM := zh HIN.2.1; have W1 := zh HIN.2.2.1; have W2 := zh HIN.2.2.2; subst hq0; clear hz HIN; go_wp2
   have HLT : Hid (w.heap.size < wq.heap.size) := zh RQ.out.lt
   have C0 : Hid (wq.cell? ⟨w.heap.size, 0, none⟩ = some (.int .i64 d)) := zh (RQ.out.cell 0)
   have C1 : Hid (wq.cell? ⟨w.heap.size, 1, none⟩ = some (.int .i64 p)) := zh (RQ.out.cell 1)
   have C2 : Hid (wq.cell? ⟨w.heap.size, 2, none⟩ = some (.int .i64 s)) := zh (RQ.out.cell 2)
   refine zaj [(0, 27), (1, 28), (2, 29), (3, 30), (4, 31), (5, 32), (6, 33), (7, 34), (8, 35), (9, 36), (10, 37), (11, 8), (12, 9)]
    (fun ii => [Is (.int .i64 a), Is (.agg #[(.int .i64 d), (.int .i64 p), (.int .i64 s)]), Is (.int .i64 sl), Is (.int .i64 m1), Is (.int .i64 c), Is (.pointer (some ⟨w.heap.size, 2, none⟩)), Is (.int .i64 s), Is (.int .i64 m2), Is (.int .i64 (m1 + m2)), Is (.int .i64 b), Is (.int .i64 (m1 + m2 + b)), Is (.int .i64 (m1 + m2 + b)), Is (.int .i64 0)].getD ii (Is undef))
    (fun w' => Below wq.heap.size wq w') (by kernel_rfl) (by kernel_rfl) (by decide) (by decide) (by kernel_rfl) rfl ?monor ((zb).drew) ?stepr ?finr
   case monor =>
    intro i
    match i with
    | 0 | 1 | 2 | 3 | 4 | 5 | 6 | 7 | 8 | 9 | 10 | 11 | 12 => exact Is.monot _
    | _ + 13 => exact Is.monot _
   case stepr =>
    refine zf ⟨?rs0, zf ⟨?rs1, zf ⟨?rs2, zf ⟨?rs3, zf ⟨?rs4, zf ⟨?rs5, zf ⟨?rs6, zf ⟨?rs7, zf ⟨?rs8, zf ⟨?rs9, zf ⟨?rs10, zf ⟨?rs11, zf ⟨?rs12, List.forall_mem_nil _⟩⟩⟩⟩⟩⟩⟩⟩⟩⟩⟩⟩⟩
    case rs0 | rs4 | rs5 | rs9 | rs12 =>
     intro u wx hg hC; clear hC; refine wpOp_step rfl fun K hK => ?_
     simp only [puts, List.foldl]; go_simp; exact zK hK hg
    case rs1 =>
     intro u wx hg hC; clear hC
     have hcl0 : wx.cell? ⟨w.heap.size, 0, none⟩ = some (.int .i64 d) := (hg.cell (p := ⟨w.heap.size, 0, none⟩) HLT.out).trans C0.out
     have hcl1 : wx.cell? ⟨w.heap.size, 1, none⟩ = some (.int .i64 p) := (hg.cell (p := ⟨w.heap.size, 1, none⟩) HLT.out).trans C1.out
     have hcl2 : wx.cell? ⟨w.heap.size, 2, none⟩ = some (.int .i64 s) := (hg.cell (p := ⟨w.heap.size, 2, none⟩) HLT.out).trans C2.out
     refine wpOp_step rfl fun K hK => ?_
     simp only [puts, List.foldl]; go_simp; exact zK hK hg
    case rs2 =>
     intro u wx hg hC; have hJ1 := zj hC 1; clear hC; refine wpOp_step rfl fun K hK => ?_
     simp only [puts, List.foldl]; go_simp
     refine (HSL.out wx).mono ?_
     rintro e w' ⟨rfl, hb'⟩
     exact hK _ _ ⟨rfl, rfl, hg.next hb', hb'⟩
    case rs3 =>
     intro u wx hg hC; have hJ0 := zj hC 0; have hJ2 := zj hC 2; clear hC
     have hw : IntKind.i64.wrap (a * sl) = m1 := W1.out
     refine wpOp_step rfl fun K hK => ?_
     simp only [puts, List.foldl]; go_simp; exact zK hK hg
    case rs6 =>
     intro u wx hg hC; have hJ5 := zj hC 5; clear hC
     have hcl : wx.cell? ⟨w.heap.size, 2, none⟩ = some (.int .i64 s) := (hg.cell (p := ⟨w.heap.size, 2, none⟩) HLT.out).trans C2.out
     refine wpOp_step rfl fun K hK => ?_
     simp only [puts, List.foldl]; go_simp; exact zK hK hg
    case rs7 =>
     intro u wx hg hC; have hJ4 := zj hC 4; have hJ6 := zj hC 6; clear hC
     have hw : IntKind.i64.wrap (c * s) = m2 := W2.out
     refine wpOp_step rfl fun K hK => ?_
     simp only [puts, List.foldl]; go_simp; exact zK hK hg
    case rs8 =>
     intro u wx hg hC; have hJ3 := zj hC 3; have hJ7 := zj hC 7; clear hC
     have hw : IntKind.i64.wrap (m1 + m2) = m1 + m2 := by have := HM.out; rw [IntKind.wrap_i64]; omega
     refine wpOp_step rfl fun K hK => ?_
     simp only [puts, List.foldl]; go_simp; exact zK hK hg
    case rs10 =>
     intro u wx hg hC; have hJ8 := zj hC 8; have hJ9 := zj hC 9; clear hC
     have hw : IntKind.i64.wrap (m1 + m2 + b) = m1 + m2 + b := by have := HM.out; rw [IntKind.wrap_i64]; omega
     refine wpOp_step rfl fun K hK => ?_
     simp only [puts, List.foldl]; go_simp; exact zK hK hg
    case rs11 =>
     intro u wx hg hC; have hJ10 := zj hC 10; clear hC; refine wpOp_step rfl fun K hK => ?_
     simp only [puts, List.foldl]; go_simp; exact zK hK hg
   case finr =>
    intro u wr hbr hφ
    have e8 : u 11 = .int .i64 (m1 + m2 + b) := hφ (11, 8) (by decide)
    have e9 : u 12 = .int .i64 0 := hφ (12, 9) (by decide)
    clear hφ; simp only [puts, List.foldl]; go_simp; have HBR := zh (BQ.out.next hbr); clear hbr e8 e9; go_wp2; go_ret2; exact ⟨by rw [HE.out]; rfl, HBR.out⟩
end
end Go.Proofs.YtojimgbcghiblaaGreatDoor
namespace Go.Proofs.YtojimgbcghiblaaGreatDoor.GeoMath
structure Pl where
 w : Int
 a : Int
 b : Int
 c : Int
def pl (W S k : Nat) : Pl :=
 if k < 3 * (W * S) then ⟨0, ((k / (W * S) : Nat) : Int), ((k % (W * S) % S : Nat) : Int), ((k % (W * S) / S : Nat) : Int)⟩
 else if k < 3 * (W * S) + 16 then ⟨1, (((k - 3 * (W * S)) / 8 : Nat) : Int), (((k - 3 * (W * S)) / 4 % 2 : Nat) : Int), (((k - 3 * (W * S)) % 4 : Nat) : Int)⟩
 else ⟨2, ((k - (3 * (W * S) + 16) : Nat) : Int), 0, 0⟩
theorem pl_slot {W S k1 k2 k3 : Nat} (h1 : k1 < 3) (h2 : k2 < W) (h3 : k3 < S) : pl W S (k1 * (W * S) + k2 * S + k3) = ⟨0, (k1 : Int), (k3 : Int), (k2 : Int)⟩ := by
 have h4 : k2 * S + k3 < W * S := by
  have : (k2 + 1) * S <= W * S := Nat.mul_le_mul_right _ h2
  rw [Nat.add_mul, Nat.one_mul] at this
  omega
 have h5 : k1 * (W * S) + k2 * S + k3 < 3 * (W * S) := by
  have : (k1 + 1) * (W * S) <= 3 * (W * S) := Nat.mul_le_mul_right _ h1
  rw [Nat.add_mul, Nat.one_mul] at this
  omega
 have e1 : (k1 * (W * S) + k2 * S + k3) / (W * S) = k1 := by
  rw [Nat.add_assoc, Nat.mul_comm k1, Nat.mul_add_div (by omega), Nat.div_eq_of_lt h4, Nat.add_zero]
 have e2 : (k1 * (W * S) + k2 * S + k3) % (W * S) = k2 * S + k3 := by
  rw [Nat.add_assoc, Nat.mul_comm k1, Nat.mul_add_mod, Nat.mod_eq_of_lt h4]
 have e3 : (k2 * S + k3) % S = k3 := by rw [Nat.mul_comm, Nat.mul_add_mod, Nat.mod_eq_of_lt h3]
 have e4 : (k2 * S + k3) / S = k2 := by rw [Nat.mul_comm, Nat.mul_add_div (by omega), Nat.div_eq_of_lt h3, Nat.add_zero]
 rw [pl, if_pos h5, e1, e2, e3, e4]
def cnt (W S : Nat) : Nat := 3 * (W * S) + 18
end Go.Proofs.YtojimgbcghiblaaGreatDoor.GeoMath
namespace Go.Proofs.YtojimgbcghiblaaGreatDoor
section
open Go.RowKit GeoMath
end
end Go.Proofs.YtojimgbcghiblaaGreatDoor
namespace Go.Proofs.YtojimgbcghiblaaGreatDoor.GeoMath
end Go.Proofs.YtojimgbcghiblaaGreatDoor.GeoMath
namespace Go.Proofs.YtojimgbcghiblaaGreatDoor
section
open Go.RowKit GeoMath
theorem zrn (g : Gm) (w : World) :
  Calls Tryz.prog 9 #[geoV g] w fun e w' => e = .returned (.bool (right g)) ∧ Below w.heap.size w w' := by
 cases hr : right g with
 | true =>
  have hg := (zbj g).1 hr
  obtain ⟨d, p, s⟩ := g
  have h1 : (1 : Int) <= d := hg.d1
  have h2 : d <= 8 := hg.d8
  have h3 : (2 : Int) <= p := hg.p2
  have h4 : p <= 6 := hg.p6
  have h5 : (1 : Int) <= s := hg.s1
  have h6 : s <= 8 := hg.s8
  clear hg hr
  dsimp only [geoV]
  go_enter Tryz.func9, Tryz.ntmps9
  go_wp2_with ((with_reducible refine wpBoxK [Value.int .i64 d, .int .i64 p, .int .i64 s] 37 ?_ ?_); rfl; intro w1 r1 b1 s1; have c0 := r1.cell 0; have c1 := r1.cell 1; have c2 := r1.cell 2; have B1 := zh b1; clear r1 b1 s1)
  go_ret
  exact ⟨rfl, B1.out⟩
 | false =>
  have hn : ¬ Rt g := fun h => by rw [(zbj g).2 h] at hr; cases hr
  obtain ⟨d, p, s⟩ := g
  have hor : ¬ 1 <= d ∨ (1 <= d ∧ ¬ d <= 8) ∨ (1 <= d ∧ d <= 8 ∧ ¬ 2 <= p) ∨ (1 <= d ∧ d <= 8 ∧ 2 <= p ∧ ¬ p <= 6) ∨ (1 <= d ∧ d <= 8 ∧ 2 <= p ∧ p <= 6 ∧ ¬ 1 <= s) ∨ (1 <= d ∧ d <= 8 ∧ 2 <= p ∧ p <= 6 ∧ 1 <= s ∧ ¬ s <= 8) := by
   by_cases x1 : 1 <= d <;> by_cases x2 : d <= 8 <;> by_cases x3 : 2 <= p <;> by_cases x4 : p <= 6 <;> by_cases x5 : 1 <= s <;> by_cases x6 : s <= 8 <;> simp only [x1, x2, x3, x4, x5, x6] <;> simp
   exact hn ⟨x1, x2, x3, x4, x5, x6⟩
  clear hn hr
  dsimp only [geoV]
  rcases hor with h1 | ⟨h1, h2⟩ | ⟨h1, h2, h3⟩ | ⟨h1, h2, h3, h4⟩ | ⟨h1, h2, h3, h4, h5⟩ | ⟨h1, h2, h3, h4, h5, h6⟩
  all_goals
   go_enter Tryz.func9, Tryz.ntmps9
   go_wp2_with ((with_reducible refine wpBoxK [Value.int .i64 d, .int .i64 p, .int .i64 s] 37 ?_ ?_); rfl; intro w1 r1 b1 s1; have c0 := r1.cell 0; have c1 := r1.cell 1; have c2 := r1.cell 2; have B1 := zh b1; clear r1 b1 s1)
   go_ret; exact ⟨rfl, B1.out⟩
end
section
open Go.RowKit CrcMath GfMath PolyMath RsMath SolMath GeoMath
def cdrL (cc k p s sb : Nat) : List Value := [.pointer (some ⟨cc, 0, none⟩), .int .i64 (k : Int), .int .i64 (p : Int), .int .i64 (s : Int), .pointer (some ⟨sb, 0, none⟩)]
structure Cdr (w : World) (c cc b sb k p s : Nat) : Prop where
 k1 : 1 <= k
 k8 : k <= 8
 p2 : 2 <= p
 p6 : p <= 6
 row : Row w c 128 (cdrL cc k p s sb)
 cod : Cod w cc b k p
 smr : Smr (.pointer (some ⟨sb, 0, none⟩)) w
theorem Cdr.step {w w' : World} {c cc b sb k p s : Nat} (h : Cdr w c cc b sb k p s) (hb : Below w.heap.size w w') : Cdr w' c cc b sb k p s :=
 ⟨h.k1, h.k8, h.p2, h.p6, h.row.step hb, h.cod.step hb, Smr.monot _ _ _ h.smr hb⟩
theorem Cdr.c0 {w : World} {c cc b sb k p s : Nat} (h : Cdr w c cc b sb k p s) : w.cell? ⟨c, 0, none⟩ = some (.pointer (some ⟨cc, 0, none⟩)) := by rw [h.row.cell]; rfl
theorem Cdr.c4 {w : World} {c cc b sb k p s : Nat} (h : Cdr w c cc b sb k p s) : w.cell? ⟨c, 4, none⟩ = some (.pointer (some ⟨sb, 0, none⟩)) := by rw [h.row.cell]; rfl
theorem Cdr.lt {w : World} {c cc b sb k p s : Nat} (h : Cdr w c cc b sb k p s) : c < w.heap.size := h.row.lt
theorem Cdr.over {w : World} {c cc b sb k p s : Nat} (h : Cdr w c cc b sb k p s) : Calls Tryz.prog 104 #[.pointer (some ⟨cc, 0, none⟩)] w fun e w' => e = .returned (.pointer (some ⟨b, 0, none⟩)) ∧ Below w.heap.size w w' := by
 obtain ⟨a, cap, h1, _⟩ := h.cod.cor
 exact (zia cc b k p _ w h1).mono fun e w' ⟨h1, h2⟩ => ⟨h1, h2 ▸ zb⟩
theorem Cdr.size {w : World} {c cc b sb k p s : Nat} (h : Cdr w c cc b sb k p s) : Calls Tryz.prog 105 #[.pointer (some ⟨cc, 0, none⟩)] w fun e w' => e = .returned (.tuple #[.int .i64 ((k + p : Nat) : Int), .int .i64 (k : Int)]) ∧ Below w.heap.size w w' := by
 obtain ⟨a, cap, h1, _⟩ := h.cod.cor
 exact zib cc b k p _ w h1
theorem zhi (c cc b sb k p s : Nat) (w : World) (h : Cdr w c cc b sb k p s) : Calls Tryz.prog 68 #[.pointer (some ⟨c, 0, none⟩)] w fun e w' => e = .returned (.bool false) ∧ Below w.heap.size w w' := by
 have HO := zh h.over
 have c0 := h.c0
 clear h
 go_enter Tryz.func68, Tryz.ntmps68
 go_wp2_with (go_at_call 104; (with_reducible refine HO.out.mono ?_); rintro e w1 ⟨rfl, b1⟩; have B1 := zh b1; clear b1)
 go_ret
 exact ⟨rfl, B1.out⟩
theorem zhj (c cc b sb k p s : Nat) (w : World) (h : Cdr w c cc b sb k p s) : Calls Tryz.prog 69 #[.pointer (some ⟨c, 0, none⟩)] w fun e w' => e = .returned (.int .i64 ((k + p : Nat) : Int)) ∧ Below w.heap.size w w' := by
 have HO := zh h.size
 have c0 := h.c0
 obtain ⟨n, hn⟩ : ∃ n, k + p = n := ⟨_, rfl⟩
 rw [hn] at HO ⊢
 clear h hn
 go_enter Tryz.func69, Tryz.ntmps69
 go_wp2_with (go_at_call 105; (with_reducible refine HO.out.mono ?_); rintro e w1 ⟨rfl, b1⟩; have B1 := zh b1; clear b1)
 go_ret
 exact ⟨rfl, B1.out⟩
theorem zln (c cc b sb k p s : Nat) (w : World) (h : Cdr w c cc b sb k p s) : Calls Tryz.prog 73 #[.pointer (some ⟨c, 0, none⟩)] w fun e w' => e = .returned (.int .i64 (k : Int)) ∧ Below w.heap.size w w' := by
 have HO := zh h.size
 have c0 := h.c0
 obtain ⟨n, hn⟩ : ∃ n, k + p = n := ⟨_, rfl⟩
 rw [hn] at HO
 clear h hn
 go_enter Tryz.func73, Tryz.ntmps73
 go_wp2_with (go_at_call 105; (with_reducible refine HO.out.mono ?_); rintro e w1 ⟨rfl, b1⟩; have B1 := zh b1; clear b1)
 go_ret
 exact ⟨rfl, B1.out⟩
def gmN (k p s : Nat) : Gm := ⟨k, p, s⟩
theorem zvy : ∀ u, (zeroValue 23).run Tryz.prog u = .ok (.agg [Value.int .i64 0, .int .i64 0, .int .i64 0].toArray) u := fun u => by kernel_rfl
theorem znc (c cc b sb k p s : Nat) (w : World) (h : Cdr w c cc b sb k p s) : Calls Tryz.prog 46 #[.pointer (some ⟨c, 0, none⟩)] w fun e w' => e = .returned (geoV (gmN k p s)) ∧ Below w.heap.size w w' := by
 have HN : Hid (∀ u, Below w.heap.size w u -> Calls Tryz.prog 68 #[.pointer (some ⟨c, 0, none⟩)] u fun e w' => e = .returned (.bool false) ∧ Below u.heap.size u w') := zh fun u hu => zhi c cc b sb k p s u (h.step hu)
 have HR := zh h.row
 have HZ := zh zvy
 have HE : Hid (cdrL cc k p s sb = [.pointer (some ⟨cc, 0, none⟩)] ++ [Value.int .i64 (k : Int), .int .i64 (p : Int), .int .i64 (s : Int)] ++ [.pointer (some ⟨sb, 0, none⟩)]) := zh rfl
 have HV : Hid (geoV (gmN k p s) = .agg [Value.int .i64 (k : Int), .int .i64 (p : Int), .int .i64 (s : Int)].toArray) := zh rfl
 rw [HV.out]
 rw [HE.out] at HR
 obtain ⟨G, hG⟩ : ∃ G, [Value.int .i64 (k : Int), .int .i64 (p : Int), .int .i64 (s : Int)] = G := ⟨_, rfl⟩
 have HGL : Hid (G.length = 3) := zh (by rw [<- hG]; rfl)
 have HG1 : Hid (G.all (·.oneCell') = true) := zh (by rw [<- hG]; rfl)
 rw [hG] at HR ⊢
 clear HE HV hG h
 go_enter Tryz.func46, Tryz.ntmps46
 go_wp2_with (first
  | ((with_reducible refine wpAllocK (w := w) [Value.int .i64 0, .int .i64 0, .int .i64 0] 23 HZ.out ?_ ?_); rfl; intro u1 r1 b1 s1; have R1 := zh r1; have B1 := zh b1; have S1 := zh s1; clear r1 b1 s1)
  | (go_at_call 68; (with_reducible refine (HN.out u1 B1.out).mono ?_); rintro e u2 ⟨rfl, b2⟩; have R2 := zh (R1.out.step b2); have B2 := zh (B1.out.next b2); have Q2 := zh (HR.out.step (B1.out.next b2)); clear b2)
  | ((with_reducible refine Q2.out.wpLoadMidK 1 rfl 23 fits_geo HGL.out ?_ ?_); rfl)
  | ((with_reducible refine R2.out.wpStoreK 23 G fits_geo rfl HGL.out HG1.out ?_ ?_); rfl; intro u3 r3 o3 s3; have R3 := zh r3; have B3 := zh (B2.out.trans (o3.below (Nat.le_refl _) B2.out.size)); clear r3 o3 s3))
 exact bodyPost_ret (R3.out.result rfl _ _ rfl Tryz.underlying23 rfl (by rw [HGL.out]; exact fits_geo.size)) rfl ⟨rfl, B3.out⟩
def Nbs (B n : Nat) (l : List Nat) : Value -> World -> Prop := fun v w => ∃ g, v = .slice (some ⟨g, 0, none⟩) n n ∧ B <= g ∧ Row w g 5 (u8s l)
theorem Nbs.monot (B n : Nat) (l : List Nat) : Monot (Nbs B n l) := fun _ _ _ ⟨g, h1, h2, h3⟩ hb => ⟨g, h1, h2, h3.step hb⟩
def Ptp (B n : Nat) (l : List Nat) : Value -> World -> Prop := fun v w => ∃ g, v = .tuple #[.slice (some ⟨g, 0, none⟩) n n, .int .i64 0] ∧ B <= g ∧ Row w g 5 (u8s l)
theorem Ptp.monot (B n : Nat) (l : List Nat) : Monot (Ptp B n l) := fun _ _ _ ⟨g, h1, h2, h3⟩ hb => ⟨g, h1, h2, h3.step hb⟩
theorem zbex (u : World) (x y : Value) (T : TypeId) : (u.alloc (.cells #[x, y] T)).cell? ⟨u.heap.size, 0, none⟩ = some x ∧ (u.alloc (.cells #[x, y] T)).cell? ⟨u.heap.size, 1, none⟩ = some y := by
 have h := Row.new u T [x, y]
 exact ⟨h.cell 0, h.cell 1⟩
theorem zsw (c cc b sb k p s : Nat) (a : Option Addr) (cap : Nat) (f : Fb) (w : World) (h : Cdr w c cc b sb k p s) (hr : Lies w w.heap.size a (bytes (grid k f))) :
  Calls Tryz.prog 74 #[.pointer (some ⟨c, 0, none⟩), .slice a k cap] w fun e w' =>
   (∃ g c2 ys, e = .returned (.slice (some ⟨g, 0, none⟩) (k + p) c2) ∧ k + p <= c2 ∧ w.heap.size <= g ∧ Row w' g 40 (bytes (grid (k + p) (wholeF f k p)) ++ ys)) ∧ Below w.heap.size w w' := by
 have HWI : Hid (∀ u, Below w.heap.size w u -> Calls Tryz.prog 69 #[.pointer (some ⟨c, 0, none⟩)] u fun e w' => e = .returned (.int .i64 ((k + p : Nat) : Int)) ∧ Below u.heap.size u w') := zh fun u hu => zhj c cc b sb k p s u (h.step hu)
 have HDA : Hid (∀ u, Below w.heap.size w u -> Calls Tryz.prog 73 #[.pointer (some ⟨c, 0, none⟩)] u fun e w' => e = .returned (.int .i64 (k : Int)) ∧ Below u.heap.size u w') := zh fun u hu => zln c cc b sb k p s u (h.step hu)
 have HCC : Hid (∀ u gz, Below w.heap.size w u -> Row u gz 40 (List.replicate (p * 60) (.int .u8 0)) -> Calls Tryz.prog 111 #[.slice (some ⟨u.heap.size, 0, none⟩) 2 2] (u.alloc (.cells #[.slice a k cap, .slice (some ⟨gz, 0, none⟩) p p] 31)) fun e w' =>
   (∃ g c ys, e = .returned (.slice (some ⟨g, 0, none⟩) (k + p) c) ∧ k + p <= c ∧ w.heap.size <= g ∧ Row w' g 40 (bytes (grid (k + p) (wholeT f k p 0)) ++ ys)) ∧ Below w.heap.size w w') := zh fun u gz hu hz => by
  have hb1 := zab u (.cells #[.slice a k cap, .slice (some ⟨gz, 0, none⟩) p p] 31)
  obtain ⟨q0, q1⟩ := zbex u (.slice a k cap) (.slice (some ⟨gz, 0, none⟩) p p) 31
  have h2 := hu.next hb1
  refine (zbca u.heap.size gz a cap p k p f _ (by have := h.k1; omega) (by have := h.k8; omega) (by have := h.p2; omega) (by have := h.p6; omega) q0 q1 ((hr.below h2).mono h2.size) (hz.step hb1)).mono ?_
  rintro e w' ⟨⟨g, c2, ys, e1, e2, e3, e4⟩, e5⟩
  exact ⟨⟨g, c2, ys, e1, e2, Nat.le_trans h2.size e3, e4⟩, h2.next e5⟩
 have HWO0 : Hid (∀ (t : Nat) wx, t < 60 -> Below w.heap.size w wx -> Calls Tryz.prog 108 #[.slice a k cap, .int .i64 (t : Int)] wx fun e w' => (∃ g, e = .returned (.slice (some ⟨g, 0, none⟩) k k) ∧ wx.heap.size <= g ∧ Row w' g 5 (u8s (colF f k t))) ∧ Below wx.heap.size wx w') := zh fun t wx ht hb => zlo a cap k f t wx (by have := h.k8; omega) ht ((hr.below hb).mono hb.size)
 have HPA0 : Hid (∀ wx, Below w.heap.size w wx -> ∀ g X, X.length = k -> By X -> Row wx g 5 (u8s X) -> Calls Tryz.prog 112 #[.pointer (some ⟨cc, 0, none⟩), .slice (some ⟨g, 0, none⟩) k k] wx fun e w' =>
   (∃ g, e = .returned (.tuple #[.slice (some ⟨g, 0, none⟩) p p, .int .i64 0]) ∧ wx.heap.size <= g ∧ Row w' g 5 (u8s (parity X p))) ∧ Below wx.heap.size wx w') := zh fun wx hb g X h1 h2 h3 => zbmu cc b k p (some ⟨g, 0, none⟩) k X wx (h.step hb).cod h1 h2 (by omega) (zbk h3)
 have HC := zh h
 have HI := zh zgg
 have HI2 := zh zfl
 have HP0 : Hid (0 < 60) := zh (by omega)
 have HPM : Hid (p <= 1000000) := zh (by have := h.p6; omega)
 have hk1 := h.k1
 have hk8 := h.k8
 have hp2 := h.p2
 have hp6 := h.p6
 obtain ⟨n, hn⟩ : ∃ n, k + p = n := ⟨_, rfl⟩
 have HNN := zh hn
 rw [hn] at HWI HCC ⊢
 have hkp : (n : Int) - (k : Int) = (p : Int) := by omega
 have hpw : IntKind.i64.wrap (p : Int) = (p : Int) := by rw [IntKind.wrap_i64]; omega
 have hki : (k : Int) <= 8 := by omega
 have hni : (n : Int) <= 14 := by omega
 have hkn : (k : Int) < (n : Int) := by omega
 clear h hr hn hk1 hk8 hp2 hp6
 go_enter Tryz.func74, Tryz.ntmps74
 go_wp2_with (first
  | (go_at_call 69; (with_reducible refine (HWI.out w (zb)).mono ?_); rintro e u1 ⟨rfl, b1⟩; have B1 := zh b1; clear b1)
  | (go_at_call 73; (with_reducible refine (HDA.out u1 B1.out).mono ?_); rintro e u2 ⟨rfl, b2⟩; have B2 := zh (B1.out.next b2); clear b2)
  | ((with_reducible refine wpMakeS 31 40 (.int .u8 0) 60 p Tryz.underlying31 HI.out HI2.out HP0.out HPM.out ?_ ?_); rfl; intro u3 r3 b3 s3; have R3 := zh r3; have B3 := zh (B2.out.next b3); clear r3 b3 s3)
  | (go_at_call 111; (with_reducible refine (HCC.out u3 _ B3.out R3.out).mono ?_); rintro e u4 ⟨⟨g, c2, ys, rfl, q4, g4, r4⟩, b4⟩; have HC2 := zh q4; have HGW := zh g4; have R4 := zh r4; have B4 := zh b4; clear q4 g4 r4 b4))
 clear HCC HWI HDA B1 B2 R3 B3
 have hcap : (n : Int) <= (c2 : Int) := by have := HC2.out; omega
 go_loopw [18] (fun i wr => ∃ t : Nat, t <= 60 ∧ i = .int .i64 t ∧ Row wr g 40 (bytes (grid n (wholeT f k p t)) ++ ys) ∧ Below w.heap.size w wr) (fun i _ => 60 - (intOf i).toNat)
 case atStart => exact ⟨0, by omega, rfl, R4.out, B4.out⟩
 case round =>

 clear R4 B4
 obtain ⟨t, ht, rfl, hrow, hbw⟩ := hrel
 by_cases hlt : t < 60
 .have hti : (t : Int) < 60 := by omega
  have C0 := zh ((HC.out.step hbw).c0)
  have HLT := zh ((HC.out.step hbw).lt)
  have hX8 := zgl f k t
  have hXl := zbx f k t
  have hnx := zben f k p t
  rw [HNN.out] at hnx
  have HYL := zh (zfz _ hX8 p)
  have HY8 := zh (zlf _ hX8 p)
  have HWO1 := zh (HWO0.out t)
  obtain ⟨X, hX⟩ : ∃ X, colF f k t = X := ⟨_, rfl⟩
  rw [hX] at hnx hX8 hXl HYL HY8 HWO1
  have HPA1 : Hid (∀ wx, Below w.heap.size w wx -> ∀ g, Row wx g 5 (u8s X) -> Calls Tryz.prog 112 #[.pointer (some ⟨cc, 0, none⟩), .slice (some ⟨g, 0, none⟩) k k] wx fun e w' =>
   (∃ g, e = .returned (.tuple #[.slice (some ⟨g, 0, none⟩) p p, .int .i64 0]) ∧ wx.heap.size <= g ∧ Row w' g 5 (u8s (parity X p))) ∧ Below wx.heap.size wx w') := zh fun wx h1 g h2 => HPA0.out wx h1 g X hXl hX8 h2
  obtain ⟨Y, hY⟩ : ∃ Y, parity X p = Y := ⟨_, rfl⟩
  rw [hY] at hnx HYL HY8 HPA1
  have HWO : Hid (∀ wx, Below wr.heap.size wr wx -> Calls Tryz.prog 108 #[.slice a k cap, .int .i64 (t : Int)] wx fun e w' => (∃ v, e = .returned v ∧ Nbs wr.heap.size k X v w') ∧ Below wx.heap.size wx w') := zh fun wx hb => (HWO1.out wx hlt (hbw.next hb)).mono fun e w' ⟨⟨g, h1, h2, h3⟩, h4⟩ => ⟨⟨_, h1, g, rfl, Nat.le_trans hb.size h2, h3⟩, h4⟩
  have HPA : Hid (∀ wx, Below wr.heap.size wr wx -> ∀ v, Nbs wr.heap.size k X v wx -> Calls Tryz.prog 112 #[.pointer (some ⟨cc, 0, none⟩), v] wx fun e w' => (∃ v, e = .returned v ∧ Ptp wr.heap.size p Y v w') ∧ Below wx.heap.size wx w') := zh fun wx hb v ⟨g, e1, e2, e3⟩ => by
   subst e1; exact (HPA1.out wx (hbw.next hb) g e3).mono fun e w' ⟨⟨g, h1, h2, h3⟩, h4⟩ => ⟨⟨_, h1, g, rfl, Nat.le_trans hb.size h2, h3⟩, h4⟩
  have HLA : Hid (∀ u g5, g5 ≠ g -> Row u g 40 (bytes (grid n (wholeT f k p t)) ++ ys) -> Lies u u.heap.size (some ⟨g5, 0, none⟩) (u8s Y) -> Calls Tryz.prog 109 #[.slice (some ⟨g, k * 60, none⟩) (n - k) (c2 - k), .int .i64 (t : Int), .slice (some ⟨g5, 0, none⟩) p p] u fun e w' => e = .returned (.tuple #[]) ∧ Row w' g 40 (bytes (grid n (wholeT f k p (t + 1))) ++ ys) ∧ Only g u w') := zh fun u g5 h1 h2 h3 => by
   have := znd g k p (c2 - k) n _ (wholeT f k p t) ys t g5 0 p Y u (by have := HPM.out; omega) (by have := HNN.out; omega) hlt HY8.out HYL.out h1 h2 h3
   rw [hnx] at this; rw [show n - k = p by have := HNN.out; omega]
   exact this
  have HROW := zh hrow
  have HBW := zh hbw
  clear hrow hbw hlt hX8 hXl hnx hX hY HWO1 HPA1
  go_wp2
  refine zaj [(0, 22), (1, 23), (2, 24), (3, 25), (4, 26), (5, 27), (6, 28), (7, 29), (8, 21), (9, 30), (10, 31), (11, 7), (12, 8)]
   (fun ii => [Is (.pointer (some ⟨c, 0, none⟩)), Is (.pointer (some ⟨c, 0, none⟩)), Is (.pointer (some ⟨c, 0, none⟩)), Is (.pointer (some ⟨cc, 0, none⟩)), Is (.slice a k cap), Is (.int .i64 (t : Int)), Nbs wr.heap.size k X, Ptp wr.heap.size p Y, Ptp wr.heap.size p Y, Nbs wr.heap.size p Y, Is (.int .i64 0), Nbs wr.heap.size p Y, Is (.int .i64 0)].getD ii (Is undef))
   (fun w' => Below wr.heap.size wr w') (by kernel_rfl) (by kernel_rfl) (by decide) (by decide) (by kernel_rfl) rfl ?monoa ((zb).drew) ?stepa ?fina
  case monoa =>
   intro i
   match i with
   | 0 | 1 | 2 | 3 | 4 | 5 | 10 | 12 => exact Is.monot _
   | 6 | 9 | 11 => exact Nbs.monot _ _ _
   | 7 | 8 => exact Ptp.monot _ _ _
   | _ + 13 => exact Is.monot _
  case stepa =>
   refine zf ⟨?as0, zf ⟨?as1, zf ⟨?as2, zf ⟨?as3, zf ⟨?as4, zf ⟨?as5, zf ⟨?as6, zf ⟨?as7, zf ⟨?as8, zf ⟨?as9, zf ⟨?as10, zf ⟨?as11, zf ⟨?as12, List.forall_mem_nil _⟩⟩⟩⟩⟩⟩⟩⟩⟩⟩⟩⟩⟩
   case as0 | as4 | as5 =>
    intro u wx hg hC; clear hC; refine wpOp_step rfl fun K hK => ?_
    simp only [puts, List.foldl]; go_simp; exact zK hK hg
   case as1 =>
    intro u wx hg hC; have hJ0 := zj hC 0; clear hC; refine wpOp_step rfl fun K hK => ?_
    simp only [puts, List.foldl]; go_simp; exact zK hK hg
   case as2 =>
    intro u wx hg hC; have hJ1 := zj hC 1; clear hC; refine wpOp_step rfl fun K hK => ?_
    simp only [puts, List.foldl]; go_simp; exact zK hK hg
   case as3 =>
    intro u wx hg hC; have hJ2 := zj hC 2; clear hC
    have hcl : wx.cell? ⟨c, 0, none⟩ = some (.pointer (some ⟨cc, 0, none⟩)) := (hg.cell (p := ⟨c, 0, none⟩) HLT.out).trans C0.out
    refine wpOp_step rfl fun K hK => ?_
    simp only [puts, List.foldl]; go_simp; exact zK hK hg
   case as6 =>
    intro u wx hg hC; have hJ4 := zj hC 4; have hJ5 := zj hC 5; clear hC; refine wpOp_step rfl fun K hK => ?_
    simp only [puts, List.foldl]; go_simp
    refine (HWO.out wx hg).mono ?_
    rintro e w' ⟨⟨v, rfl, hv⟩, hb'⟩
    exact hK _ _ ⟨rfl, hv, hg.next hb', hb'⟩
   case as7 =>
    intro u wx hg hC; have hJ3 := zj hC 3
    have hJ6 : (Nbs wr.heap.size k X) (u 6) wx := hC.at 6 (by kernel_rfl)
    clear hC; refine wpOp_step rfl fun K hK => ?_
    simp only [puts, List.foldl]; go_simp
    refine (HPA.out wx hg _ hJ6).mono ?_
    rintro e w' ⟨⟨v, rfl, hv⟩, hb'⟩
    exact hK _ _ ⟨rfl, hv, hg.next hb', hb'⟩
   case as8 =>
    intro u wx hg hC
    have hJ7 : (Ptp wr.heap.size p Y) (u 7) wx := hC.at 7 (by kernel_rfl)
    clear hC; refine wpOp_step rfl fun K hK => ?_
    simp only [puts, List.foldl]; go_simp; exact hK _ _ ⟨rfl, hJ7, hg, zb⟩
   case as9 =>
    intro u wx hg hC
    have hJ8 : (Ptp wr.heap.size p Y) (u 8) wx := hC.at 8 (by kernel_rfl)
    clear hC; obtain ⟨g9, e9, q9, r9⟩ := hJ8; refine wpOp_step rfl fun K hK => ?_
    simp only [puts, List.foldl]; go_simp; exact hK _ _ ⟨rfl, ⟨g9, rfl, q9, r9⟩, hg, zb⟩
   case as10 =>
    intro u wx hg hC
    have hJ8 : (Ptp wr.heap.size p Y) (u 8) wx := hC.at 8 (by kernel_rfl)
    clear hC; obtain ⟨g9, e9, q9, r9⟩ := hJ8; refine wpOp_step rfl fun K hK => ?_
    simp only [puts, List.foldl]; go_simp; exact zK hK hg
   case as11 =>
    intro u wx hg hC
    have hJ9 : (Nbs wr.heap.size p Y) (u 9) wx := hC.at 9 (by kernel_rfl)
    clear hC; refine wpOp_step rfl fun K hK => ?_
    simp only [puts, List.foldl]; go_simp; exact hK _ _ ⟨rfl, hJ9, hg, zb⟩
   case as12 =>
    intro u wx hg hC; have hJ10 := zj hC 10; clear hC; refine wpOp_step rfl fun K hK => ?_
    simp only [puts, List.foldl]; go_simp; exact zK hK hg
  case fina =>
   intro u w4 hb4 hφ; obtain ⟨g5, e5, q5, r5⟩ : Nbs wr.heap.size p Y (u 11) w4 := hφ (11, 7) (by decide)
   clear hφ; simp only [puts, List.foldl]; rw [e5]; go_simp; have R5 := zh r5; have Q5 := zh q5; have HB4 := zh (HBW.out.next hb4); have RW4 := zh (HROW.out.step hb4)
   have NE5 : Hid (g5 ≠ g) := zh (by have := HROW.out.lt; have := Q5.out; omega)
   clear r5 q5 hb4 e5
   go_wp2_with (go_at_call 109; (with_reducible refine (HLA.out w4 g5 NE5.out RW4.out (zbk R5.out)).mono ?_); rintro e w5 ⟨rfl, r6, o6⟩; have R6 := zh r6; have B6 := zh (HB4.out.trans (o6.below HGW.out HB4.out.size)); clear r6 o6)
   go_roundw
   case rel => exact ⟨t + 1, by omega, by go_num, R6.out, B6.out⟩
   case measure => simp [intOf]; omega
 .obtain rfl : t = 60 := by omega
  have HROW := zh hrow
  have HBW := zh hbw
  clear hrow hbw
  go_wp2
  go_ret
  exact ⟨⟨g, c2, ys, rfl, HC2.out, HGW.out, HROW.out⟩, HBW.out⟩
def idxF (l : List Nat) (i : Nat) : Int := if i ∈ l then ((l.findIdx fun x => decide (x = i) : Nat) : Int) else -1
theorem zbmf {l : List Nat} {i k : Nat} (hk : k < l.length) (h : ∀ j, j < k -> sq l j ≠ i) (e : sq l k = i) : idxF l i = (k : Int) := by
 have hm : i ∈ l := by rw [<- e, zar l k hk]; exact List.getElem_mem hk
 have : l.findIdx (fun x => decide (x = i)) = k := by
  rw [List.findIdx_eq hk]
  refine ⟨by rw [<- zar l k hk, e]; simp, fun j hj => ?_⟩
  have := h j hj
  rw [zar l j (by omega)] at this
  simpa using this
 rw [idxF, if_pos hm, this]
theorem zbmg {l : List Nat} {i : Nat} (h : ∀ j, j < l.length -> sq l j ≠ i) : idxF l i = -1 := by
 refine if_neg fun hm => ?_
 obtain ⟨j, hj, e⟩ := List.getElem_of_mem hm
 exact h j hj (by rw [zar l j hj, e])
theorem zsv (a : Option Addr) (cap : Nat) (l : List Nat) (i : Nat) (w : World) (hl : l.length <= 140737488355328) (hr : Lies w w.heap.size a (nats l)) :
  Calls Tryz.prog 137 #[.slice a l.length cap, .int .i64 (i : Int)] w fun e w' => e = .returned (.int .i64 (idxF l i)) ∧ w = w' := by
 go_enter Tryz.func137, Tryz.ntmps137
 go_wp2
 go_loop [8] (fun x => ∃ k : Nat, k <= l.length ∧ x = .int .i64 k ∧ ∀ j, j < k -> sq l j ≠ i) (fun x => l.length - (intOf x).toNat)
 case atStart => exact ⟨0, Nat.zero_le _, rfl, fun j hj => absurd hj (by omega)⟩
 case round =>
  obtain ⟨k, hk, rfl, hz⟩ := hrel
  have HZ := zh hz
  clear hz
  by_cases hlt : k < l.length
  .obtain ⟨b2, off, rfl, hbb, hc⟩ := hr (by rw [zmr]; omega)
   have hcell : w.cell? ⟨b2, off + k, none⟩ = some (.int .i64 (sq l k : Int)) := by rw [zar l k hlt]; exact hc k _ (zva l k hlt)
   obtain ⟨x, hx⟩ : ∃ x, sq l k = x := ⟨_, rfl⟩; rw [hx] at hcell
   have hk1 : (k : Int) < l.length := by omega
   by_cases h0 : (i : Int) = (x : Int)
   .have HX : Hid (idxF l i = (k : Int)) := zh (zbmf hlt HZ.out (by rw [hx]; omega))
    have h0b : ((i : Int) == (x : Int)) = true := by simpa using h0
    clear hr hc hx h0; go_wp2; go_ret; exact ⟨zay HX.out.symm, rfl⟩
   .have HX : Hid (sq l k ≠ i) := zh (by rw [hx]; omega)
    have h0b : ((i : Int) == (x : Int)) = false := by simpa using h0
    clear hr hc hx h0; go_wp2
    go_round
    case rel => exact ⟨k + 1, by omega, by go_num, fun j hj => by
     by_cases e : j = k
     .rw [e]; exact HX.out
     .exact HZ.out j (by omega)⟩
    case measure => simp [intOf]; omega
  .have HX : Hid (idxF l i = -1) := zh (zbmg fun j hj => HZ.out j (by omega))
   clear hr; go_wp2; go_ret; exact ⟨zay HX.out.symm, rfl⟩
theorem zoa (a : Option Addr) (cap : Nat) (l : List Nat) (i : Nat) (w : World) (hl : l.length <= 140737488355328) (hr : Lies w w.heap.size a (nats l)) :
  Calls Tryz.prog 110 #[.slice a l.length cap, .int .i64 (i : Int)] w fun e w' => e = .returned (.bool (decide (i ∈ l))) ∧ Below w.heap.size w w' := by
 have HI := zh (zsv a cap l i w hl hr)
 have HD : Hid (decide (i ∈ l) = decide (0 <= idxF l i)) := zh (by
  unfold idxF
  by_cases h : i ∈ l
  .rw [if_pos h, decide_eq_true h, decide_eq_true (by omega)]
  .rw [if_neg h, decide_eq_false h, decide_eq_false (by omega)])
 rw [HD.out]
 obtain ⟨m, hm⟩ : ∃ m, idxF l i = m := ⟨_, rfl⟩
 rw [hm] at HI ⊢
 clear hm HD hr
 by_cases h : 0 <= m
 .have h2 : decide (0 <= m) = true := decide_eq_true h
  rw [h2]
  go_enter Tryz.func110, Tryz.ntmps110
  go_wp2_with (go_at_call 137; (with_reducible refine HI.out.mono ?_); rintro e w1 ⟨rfl, rfl⟩)
  go_ret
  exact ⟨rfl, zb⟩
 .have h2 : decide (0 <= m) = false := decide_eq_false h
  rw [h2]
  go_enter Tryz.func110, Tryz.ntmps110
  go_wp2_with (go_at_call 137; (with_reducible refine HI.out.mono ?_); rintro e w1 ⟨rfl, rfl⟩)
  go_ret
  exact ⟨rfl, zb⟩
theorem zqx (a1 a2 : Option Addr) (cap1 cap2 n : Nat) (f g : Fb) (so : Option Addr) (cs : Nat) (S : List Nat) (w : World) (hn : n <= 1000) (h1 : Lies w w.heap.size a1 (bytes (grid n f))) (h2 : Lies w w.heap.size a2 (bytes (grid n g))) (hs : Lies w w.heap.size so (nats S)) (hsl : S.length <= 1000) :
  Calls Tryz.prog 72 #[.slice a1 n cap1, .slice a2 n cap2, .slice so S.length cs] w fun e w' => (∃ v, e = .returned v ∧ IReads w' v (unlF n f g S) ∧ (∀ q, v.ownBlock = some q -> w.heap.size <= q)) ∧ Below w.heap.size w w' := by
 have H1 := zh h1
 have H2 := zh h2
 have HCT : Hid (∀ wx, Below w.heap.size w wx -> ∀ i, Calls Tryz.prog 110 #[.slice so S.length cs, .int .i64 ((i : Nat) : Int)] wx fun e w' => e = .returned (.bool (decide (i ∈ S))) ∧ Below wx.heap.size wx w') := zh fun wx hb i => zoa so cs S i wx (by omega) ((hs.below hb).mono hb.size)
 have hn1 : (n : Int) <= 1000 := by omega
 have HN := zh hn
 obtain ⟨ns, hns⟩ : ∃ ns, S.length = ns := ⟨_, rfl⟩
 rw [hns] at HCT ⊢
 have hnil : w.ownsRow w.heap.size 3 1 (.slice none 0 0) (unlF 0 f g S).length (nats (unlF 0 f g S)) := ⟨rfl, .inl ⟨rfl, rfl⟩⟩
 have HNIL := zh hnil
 clear h1 h2 hs hsl hn hns hnil
 go_enter Tryz.func72, Tryz.ntmps72
 go_wp2
 go_loopw [7, 11] (fun v x wr => ∃ i : Nat, i <= n ∧ x = .int .i64 i ∧ wr.ownsRow w.heap.size 3 1 v (unlF i f g S).length (nats (unlF i f g S)) ∧ Below w.heap.size w wr) (fun _ x _ => n - (intOf x).toNat)
 case atStart => exact ⟨0, Nat.zero_le _, rfl, HNIL.out, zb⟩
 case round =>

 clear HNIL
 obtain ⟨i, hi, rfl, hown, hbw⟩ := hrel
 obtain ⟨av, cv, rfl, hcv, hlv⟩ := zle hown
 by_cases hlt : i < n
 .have hii : (i : Int) < (n : Int) := by omega
  obtain ⟨x1, z1, rfl, hb1, hc1⟩ := H1.out (by rw [zaa, zan]; omega)
  obtain ⟨x2, z2, rfl, hb2, hc2⟩ := H2.out (by rw [zaa, zan]; omega)
  obtain ⟨y1, hy1⟩ : ∃ y, z1 + i * 60 = y := ⟨_, rfl⟩
  obtain ⟨y2, hy2⟩ : ∃ y, z2 + i * 60 = y := ⟨_, rfl⟩
  have hr1 : ∀ wx, Below wr.heap.size wr wx -> wx.rangeAt x1 y1 (bytes (bkF f i)) := fun wx hb => by
   rw [<- hy1]; exact zgf (fun j u hj => ((hbw.next hb).cell (p := ⟨x1, z1 + j, none⟩) hb1).trans (hc1 j u hj)) i hlt
  have hr2 : ∀ wx, Below wr.heap.size wr wx -> wx.rangeAt x2 y2 (bytes (bkF g i)) := fun wx hb => by
   rw [<- hy2]; exact zgf (fun j u hj => ((hbw.next hb).cell (p := ⟨x2, z2 + j, none⟩) hb2).trans (hc2 j u hj)) i hlt
  have LB1 : Hid ((bytes (bkF f i)).length = 60) := zh (by rw [zaa, zba])
  have LB2 : Hid ((bytes (bkF g i)).length = 60) := zh (by rw [zaa, zba])
  have heq : ∀ u : World, (Op.equalIn 10000 40 (.agg (bytes (bkF f i)).toArray) (.agg (bytes (bkF g i)).toArray)).run Tryz.prog u = .ok (decide (bkF f i = bkF g i)) u := zbhr _ _ (zba _ _) (zba _ _)
  have hlen := zzv i f g S
  have hnx := zbgr i f g S
  have HCO0 := zh (fun wx (hb : Below wr.heap.size wr wx) => HCT.out wx (hbw.next hb) i)
  have HR1 := zh hr1
  have HR2 := zh hr2
  have HY1 := zh hy1
  have HY2 := zh hy2
  have HO1 : Hid ((Value.int .i64 (i : Int)).oneCell' = true) := zh rfl
  have HOL : Hid (∀ s, (Value.slice av (unlF i f g S).length cv).ownBlock = some s -> w.heap.size <= s) := zh fun s hs => (hown.lt s hs).1
  have HPK : Big ((unlF i f g S).length + 1 <= 1099511627776) := ⟨by omega⟩
  have HOWN := zh hown
  have HBW := zh hbw
  have HD : Hid (decide (bkF f i ≠ bkF g i) = !decide (bkF f i = bkF g i)) := zh (by simp)
  rw [HD.out] at hnx
  obtain ⟨d, hd⟩ : ∃ d, decide (bkF f i = bkF g i) = d := ⟨_, rfl⟩
  obtain ⟨q, hq⟩ : ∃ q, decide (i ∈ S) = q := ⟨_, rfl⟩
  rw [hd] at heq hnx
  rw [hq] at HCO0 hnx
  have HEQ := zh heq
  have HU := zh hnx
  obtain ⟨B1, hB1⟩ : ∃ B, bytes (bkF f i) = B := ⟨_, rfl⟩
  obtain ⟨B2, hB2⟩ : ∃ B, bytes (bkF g i) = B := ⟨_, rfl⟩
  rw [hB1] at HR1 LB1 HEQ
  rw [hB2] at HR2 LB2 HEQ
  obtain ⟨U, hU⟩ : ∃ U, unlF i f g S = U := ⟨_, rfl⟩
  rw [hU] at HU HOL HPK HOWN ⊢
  clear hown hbw hcv hlv hc1 hc2 hy1 hy2 hr1 hr2 heq hlen hnx hd hq hB1 hB2 hU HD hlt HCT H1 H2 hb1 hb2
  have HCO : Hid (∀ wx, Below wr.heap.size wr wx -> Calls Tryz.prog 110 #[.slice so ns cs, .int .i64 (i : Int)] wx fun e w' => e = .returned (.bool q) ∧ Below wx.heap.size wx w') := HCO0
  clear HCO0
  cases d
  .have HLL : Hid ((unlF (i + 1) f g S).length = U.length + 1) := zh (by rw [HU.out]; simp)
   have HNX : Hid (nats U ++ [.int .i64 (i : Int)] = nats (unlF (i + 1) f g S)) := zh (by rw [HU.out, <- zhp]; simp)
   clear HU HCO; go_wp2
   refine zaj [(0, 14), (1, 15), (2, 16), (3, 17), (4, 18), (5, 19), (6, 20), (7, 21), (8, 22), (9, 23), (10, 24), (11, 25), (12, 26), (13, 27)]
    (fun ii => [Is (.slice (some ⟨x1, z1, none⟩) n cap1), Is (.int .i64 (i : Int)), Is (.pointer (some ⟨x1, y1, none⟩)), Is (.agg (B1).toArray), Is (.slice (some ⟨x2, z2, none⟩) n cap2), Is (.int .i64 (i : Int)), Is (.pointer (some ⟨x2, y2, none⟩)), Is (.agg (B2).toArray), Is (.bool true), Is (.bool true), Is undef, Is undef, Is undef, Is (.bool true)].getD ii (Is undef))
    (fun w' => Below wr.heap.size wr w') (by kernel_rfl) (by kernel_rfl) (by decide) (by decide) (by kernel_rfl) rfl ?monoa ((zb).drew) ?stepa ?fina
   case monoa =>
    intro i
    match i with
    | 0 | 1 | 2 | 3 | 4 | 5 | 6 | 7 | 8 | 9 | 10 | 11 | 12 | 13 => exact Is.monot _
    | _ + 14 => exact Is.monot _
   case stepa =>
    refine zf ⟨?as0, zf ⟨?as1, zf ⟨?as2, zf ⟨?as3, zf ⟨?as4, zf ⟨?as5, zf ⟨?as6, zf ⟨?as7, zf ⟨?as8, zf ⟨?as9, zf ⟨?as10, zf ⟨?as11, zf ⟨?as12, zf ⟨?as13, List.forall_mem_nil _⟩⟩⟩⟩⟩⟩⟩⟩⟩⟩⟩⟩⟩⟩
    case as0 | as1 | as4 | as5 =>
     intro u wx hg hC; clear hC; refine wpOp_step rfl fun K hK => ?_
     simp only [puts, List.foldl]; go_simp; exact zK hK hg
    case as2 =>
     intro u wx hg hC; have hJ0 := zj hC 0; have hJ1 := zj hC 1; clear hC; have hy1 := HY1.out; refine wpOp_step rfl fun K hK => ?_
     simp only [puts, List.foldl]; go_simp; exact zK hK hg
    case as3 =>
     intro u wx hg hC; have hJ2 := zj hC 2; clear hC; generalize hA : puts [(0, 14), (1, 15), (2, 16), (3, 17), (4, 18), (5, 19), (6, 20), (7, 21), (8, 22), (9, 23), (10, 24), (11, 25), (12, 26), (13, 27)] _ u = A
     have hp : A.tmps.getD 16 undef = .pointer (some ⟨x1, y1, none⟩) := by rw [<- hA]; exact (zat u 2 16 _ _ (by decide) (by decide) (by kernel_rfl)).trans hJ2
     have hsz : 17 < A.tmps.size := by rw [<- hA]; exact zaq u (by kernel_rfl)
     refine wpOp_step rfl fun K hK => ?_
     clear hA; exact opLoadRK (φ := Is (.agg (B1).toArray)) (HR1.out wx hg) _ fits_block LB1.out 17 rfl hsz hK (.tmp 16) rfl hp rfl hg
    case as6 =>
     intro u wx hg hC; have hJ4 := zj hC 4; have hJ5 := zj hC 5; clear hC; have hy2 := HY2.out; refine wpOp_step rfl fun K hK => ?_
     simp only [puts, List.foldl]; go_simp; exact zK hK hg
    case as7 =>
     intro u wx hg hC; have hJ6 := zj hC 6; clear hC; generalize hA : puts [(0, 14), (1, 15), (2, 16), (3, 17), (4, 18), (5, 19), (6, 20), (7, 21), (8, 22), (9, 23), (10, 24), (11, 25), (12, 26), (13, 27)] _ u = A
     have hp : A.tmps.getD 20 undef = .pointer (some ⟨x2, y2, none⟩) := by rw [<- hA]; exact (zat u 6 20 _ _ (by decide) (by decide) (by kernel_rfl)).trans hJ6
     have hsz : 21 < A.tmps.size := by rw [<- hA]; exact zaq u (by kernel_rfl)
     refine wpOp_step rfl fun K hK => ?_
     clear hA; exact opLoadRK (φ := Is (.agg (B2).toArray)) (HR2.out wx hg) _ fits_block LB2.out 21 rfl hsz hK (.tmp 20) rfl hp rfl hg
    case as8 =>
     intro u wx hg hC; have hJ3 := zj hC 3; have hJ7 := zj hC 7; clear hC; have heq := HEQ.out; refine wpOp_step rfl fun K hK => ?_
     simp only [puts, List.foldl]; go_simp; exact zK hK hg
    case as9 =>
     intro u wx hg hC; have hJ8 := zj hC 8; clear hC; refine wpOp_step rfl fun K hK => ?_
     simp only [puts, List.foldl]; go_simp; exact zK hK hg
    case as10 | as11 | as12 =>
     intro u wx hg hC; have hJ9 := zj hC 9; clear hC; generalize hA : puts [(0, 14), (1, 15), (2, 16), (3, 17), (4, 18), (5, 19), (6, 20), (7, 21), (8, 22), (9, 23), (10, 24), (11, 25), (12, 26), (13, 27)] _ u = A
     refine zkA hA rfl 9 23 false rfl rfl hJ9 ?_
     subst hA; simp only [puts, List.foldl]; go_simp
     first | exact ⟨rfl, hg, zb⟩ | exact ⟨rfl, hg⟩ | exact ⟨rfl, zb⟩ | exact ⟨rfl, rfl, hg, zb⟩ | exact ⟨hg, zb⟩
    case as13 =>
     intro u wx hg hC; have hJ9 := zj hC 9; have hJ12 := zj hC 12; clear hC; refine wpOp_step rfl fun K hK => ?_
     simp only [puts, List.foldl]; go_simp; exact zK hK hg
   case fina =>
    intro u w4 hb4 hφ
    have e13 : u 13 = .bool true := hφ (13, 27) (by decide)
    clear hφ; simp only [puts, List.foldl]; rw [e13]; go_simp; have HB4 := zh hb4; have HOW4 := zh (zbi HOWN.out hb4); have HOWA := zh (HOW4.out.alloc (.cells #[.int .i64 (i : Int)] 3)); have HLA := zh (Lies.new [Value.int .i64 (i : Int)] w4 3); have HBA := zh ((HBW.out.next HB4.out).alloc (HBW.out.next HB4.out).size (.cells #[.int .i64 (i : Int)] 3)); have HSA := zh HBA.out.size; clear hb4 e13
    go_wp2_with ((with_reducible refine wpAppend1K HOWA.out Tryz.underlying47 zlz HLA.out HO1.out HPK HSA.out ?_ ?_); rfl; intro v3 w3 g3 q3 k3; rw [HNX.out] at g3; have O3 := zh g3; have B3 : Hid (Below w.heap.size w w3) := zh (HBA.out.grown q3 HBA.out.size HOL.out); clear g3 q3 k3)
    go_roundw
    case rel => exact ⟨i + 1, by omega, by go_num, by rw [HLL.out]; exact O3.out, B3.out⟩
    case measure => simp [intOf]; omega
  .cases q
   .have HNX : Hid (unlF (i + 1) f g S = U) := zh (by rw [HU.out]; simp)
    clear HU HPK HOL HO1; go_wp2
    refine zaj [(0, 14), (1, 15), (2, 16), (3, 17), (4, 18), (5, 19), (6, 20), (7, 21), (8, 22), (9, 23), (10, 24), (11, 25), (12, 26), (13, 27)]
     (fun ii => [Is (.slice (some ⟨x1, z1, none⟩) n cap1), Is (.int .i64 (i : Int)), Is (.pointer (some ⟨x1, y1, none⟩)), Is (.agg (B1).toArray), Is (.slice (some ⟨x2, z2, none⟩) n cap2), Is (.int .i64 (i : Int)), Is (.pointer (some ⟨x2, y2, none⟩)), Is (.agg (B2).toArray), Is (.bool false), Is (.bool false), Is (.slice so ns cs), Is (.int .i64 (i : Int)), Is (.bool false), Is (.bool false)].getD ii (Is undef))
     (fun w' => Below wr.heap.size wr w') (by kernel_rfl) (by kernel_rfl) (by decide) (by decide) (by kernel_rfl) rfl ?monob ((zb).drew) ?stepb ?finb
    case monob =>
     intro i
     match i with
     | 0 | 1 | 2 | 3 | 4 | 5 | 6 | 7 | 8 | 9 | 10 | 11 | 12 | 13 => exact Is.monot _
     | _ + 14 => exact Is.monot _
    case stepb =>
     refine zf ⟨?bs0, zf ⟨?bs1, zf ⟨?bs2, zf ⟨?bs3, zf ⟨?bs4, zf ⟨?bs5, zf ⟨?bs6, zf ⟨?bs7, zf ⟨?bs8, zf ⟨?bs9, zf ⟨?bs10, zf ⟨?bs11, zf ⟨?bs12, zf ⟨?bs13, List.forall_mem_nil _⟩⟩⟩⟩⟩⟩⟩⟩⟩⟩⟩⟩⟩⟩
     case bs0 | bs1 | bs4 | bs5 =>
      intro u wx hg hC; clear hC; refine wpOp_step rfl fun K hK => ?_
      simp only [puts, List.foldl]; go_simp; exact zK hK hg
     case bs2 =>
      intro u wx hg hC; have hJ0 := zj hC 0; have hJ1 := zj hC 1; clear hC; have hy1 := HY1.out; refine wpOp_step rfl fun K hK => ?_
      simp only [puts, List.foldl]; go_simp; exact zK hK hg
     case bs3 =>
      intro u wx hg hC; have hJ2 := zj hC 2; clear hC; generalize hA : puts [(0, 14), (1, 15), (2, 16), (3, 17), (4, 18), (5, 19), (6, 20), (7, 21), (8, 22), (9, 23), (10, 24), (11, 25), (12, 26), (13, 27)] _ u = A
      have hp : A.tmps.getD 16 undef = .pointer (some ⟨x1, y1, none⟩) := by rw [<- hA]; exact (zat u 2 16 _ _ (by decide) (by decide) (by kernel_rfl)).trans hJ2
      have hsz : 17 < A.tmps.size := by rw [<- hA]; exact zaq u (by kernel_rfl)
      refine wpOp_step rfl fun K hK => ?_
      clear hA; exact opLoadRK (φ := Is (.agg (B1).toArray)) (HR1.out wx hg) _ fits_block LB1.out 17 rfl hsz hK (.tmp 16) rfl hp rfl hg
     case bs6 =>
      intro u wx hg hC; have hJ4 := zj hC 4; have hJ5 := zj hC 5; clear hC; have hy2 := HY2.out; refine wpOp_step rfl fun K hK => ?_
      simp only [puts, List.foldl]; go_simp; exact zK hK hg
     case bs7 =>
      intro u wx hg hC; have hJ6 := zj hC 6; clear hC; generalize hA : puts [(0, 14), (1, 15), (2, 16), (3, 17), (4, 18), (5, 19), (6, 20), (7, 21), (8, 22), (9, 23), (10, 24), (11, 25), (12, 26), (13, 27)] _ u = A
      have hp : A.tmps.getD 20 undef = .pointer (some ⟨x2, y2, none⟩) := by rw [<- hA]; exact (zat u 6 20 _ _ (by decide) (by decide) (by kernel_rfl)).trans hJ6
      have hsz : 21 < A.tmps.size := by rw [<- hA]; exact zaq u (by kernel_rfl)
      refine wpOp_step rfl fun K hK => ?_
      clear hA; exact opLoadRK (φ := Is (.agg (B2).toArray)) (HR2.out wx hg) _ fits_block LB2.out 21 rfl hsz hK (.tmp 20) rfl hp rfl hg
     case bs8 =>
      intro u wx hg hC; have hJ3 := zj hC 3; have hJ7 := zj hC 7; clear hC; have heq := HEQ.out; refine wpOp_step rfl fun K hK => ?_
      simp only [puts, List.foldl]; go_simp; exact zK hK hg
     case bs9 =>
      intro u wx hg hC; have hJ8 := zj hC 8; clear hC; refine wpOp_step rfl fun K hK => ?_
      simp only [puts, List.foldl]; go_simp; exact zK hK hg
     case bs10 | bs11 =>
      intro u wx hg hC; have hJ9 := zj hC 9; clear hC; generalize hA : puts [(0, 14), (1, 15), (2, 16), (3, 17), (4, 18), (5, 19), (6, 20), (7, 21), (8, 22), (9, 23), (10, 24), (11, 25), (12, 26), (13, 27)] _ u = A
      refine zgA hA rfl 9 23 false rfl rfl hJ9 (fun K hK => ?_)
      subst hA; simp only [puts, List.foldl]; go_simp; exact zK hK hg
     case bs12 =>
      intro u wx hg hC; have hJ9 := zj hC 9; have hJ10 := zj hC 10; have hJ11 := zj hC 11; clear hC; generalize hA : puts [(0, 14), (1, 15), (2, 16), (3, 17), (4, 18), (5, 19), (6, 20), (7, 21), (8, 22), (9, 23), (10, 24), (11, 25), (12, 26), (13, 27)] _ u = A
      refine zgA hA rfl 9 23 false rfl rfl hJ9 (fun K hK => ?_)
      subst hA; simp only [puts, List.foldl]; go_simp
      refine (HCO.out wx hg).mono ?_
      rintro e w' ⟨rfl, hb'⟩
      exact hK _ _ ⟨rfl, rfl, hg.next hb', hb'⟩
     case bs13 =>
      intro u wx hg hC; have hJ9 := zj hC 9; have hJ12 := zj hC 12; clear hC; refine wpOp_step rfl fun K hK => ?_
      simp only [puts, List.foldl]; go_simp; exact zK hK hg
    case finb =>
     intro u w4 hb4 hφ
     have e13 : u 13 = .bool false := hφ (13, 27) (by decide)
     clear hφ; simp only [puts, List.foldl]; rw [e13]; go_simp; have HB4 := zh hb4; have HOW4 := zh (zbi HOWN.out hb4); clear hb4 e13; go_wp2
     go_roundw
     case rel => exact ⟨i + 1, by omega, by go_num, by rw [HNX.out]; exact HOW4.out, HBW.out.next HB4.out⟩
     case measure => simp [intOf]; omega
   .have HLL : Hid ((unlF (i + 1) f g S).length = U.length + 1) := zh (by rw [HU.out]; simp)
    have HNX : Hid (nats U ++ [.int .i64 (i : Int)] = nats (unlF (i + 1) f g S)) := zh (by rw [HU.out, <- zhp]; simp)
    clear HU; go_wp2
    refine zaj [(0, 14), (1, 15), (2, 16), (3, 17), (4, 18), (5, 19), (6, 20), (7, 21), (8, 22), (9, 23), (10, 24), (11, 25), (12, 26), (13, 27)]
     (fun ii => [Is (.slice (some ⟨x1, z1, none⟩) n cap1), Is (.int .i64 (i : Int)), Is (.pointer (some ⟨x1, y1, none⟩)), Is (.agg (B1).toArray), Is (.slice (some ⟨x2, z2, none⟩) n cap2), Is (.int .i64 (i : Int)), Is (.pointer (some ⟨x2, y2, none⟩)), Is (.agg (B2).toArray), Is (.bool false), Is (.bool false), Is (.slice so ns cs), Is (.int .i64 (i : Int)), Is (.bool true), Is (.bool true)].getD ii (Is undef))
     (fun w' => Below wr.heap.size wr w') (by kernel_rfl) (by kernel_rfl) (by decide) (by decide) (by kernel_rfl) rfl ?monoc ((zb).drew) ?stepc ?finc
    case monoc =>
     intro i
     match i with
     | 0 | 1 | 2 | 3 | 4 | 5 | 6 | 7 | 8 | 9 | 10 | 11 | 12 | 13 => exact Is.monot _
     | _ + 14 => exact Is.monot _
    case stepc =>
     refine zf ⟨?cs0, zf ⟨?cs1, zf ⟨?cs2, zf ⟨?cs3, zf ⟨?cs4, zf ⟨?cs5, zf ⟨?cs6, zf ⟨?cs7, zf ⟨?cs8, zf ⟨?cs9, zf ⟨?cs10, zf ⟨?cs11, zf ⟨?cs12, zf ⟨?cs13, List.forall_mem_nil _⟩⟩⟩⟩⟩⟩⟩⟩⟩⟩⟩⟩⟩⟩
     case cs0 | cs1 | cs4 | cs5 =>
      intro u wx hg hC; clear hC; refine wpOp_step rfl fun K hK => ?_
      simp only [puts, List.foldl]; go_simp; exact zK hK hg
     case cs2 =>
      intro u wx hg hC; have hJ0 := zj hC 0; have hJ1 := zj hC 1; clear hC; have hy1 := HY1.out; refine wpOp_step rfl fun K hK => ?_
      simp only [puts, List.foldl]; go_simp; exact zK hK hg
     case cs3 =>
      intro u wx hg hC; have hJ2 := zj hC 2; clear hC; generalize hA : puts [(0, 14), (1, 15), (2, 16), (3, 17), (4, 18), (5, 19), (6, 20), (7, 21), (8, 22), (9, 23), (10, 24), (11, 25), (12, 26), (13, 27)] _ u = A
      have hp : A.tmps.getD 16 undef = .pointer (some ⟨x1, y1, none⟩) := by rw [<- hA]; exact (zat u 2 16 _ _ (by decide) (by decide) (by kernel_rfl)).trans hJ2
      have hsz : 17 < A.tmps.size := by rw [<- hA]; exact zaq u (by kernel_rfl)
      refine wpOp_step rfl fun K hK => ?_
      clear hA; exact opLoadRK (φ := Is (.agg (B1).toArray)) (HR1.out wx hg) _ fits_block LB1.out 17 rfl hsz hK (.tmp 16) rfl hp rfl hg
     case cs6 =>
      intro u wx hg hC; have hJ4 := zj hC 4; have hJ5 := zj hC 5; clear hC; have hy2 := HY2.out; refine wpOp_step rfl fun K hK => ?_
      simp only [puts, List.foldl]; go_simp; exact zK hK hg
     case cs7 =>
      intro u wx hg hC; have hJ6 := zj hC 6; clear hC; generalize hA : puts [(0, 14), (1, 15), (2, 16), (3, 17), (4, 18), (5, 19), (6, 20), (7, 21), (8, 22), (9, 23), (10, 24), (11, 25), (12, 26), (13, 27)] _ u = A
      have hp : A.tmps.getD 20 undef = .pointer (some ⟨x2, y2, none⟩) := by rw [<- hA]; exact (zat u 6 20 _ _ (by decide) (by decide) (by kernel_rfl)).trans hJ6
      have hsz : 21 < A.tmps.size := by rw [<- hA]; exact zaq u (by kernel_rfl)
      refine wpOp_step rfl fun K hK => ?_
      clear hA; exact opLoadRK (φ := Is (.agg (B2).toArray)) (HR2.out wx hg) _ fits_block LB2.out 21 rfl hsz hK (.tmp 20) rfl hp rfl hg
     case cs8 =>
      intro u wx hg hC; have hJ3 := zj hC 3; have hJ7 := zj hC 7; clear hC; have heq := HEQ.out; refine wpOp_step rfl fun K hK => ?_
      simp only [puts, List.foldl]; go_simp; exact zK hK hg
     case cs9 =>
      intro u wx hg hC; have hJ8 := zj hC 8; clear hC; refine wpOp_step rfl fun K hK => ?_
      simp only [puts, List.foldl]; go_simp; exact zK hK hg
     case cs10 | cs11 =>
      intro u wx hg hC; have hJ9 := zj hC 9; clear hC; generalize hA : puts [(0, 14), (1, 15), (2, 16), (3, 17), (4, 18), (5, 19), (6, 20), (7, 21), (8, 22), (9, 23), (10, 24), (11, 25), (12, 26), (13, 27)] _ u = A
      refine zgA hA rfl 9 23 false rfl rfl hJ9 (fun K hK => ?_)
      subst hA; simp only [puts, List.foldl]; go_simp; exact zK hK hg
     case cs12 =>
      intro u wx hg hC; have hJ9 := zj hC 9; have hJ10 := zj hC 10; have hJ11 := zj hC 11; clear hC; generalize hA : puts [(0, 14), (1, 15), (2, 16), (3, 17), (4, 18), (5, 19), (6, 20), (7, 21), (8, 22), (9, 23), (10, 24), (11, 25), (12, 26), (13, 27)] _ u = A
      refine zgA hA rfl 9 23 false rfl rfl hJ9 (fun K hK => ?_)
      subst hA; simp only [puts, List.foldl]; go_simp
      refine (HCO.out wx hg).mono ?_
      rintro e w' ⟨rfl, hb'⟩
      exact hK _ _ ⟨rfl, rfl, hg.next hb', hb'⟩
     case cs13 =>
      intro u wx hg hC; have hJ9 := zj hC 9; have hJ12 := zj hC 12; clear hC; refine wpOp_step rfl fun K hK => ?_
      simp only [puts, List.foldl]; go_simp; exact zK hK hg
    case finc =>
     intro u w4 hb4 hφ
     have e13 : u 13 = .bool true := hφ (13, 27) (by decide)
     clear hφ; simp only [puts, List.foldl]; rw [e13]; go_simp; have HB4 := zh hb4; have HOW4 := zh (zbi HOWN.out hb4); have HOWA := zh (HOW4.out.alloc (.cells #[.int .i64 (i : Int)] 3)); have HLA := zh (Lies.new [Value.int .i64 (i : Int)] w4 3); have HBA := zh ((HBW.out.next HB4.out).alloc (HBW.out.next HB4.out).size (.cells #[.int .i64 (i : Int)] 3)); have HSA := zh HBA.out.size; clear hb4 e13
     go_wp2_with ((with_reducible refine wpAppend1K HOWA.out Tryz.underlying47 zlz HLA.out HO1.out HPK HSA.out ?_ ?_); rfl; intro v3 w3 g3 q3 k3; rw [HNX.out] at g3; have O3 := zh g3; have B3 : Hid (Below w.heap.size w w3) := zh (HBA.out.grown q3 HBA.out.size HOL.out); clear g3 q3 k3)
     go_roundw
     case rel => exact ⟨i + 1, by omega, by go_num, by rw [HLL.out]; exact O3.out, B3.out⟩
     case measure => simp [intOf]; omega
 .obtain rfl : i = n := by omega
  have HV : Hid (IReads wr (.slice av (unlF i f g S).length cv) (unlF i f g S)) := zh ⟨av, cv, rfl, hcv, hlv⟩
  have HOL : Hid (∀ s, (Value.slice av (unlF i f g S).length cv).ownBlock = some s -> w.heap.size <= s) := zh fun s hs => (hown.lt s hs).1
  have HBW := zh hbw
  clear hown hbw hcv hlv
  go_wp2
  go_ret
  exact ⟨⟨_, rfl, HV.out, HOL.out⟩, HBW.out⟩
end
end Go.Proofs.YtojimgbcghiblaaGreatDoor