import Derived.Test.YtojimgbcghiblaaGreatDoorShelf
import Derived.Lib.MakeNoZero
import Derived.Deep.Slices
import Derived.SizedLaws
import Derived.OpenShut
import Derived.Below
import Derived.ChangeArms
import Derived.ChangeMaps5
import Derived.RowKit
import Derived.Deep.QuietTactic
import Derived.Laws.BitsAllLaws
import Derived.StillTailTactics
import Derived.WalkKit
import Derived.PlainAid
import Derived.Lib.Join
import Derived.Deep.RegionWith
import Derived.Test.YtojimgbcghiblaaGreatDoorL1
set_option linter.unusedVariables false
set_option maxRecDepth 100000
set_option maxHeartbeats 8000000
namespace Go.Proofs.YtojimgbcghiblaaGreatDoor
section
open Go.RowKit
section
variable {P : Program} {ops : Array Oper} {Q : Exit -> Act -> World -> Prop}
theorem zmw (R : World -> World -> Prop) {id : Nat} {a : Act} {w : World} (D : List (Nat × Nat)) (φ : Nat -> Value -> World -> Prop) (G : World -> Prop) (hm : P.follows .mixedOrders = true)
  (hord : ordX ops = true) (hD1 : D.map (·.1) = List.range ops.size) (hD2 : (D.map (·.2)).Nodup) (hD3 : (D.all fun p => (ops[p.1]?.bind (·.dst)) == some p.2) = true) (hD4 : (D.all fun p => Nat.blt p.2 a.tmps.size) = true)
  (hmono : ∀ i v w w', φ i v w -> R w w' -> φ i v w') (hG : G w.drew)
  (step : ∀ p ∈ D, ∀ u w, G w -> Came ops φ u w p.1 -> (∀ p' ∈ D, reachB ops ops.size p'.1 p.1 = true -> u p'.1 = a.tmps.getD p'.2 undef) ->
   wpOp P ops Q p.1 (fun a' w' => a'.defers = (puts D a u).defers ∧ φ p.1 (a'.tmps.getD p.2 undef) w' ∧ G w' ∧ R w w') (puts D a u) w)
  (fin : ∀ u w, G w -> (∀ p ∈ D, φ p.1 (u p.1) w) -> Q .normal (puts D a u) w) : (Code.region id ops true).wp P Q a w := by
 refine wp_region_any hm ?_
 have hnd1 : (D.map (·.1)).Nodup := by rw [hD1]; exact List.nodup_range
 have key : ∀ (fuel : Nat) (listed : Array Bool) (w : World) (u : Nat -> Value) (L : List Nat), listed.size = ops.size -> L.length <= fuel -> (∀ i, listed.getD i true = false -> i ∈ L) -> Anc ops listed -> (∀ p ∈ D, listed.getD p.1 false = false -> u p.1 = a.tmps.getD p.2 undef) -> G w ->
   (∀ i, i < ops.size -> listed.getD i true = true -> φ i (u i) w) -> wpAny P .any ops Q fuel listed (puts D a u) w := by
  intro fuel
  induction fuel with
  | zero =>
   intro listed w u L hs hL hin hanc hold hg hφ
   have hall : ∀ i, listed.getD i true = true := fun i => by
    cases hi : listed.getD i true with
    | true => rfl
    | false => have := hin i hi; rw [List.length_eq_zero_iff.1 (Nat.le_zero.1 hL)] at this; cases this
   refine ⟨?_, fin u w hg fun p hp => hφ p.1 ?_ (hall _)⟩
   .rw [List.eq_nil_iff_forall_not_mem]
    intro i hi
    have := (mem_ready.1 hi).2.1
    rw [hall i] at this
    cases this
   .have : p.1 ∈ D.map (·.1) := List.mem_map.2 ⟨p, hp, rfl⟩
    rw [hD1] at this; exact List.mem_range.1 this
  | succ fuel ih =>
   intro listed w u L hs hL hin hanc hold hg hφ
   refine ⟨fun hr => fin u w hg fun p hp => hφ p.1 ?_ (zdb hord hs hr _), fun i hi => ?_⟩
   .have : p.1 ∈ D.map (·.1) := List.mem_map.2 ⟨p, hp, rfl⟩
    rw [hD1] at this; exact List.mem_range.1 this
   .obtain ⟨h1, h2, o, ho, h3⟩ := mem_ready.1 hi
    have hiD : i ∈ D.map (·.1) := by rw [hD1]; exact List.mem_range.2 h1
    obtain ⟨⟨i', d⟩, hp, rfl⟩ := List.mem_map.1 hiD
    have hst := step _ hp u w hg (fun o' ho' e he hb => by
     have heq : o' = o := Option.some.inj (ho'.symm.trans ho)
     subst heq; have hl := h3 e he hb
     have hlt : e.on < ops.size := by
      rw [<- hs]
      by_cases hl2 : e.on < listed.size
      .exact hl2
      .simp [Array.getD, hl2] at hl
     refine hφ e.on hlt ?_
     have hl2 : e.on < listed.size := by omega
     simpa [Array.getD, hl2] using hl) (fun p' hp' hr => by
      refine hold p' hp' ?_
      cases hl : listed.getD p'.1 false with
      | false => rfl
      | true =>
       have := zdf hanc ops.size p'.1 i' (fun o' ho' e he hb => hanc p'.1 o' ho' hl e he hb) hr
       have hii : i' < listed.size := by omega
       rw [<- zuo hii, h2] at this
       cases this)
    have hd3 := List.all_eq_true.1 hD3 _ hp; have hd4 := List.all_eq_true.1 hD4 _ hp
    simp only [ho, Option.bind_some, beq_iff_eq] at hd3
    have hd5 : d < a.tmps.size := by simp [Nat.blt] at hd4; omega
    have hst2 := zcp (R := fun v w' => φ i' v w' ∧ G w' ∧ R w w') ho hd3 (by rw [zcj]; exact hd5) hst
    clear hst
    refine wpOp_mono ?_ hst2
    rintro a' w' ⟨v, rfl, hv, hg', hb'⟩
    rw [zdd u i' d v D a hnd1 hD2 hp]
    refine ih _ w' (upd u i' v) (L.erase i') (by simpa using hs) ?_ ?_ ?_ ?_ hg' ?_
    .rw [List.length_erase_of_mem (hin i' h2)]
     omega
    .intro j hj
     have hji : j ≠ i' := fun e => by
      subst e
      have : j < listed.size := by omega
      simp [Array.getD, this] at hj
     refine (List.mem_erase_of_ne hji).2 (hin j ?_)
     simp only [Array.getD] at hj ⊢
     split at hj
     .rename_i hl
      rw [Array.size_setIfInBounds] at hl; rw [dif_pos hl]
      rwa [Array.getInternal_eq_getElem, Array.getElem_setIfInBounds_ne (h := Ne.symm hji)] at hj
     .cases hj
    .intro j o' ho' hl e he hb
     by_cases ej : i' = j
     .subst ej
      obtain rfl := Option.some.inj (ho'.symm.trans ho)
      have := h3 e he hb
      by_cases e2 : i' = e.on
      .rw [<- e2, zbc (by omega)]
      .rw [zae e2]; exact this
     .rw [zae ej] at hl
      have := hanc j o' ho' hl e he hb
      by_cases e2 : i' = e.on
      .rw [<- e2, zbc (by omega)]
      .rw [zae e2]; exact this
    .intro p' hp' hl
     have hne : i' ≠ p'.1 := fun e => by
      rw [<- e, zbc (by omega)] at hl
      cases hl
     rw [zae hne] at hl
     have e1 : upd u i' v p'.1 = u p'.1 := by simp [upd, Ne.symm hne]
     rw [e1]; exact hold p' hp' hl
    .intro j hj hl
     by_cases hji : j = i'
     .subst hji
      simpa [upd] using hv
     .have e1 : upd u i' v j = u j := by simp [upd, hji]
      rw [e1]
      refine hmono j _ w w' (hφ j hj ?_) hb'
      have hl2 : j < listed.size := by omega
      simp only [Array.getD, Array.size_setIfInBounds, hl2, dif_pos, Array.getInternal_eq_getElem] at hl ⊢
      rwa [Array.getElem_setIfInBounds_ne (h := Ne.symm hji)] at hl
 have hu : ∃ u : Nat -> Value, (∀ p ∈ D, u p.1 = a.tmps.getD p.2 undef) ∧ puts D a u = a := by
  suffices hsf : ∃ u : Nat -> Value, ∀ p ∈ D, u p.1 = a.tmps.getD p.2 undef by
   obtain ⟨u, hu⟩ := hsf; exact ⟨u, hu, zdi u a D hu⟩
  refine ⟨fun i => ((D.find? fun p => p.1 == i).map fun p => a.tmps.getD p.2 undef).getD undef, fun p hp => ?_⟩
  have : D.find? (fun q => q.1 == p.1) = some p := by
   clear fin step hD2 hD1 hD3 hD4 key
   induction D with
   | nil => cases hp
   | cons q D ih =>
    rw [List.map_cons, List.nodup_cons] at hnd1
    rcases List.mem_cons.1 hp with rfl | hp
    .simp
    .have hne : (q.1 == p.1) = false := by
      rw [beq_eq_false_iff_ne]; intro e; exact hnd1.1 (List.mem_map.2 ⟨p, hp, e.symm⟩)
     rw [List.find?_cons, hne]
     exact ih hnd1.2 hp
  simp only [this, Option.map_some, Option.getD_some]
 obtain ⟨u, hu0, hu⟩ := hu
 have := key ops.size (Array.replicate ops.size false) w.drew u (List.range ops.size) (by simp) (by simp) (fun i hi => by
  rw [List.mem_range]
  by_cases hl : i < ops.size
  .exact hl
  .simp [Array.getD, hl] at hi) (fun i o _ hl => by
  have hfF : ∀ i, (Array.replicate ops.size false).getD i false = false := fun i => by
   by_cases h : i < ops.size <;> simp [Array.getD, h]
  rw [hfF] at hl; cases hl) (fun p hp _ => hu0 p hp) hG (fun i hi hl => by simp [Array.getD, hi] at hl)
 rw [hu] at this
 exact this
end
end
section
open Go.RowKit FlaMath
def rep (n : Nat) (x : Nat) : List Value := List.replicate n (.int .u8 (x : Int))
theorem zda (n x : Nat) : (rep n x).length = n := by simp [rep]
theorem zzl (n m x : Nat) : rep (n + m) x = rep n x ++ rep m x := by simp [rep, List.replicate_append_replicate]
theorem zzm (n x j : Nat) (h : j < n) : (rep n x)[j]? = some (.int .u8 (x : Int)) := by simp [rep, h]
theorem zrl : One Tryz.prog 5 := One.of (by kernel_rfl)
def St (g x tot k : Nat) (w : World) : Prop := ∃ z, Row w g 5 (rep k x ++ z) ∧ k + z.length = tot
theorem St.less {g x tot k m : Nat} {w : World} (h : St g x tot (k + m) w) : St g x tot k w := by
 obtain ⟨z, h1, h2⟩ := h
 exact ⟨rep m x ++ z, by rw [<- List.append_assoc, <- zzl]; exact h1, by rw [List.length_append, zda]; omega⟩
theorem St.step {g x tot k : Nat} {w w' : World} (h : St g x tot k w) (hb : Below w.heap.size w w') : St g x tot k w' := by
 obtain ⟨z, h1, h2⟩ := h
 exact ⟨z, h1.step hb, h2⟩
theorem ztw (g x tot b c d m cap1 cap2 : Nat) (w : World) (h : St g x tot b w) (hm : m = Nat.min c d) (hcb : m <= b) (hbt : b + m <= tot) (ty : TypeId) :
  ∃ w', (Builtin.copy_ #[107, 107] ty #[.slice (some ⟨g, b, none⟩) d cap1, .slice (some ⟨g, 0, none⟩) c cap2]).run Tryz.prog w = .ok (.int .i64 (m : Int)) w' ∧ St g x tot (b + m) w' ∧ Only g w w' := by
 obtain ⟨z, h1, h2⟩ := h
 have hr := run_copy_row (P := Tryz.prog) w 107 107 ty 5 g b d cap1 ⟨g, 0, none⟩ c cap2 (rep b x ++ z).toArray 5 (rep m x) Tryz.underlying107 zez h1 (by rw [zda]; exact hm)
  (fun j v hj => by
   have hj2 : j < m := by
    rcases Nat.lt_or_ge j m with h | h
    .exact h
    .rw [List.getElem?_eq_none (by rw [zda]; exact h)] at hj; cases hj
   rw [zzm m x j hj2] at hj; rw [Addr.add_lit, Nat.zero_add, h1.cell, List.getElem?_append_left (by rw [zda]; omega), zzm b x j (by omega)]
   exact hj) (by simp only [List.size_toArray, List.length_append, zda]; omega) (fun v hv => by simp [rep] at hv; rw [hv.2]; rfl)
 refine ⟨_, by rw [hr, zda]; rfl, ⟨z.drop m, ?_, by rw [List.length_drop]; omega⟩, (Only.refl g w).putRow g _ (Or.inl rfl)⟩
 have e : ((rep b x ++ z).toArray.toList.take b ++ rep m x ++ (rep b x ++ z).toArray.toList.drop (b + m)) = rep (b + m) x ++ z.drop m := by
  rw [zzl]
  show (rep b x ++ z).take b ++ rep m x ++ (rep b x ++ z).drop (b + m) = _
  rw [List.take_left' (zda b x), <- List.drop_drop, List.drop_left' (zda b x)]
 rw [e]
 exact h1.put _
theorem made (n : Nat) (w : World) (hn : n <= 281474976710656) :
  ∃ cs w1, (callFunc 94 #[.int .i64 (n : Int)]).run Tryz.prog w = .ok (.value (.slice (some ⟨w.heap.size, 0, none⟩) n cs)) w1 ∧ (∃ l : List Value, Row w1 w.heap.size 5 l ∧ l.length = cs) ∧ Below w.heap.size w w1 ∧ n <= cs := by
 obtain ⟨cs, hrun, hle, _⟩ := Lib.run_makeNoZero (P := Tryz.prog) w #[3] 107 5 Tryz.underlying107 n hn
 have hb0 : Below w.heap.size w w.drew.drew := ((Below.refl w.heap.size w).drew).drew
 refine ⟨cs.size, w.drew.drew.alloc (.cells cs 5), ?_, ⟨cs.toList, ?_, by simp⟩, hb0.alloc (Nat.le_refl _) _, hle⟩
 .rw [run_callFunc_extern Tryz.func94 (by kernel_rfl) (by kernel_rfl) (by kernel_rfl) (e := Extern.BytealgMakeNoZero.makeNoZero #[3] #[107]) (by kernel_rfl), hrun]
  rfl
 .have := Row.new w.drew.drew 5 cs.toList
  simpa using this
theorem zsl (q x n : Nat) (w : World) (h1 : 1 <= n) (hn : n <= 32768) (hcc : n <= 8192) (hs : Lies w w.heap.size (some ⟨q, 0, none⟩) [.int .u8 (x : Int)]) :
  Calls Tryz.prog 60 #[.slice (some ⟨q, 0, none⟩) 1 1, .int .i64 (n : Int)] w fun e w' => ∃ g tot, e = .returned (.slice (some ⟨g, 0, none⟩) n n) ∧ w.heap.size <= g ∧ St g x tot n w' ∧ Below w.heap.size w w' := by
 have hMul := Tryz.bits_Mul 1 n (by omega) (by omega) w
 rw [show 1 * n / 18446744073709551616 = 0 by omega, show 1 * n % 18446744073709551616 = n by omega] at hMul
 have HMU : Hid (Calls Tryz.prog 93 #[.int .u64 1, .int .u64 (n : Int)] w fun e w' => e = .returned (.tuple #[.int .u64 0, .int .u64 (n : Int)]) ∧ w = w') := zh (Calls.mono hMul fun e w' h => ⟨h.1, h.2.symm⟩)
 obtain ⟨cs, w1, hcall, ⟨l, hl1, hl2⟩, hb1, hle⟩ := made n w (by omega)
 obtain ⟨B, hB⟩ : ∃ B, w.heap.size = B := ⟨_, rfl⟩
 rw [hB] at hcall hl1
 have HB := zh hB
 clear hB
 obtain ⟨y, zl, rfl⟩ : ∃ y zl, l = y :: zl := by
  cases l with
  | nil => simp at hl2; omega
  | cons y zl => exact ⟨y, zl, rfl⟩
 have R1 : Hid (Row w1 B 5 ([] ++ [y] ++ zl)) := zh hl1
 have HS1 : Hid (Lies w1 w1.heap.size (some ⟨q, 0, none⟩) [.int .u8 (x : Int)]) := zh (hs.step hb1)
 have B1 := zh hb1
 have HL2 : Hid (1 + zl.length = cs) := zh (by rw [<- hl2, List.length_cons]; omega)
 have k1 : (1 : Int) <= n := by omega
 have k2 : (n : Int) <= 32768 := by omega
 have k3 : (n : Int) <= cs := by omega
 have k4 : ((n : Int) == 0) = false := beq_eq_false_iff_ne.2 (by omega)
 have k5 : IntKind.u64.wrap (n : Int) = n := by rw [IntKind.wrap_u64]; omega
 have k6 : IntKind.u64.wrap 1 = 1 := by decide
 have k7 : wrap64 (n : Int) = n := by unfold wrap64; omega
 have k8 : ¬ (9223372036854775807 : Int) < n := by omega
 have k9 : ¬ (8192 : Int) < n := by omega
 have HA1 : Hid (([] : List Value).length = 0) := zh rfl
 have HA2 : Hid (([.int .u8 (x : Int)] : List Value).length = 1) := zh rfl
 have HA3 : Hid (0 < 1) := zh (by decide)
 have HA4 : Hid ([y].length = 1) := zh rfl
 have HA5 : Hid ([Value.int .u8 (x : Int)].all (·.oneCell') = true) := zh rfl
 have HN := zh hn
 have HH1 := zh h1
 have HCC := zh hcc
 clear hMul hs hl1 hl2 hb1 hn h1 hcc
 go_enter Tryz.func60, Tryz.ntmps60
 go_wp2_with (first
  | (go_at_call 93; (with_reducible refine HMU.out.mono ?_); rintro e u1 ⟨rfl, rfl⟩)
  | ((with_reducible refine R1.out.wpCopyLK HA1.out 107 n 1 Tryz.underlying107 zrl HS1.out HA2.out HA3.out HH1.out HA4.out HA5.out ?_ ?_); rfl; intro w2 r2 o2 s2; have R2 := zh r2; have O2 := zh o2; have S2 := zh s2; clear r2 o2 s2))
 have HST0 : Hid (St B x cs 1 w2) := zh ⟨zl, R2.out, HL2.out⟩
 have HO0 : Hid (Onl [] w w2) := zh ((Onl.of_below B1.out).only O2.out (Or.inr (Nat.le_of_eq HB.out)))
 clear R1 hcall
 go_loopw [10] (fun v wr => ∃ b : Nat, 1 <= b ∧ b <= n ∧ v = .int .i64 b ∧ St B x cs b wr ∧ Onl [] w wr) (fun v _ => n - (intOf v).toNat)
 case atStart => exact ⟨1, Nat.le_refl _, HH1.out, rfl, HST0.out, HO0.out⟩
 case round =>
  obtain ⟨b, hb1, hb2, rfl, hst, ho⟩ := hrel
  by_cases hlt : b < n
  .obtain ⟨c, hc⟩ : ∃ c, (if n < b then n else b) = c := ⟨_, rfl⟩
   have hc1 : 1 <= c ∧ c <= b := by
    have := HH1.out
    split at hc <;> omega
   have hmin : ∀ (ts : Array TypeId) (t : TypeId) (W : World), (Builtin.min_ ts t #[.int .i64 (b : Int), .int .i64 ((n : Int))]).run Tryz.prog W = .ok (.int .i64 (c : Int)) W := fun ts t W => by
    by_cases hq : n < b
    .have hcq : c = n := by rw [if_pos hq] at hc; exact hc.symm
     simp [Builtin.min_, Builtin.min2, hq, hcq]
    .have hcq : c = b := by rw [if_neg hq] at hc; exact hc.symm
     simp [Builtin.min_, Builtin.min2, hq, hcq]
   obtain ⟨m, hm⟩ : ∃ m, m = Nat.min c (n - b) := ⟨_, rfl⟩
   have hm1 : 1 <= m ∧ m <= c ∧ m <= n - b := by
    refine ⟨?_, by rw [hm]; exact Nat.min_le_left _ _, by rw [hm]; exact Nat.min_le_right _ _⟩
    rw [hm]; exact Nat.le_min.2 ⟨hc1.1, by omega⟩
   have HMM := zh hm
   have HMB : Hid (m <= b) := zh (by omega)
   have HMB1 : Hid (1 <= m) := zh hm1.1
   have HMN : Hid (b + m <= n) := zh (by omega)
   have HMT : Hid (b + m <= cs) := zh (by omega)
   have HG : Hid (w.heap.size <= B) := zh (Nat.le_of_eq HB.out)
   have HST := zh hst; have HO := zh ho
   have e1 : (b : Int) < n := by omega
   have e2 : (b : Int) <= n := by omega
   have e3 : ¬ n - b = 0 := by omega
   have e4 : ¬ (n : Int) - b = 0 := by omega
   have e5 : ¬ n = b := by omega
   have e6 : ¬ n <= b := by omega
   have e7 : (c : Int) <= n := by omega
   have e8 : 0 <= (c : Int) := by omega
   have e9 : b <= n := by omega
   have e10 : c <= n := by omega
   have ew : wrap64 ((b : Int) + m) = (b : Int) + m := by have := HN.out; unfold wrap64; omega
   have ew2 : IntKind.i64.wrap ((b : Int) + m) = (b : Int) + m := by rw [IntKind.wrap_i64]; unfold wrap64 at ew; exact ew
   clear hst ho hm hm1 hc hc1 hb1 hb2 k5 k6 k7 k8; go_wp2
   refine zmw (fun w1 w2 => St B x cs (b + m) w1 -> St B x cs (b + m) w2) [(0, 67), (1, 68), (2, 69), (3, 70), (4, 71), (5, 72), (6, 73), (7, 74), (8, 75), (9, 10)]
    (fun i => [Is (.int .i64 (b : Int)), Is (.slice (some ⟨B, 0, none⟩) n n), Is (.int .i64 (b : Int)), Is (.slice (some ⟨B, b, none⟩) (n - b) (n - b)), Is (.slice (some ⟨B, 0, none⟩) n n), Is (.int .i64 (c : Int)), Is (.slice (some ⟨B, 0, none⟩) c n),
     (fun v wx => v = .int .i64 (m : Int) ∧ St B x cs (b + m) wx), Is (.int .i64 ((b : Int) + m)), Is (.int .i64 ((b : Int) + m))].getD i (Is undef))
    (fun wx => St B x cs b wx ∧ Onl [] w wx) (by kernel_rfl) (by kernel_rfl) (by decide) (by decide) (by kernel_rfl) rfl ?mono ⟨HST.out.step ((zb).drew), HO.out.step ((zb).drew)⟩ ?step ?fin
   case mono =>
    intro i
    match i with
    | 7 => exact fun v w1 w2 ⟨h1, h2⟩ hr => ⟨h1, hr h2⟩
    | 0 | 1 | 2 | 3 | 4 | 5 | 6 | 8 | 9 => exact fun v w1 w2 h _ => h
    | _ + 10 => exact fun v w1 w2 h _ => h
   case step =>
    refine zf ⟨?s0, zf ⟨?s1, zf ⟨?s2, zf ⟨?s3, zf ⟨?s4, zf ⟨?s5, zf ⟨?s6, zf ⟨?s7, zf ⟨?s8, zf ⟨?s9, (fun p hp => absurd hp (by simp))⟩⟩⟩⟩⟩⟩⟩⟩⟩⟩
    case s0 | s2 =>
     intro u wx hg hC hOld
     have hO9 : u 9 = .int .i64 (b : Int) := hOld (9, 10) (by decide) (by kernel_rfl)
     clear hC hOld; refine wpOp_step rfl fun K hK => ?_
     simp only [zu, zv]; go_simp; exact hK _ _ ⟨rfl, rfl, hg, id⟩
    case s1 | s4 | s5 =>
     intro u wx hg hC hOld; clear hC hOld; refine wpOp_step rfl fun K hK => ?_
     simp only [zu, zv]; go_simp; exact hK _ _ ⟨rfl, rfl, hg, id⟩
    case s3 =>
     intro u wx hg hC hOld
     have h1 : u 1 = .slice (some ⟨B, 0, none⟩) n n := hC.at 1 (by kernel_rfl)
     have h2 : u 2 = .int .i64 (b : Int) := hC.at 2 (by kernel_rfl)
     clear hC hOld; refine wpOp_step rfl fun K hK => ?_
     simp only [zu, zv]; go_simp; exact hK _ _ ⟨rfl, rfl, hg, id⟩
    case s6 =>
     intro u wx hg hC hOld
     have h4 : u 4 = .slice (some ⟨B, 0, none⟩) n n := hC.at 4 (by kernel_rfl)
     have h5 : u 5 = .int .i64 (c : Int) := hC.at 5 (by kernel_rfl)
     clear hC hOld; refine wpOp_step rfl fun K hK => ?_
     simp only [zu, zv]; go_simp; exact hK _ _ ⟨rfl, rfl, hg, id⟩
    case s7 =>
     intro u wx hg hC hOld
     have h3 : u 3 = .slice (some ⟨B, b, none⟩) (n - b) (n - b) := hC.at 3 (by kernel_rfl)
     have h6 : u 6 = .slice (some ⟨B, 0, none⟩) c n := hC.at 6 (by kernel_rfl)
     obtain ⟨wy, hrun, hst, hon⟩ := ztw B x cs b c (n - b) m (n - b) n wx hg.1 HMM.out HMB.out HMT.out 3; clear hC hOld; refine wpOp_step rfl fun K hK => ?_
     simp only [zu, zv]; go_simp; exact hK _ _ ⟨rfl, ⟨rfl, hst⟩, ⟨hst.less, hg.2.only hon (Or.inr HG.out)⟩, fun _ => hst⟩
    case s8 =>
     intro u wx hg hC hOld
     have h0 : u 0 = .int .i64 (b : Int) := hC.at 0 (by kernel_rfl)
     obtain ⟨h7, hst⟩ : u 7 = .int .i64 (m : Int) ∧ St B x cs (b + m) wx := hC.at 7 (by kernel_rfl)
     clear hC hOld; refine wpOp_step rfl fun K hK => ?_
     simp only [zu, zv]; go_simp; exact hK _ _ ⟨rfl, rfl, hg, id⟩
    case s9 =>
     intro u wx hg hC hOld
     have h8 : u 8 = .int .i64 ((b : Int) + m) := hC.at 8 (by kernel_rfl)
     clear hC hOld; refine wpOp_step rfl fun K hK => ?_
     simp only [zu, zv]; go_simp; exact hK _ _ ⟨rfl, rfl, hg, id⟩
   case fin =>
    intro u wx hg hφ
    have h9 : u 9 = .int .i64 ((b : Int) + m) := hφ (9, 10) (by decide)
    obtain ⟨h7, hst⟩ : u 7 = .int .i64 (m : Int) ∧ St B x cs (b + m) wx := hφ (7, 74) (by decide)
    have HST2 := zh hst; have HO2 := zh hg.2; clear hφ hst hg; simp only [zu, zv]; go_simp; go_wp2
    go_roundw
    case rel => exact ⟨b + m, by have := HMB1.out; omega, by have := HMN.out; omega, by simp, HST2.out, HO2.out⟩
    case measure => have := HMN.out; have := HMB1.out; simp [intOf]; omega
  .have eb : b = n := by omega
   subst eb; have HST := zh hst; have HO := zh ho; clear hst ho; go_wp2; go_ret; exact ⟨B, cs, rfl, Nat.le_of_eq HB.out, HST.out, HO.out.below (by simp) (Nat.le_refl _)⟩
theorem zsk (q x n : Nat) (w : World) (h1 : 1 <= n) (hn : n <= 32768) (hcc : 8192 < n) (hs : Lies w w.heap.size (some ⟨q, 0, none⟩) [.int .u8 (x : Int)]) :
  Calls Tryz.prog 60 #[.slice (some ⟨q, 0, none⟩) 1 1, .int .i64 (n : Int)] w fun e w' => ∃ g tot, e = .returned (.slice (some ⟨g, 0, none⟩) n n) ∧ w.heap.size <= g ∧ St g x tot n w' ∧ Below w.heap.size w w' := by
 have hMul := Tryz.bits_Mul 1 n (by omega) (by omega) w
 rw [show 1 * n / 18446744073709551616 = 0 by omega, show 1 * n % 18446744073709551616 = n by omega] at hMul
 have HMU : Hid (Calls Tryz.prog 93 #[.int .u64 1, .int .u64 (n : Int)] w fun e w' => e = .returned (.tuple #[.int .u64 0, .int .u64 (n : Int)]) ∧ w = w') := zh (Calls.mono hMul fun e w' h => ⟨h.1, h.2.symm⟩)
 obtain ⟨cs, w1, hcall, ⟨l, hl1, hl2⟩, hb1, hle⟩ := made n w (by omega)
 obtain ⟨B, hB⟩ : ∃ B, w.heap.size = B := ⟨_, rfl⟩
 rw [hB] at hcall hl1
 have HB := zh hB
 clear hB
 obtain ⟨y, zl, rfl⟩ : ∃ y zl, l = y :: zl := by
  cases l with
  | nil => simp at hl2; omega
  | cons y zl => exact ⟨y, zl, rfl⟩
 have R1 : Hid (Row w1 B 5 ([] ++ [y] ++ zl)) := zh hl1
 have HS1 : Hid (Lies w1 w1.heap.size (some ⟨q, 0, none⟩) [.int .u8 (x : Int)]) := zh (hs.step hb1)
 have B1 := zh hb1
 have HL2 : Hid (1 + zl.length = cs) := zh (by rw [<- hl2, List.length_cons]; omega)
 have k1 : (1 : Int) <= n := by omega
 have k2 : (n : Int) <= 32768 := by omega
 have k3 : (n : Int) <= cs := by omega
 have k4 : ((n : Int) == 0) = false := beq_eq_false_iff_ne.2 (by omega)
 have k5 : IntKind.u64.wrap (n : Int) = n := by rw [IntKind.wrap_u64]; omega
 have k6 : IntKind.u64.wrap 1 = 1 := by decide
 have k7 : wrap64 (n : Int) = n := by unfold wrap64; omega
 have k8 : ¬ (9223372036854775807 : Int) < n := by omega
 have k9 : (8192 : Int) < n := by omega
 have HA1 : Hid (([] : List Value).length = 0) := zh rfl
 have HA2 : Hid (([.int .u8 (x : Int)] : List Value).length = 1) := zh rfl
 have HA3 : Hid (0 < 1) := zh (by decide)
 have HA4 : Hid ([y].length = 1) := zh rfl
 have HA5 : Hid ([Value.int .u8 (x : Int)].all (·.oneCell') = true) := zh rfl
 have HN := zh hn
 have HH1 := zh h1
 have HCC := zh hcc
 clear hMul hs hl1 hl2 hb1 hn h1 hcc
 go_enter Tryz.func60, Tryz.ntmps60
 go_wp2_with (first
  | (go_at_call 93; (with_reducible refine HMU.out.mono ?_); rintro e u1 ⟨rfl, rfl⟩)
  | ((with_reducible refine R1.out.wpCopyLK HA1.out 107 n 1 Tryz.underlying107 zrl HS1.out HA2.out HA3.out HH1.out HA4.out HA5.out ?_ ?_); rfl; intro w2 r2 o2 s2; have R2 := zh r2; have O2 := zh o2; have S2 := zh s2; clear r2 o2 s2))
 have HST0 : Hid (St B x cs 1 w2) := zh ⟨zl, R2.out, HL2.out⟩
 have HO0 : Hid (Onl [] w w2) := zh ((Onl.of_below B1.out).only O2.out (Or.inr (Nat.le_of_eq HB.out)))
 clear R1 hcall
 go_loopw [10] (fun v wr => ∃ b : Nat, 1 <= b ∧ b <= n ∧ v = .int .i64 b ∧ St B x cs b wr ∧ Onl [] w wr) (fun v _ => n - (intOf v).toNat)
 case atStart => exact ⟨1, Nat.le_refl _, HH1.out, rfl, HST0.out, HO0.out⟩
 case round =>
  obtain ⟨b, hb1, hb2, rfl, hst, ho⟩ := hrel
  by_cases hlt : b < n
  .obtain ⟨c, hc⟩ : ∃ c, (if 8192 < b then 8192 else b) = c := ⟨_, rfl⟩
   have hc1 : 1 <= c ∧ c <= b := by
    have := HH1.out
    split at hc <;> omega
   have hmin : ∀ (ts : Array TypeId) (t : TypeId) (W : World), (Builtin.min_ ts t #[.int .i64 (b : Int), .int .i64 ((8192 : Int))]).run Tryz.prog W = .ok (.int .i64 (c : Int)) W := fun ts t W => by
    by_cases hq : 8192 < b
    .have hcq : c = 8192 := by rw [if_pos hq] at hc; exact hc.symm
     have hq2 : (8192 : Int) < (b : Int) := by omega
     simp [Builtin.min_, Builtin.min2, hq2, hcq]
    .have hcq : c = b := by rw [if_neg hq] at hc; exact hc.symm
     have hq2 : ¬ (8192 : Int) < (b : Int) := by omega
     simp [Builtin.min_, Builtin.min2, hq2, hcq]
   obtain ⟨m, hm⟩ : ∃ m, m = Nat.min c (n - b) := ⟨_, rfl⟩
   have hm1 : 1 <= m ∧ m <= c ∧ m <= n - b := by
    refine ⟨?_, by rw [hm]; exact Nat.min_le_left _ _, by rw [hm]; exact Nat.min_le_right _ _⟩
    rw [hm]; exact Nat.le_min.2 ⟨hc1.1, by omega⟩
   have HMM := zh hm
   have HMB : Hid (m <= b) := zh (by omega)
   have HMB1 : Hid (1 <= m) := zh hm1.1
   have HMN : Hid (b + m <= n) := zh (by omega)
   have HMT : Hid (b + m <= cs) := zh (by omega)
   have HG : Hid (w.heap.size <= B) := zh (Nat.le_of_eq HB.out)
   have HST := zh hst; have HO := zh ho
   have e1 : (b : Int) < n := by omega
   have e2 : (b : Int) <= n := by omega
   have e3 : ¬ n - b = 0 := by omega
   have e4 : ¬ (n : Int) - b = 0 := by omega
   have e5 : ¬ n = b := by omega
   have e6 : ¬ n <= b := by omega
   have e7 : (c : Int) <= n := by omega
   have e8 : 0 <= (c : Int) := by omega
   have e9 : b <= n := by omega
   have e10 : c <= n := by omega
   have ew : wrap64 ((b : Int) + m) = (b : Int) + m := by have := HN.out; unfold wrap64; omega
   have ew2 : IntKind.i64.wrap ((b : Int) + m) = (b : Int) + m := by rw [IntKind.wrap_i64]; unfold wrap64 at ew; exact ew
   clear hst ho hm hm1 hc hc1 hb1 hb2 k5 k6 k7 k8; go_wp2
   refine zmw (fun w1 w2 => St B x cs (b + m) w1 -> St B x cs (b + m) w2) [(0, 67), (1, 68), (2, 69), (3, 70), (4, 71), (5, 72), (6, 73), (7, 74), (8, 75), (9, 10)]
    (fun i => [Is (.int .i64 (b : Int)), Is (.slice (some ⟨B, 0, none⟩) n n), Is (.int .i64 (b : Int)), Is (.slice (some ⟨B, b, none⟩) (n - b) (n - b)), Is (.slice (some ⟨B, 0, none⟩) n n), Is (.int .i64 (c : Int)), Is (.slice (some ⟨B, 0, none⟩) c n),
     (fun v wx => v = .int .i64 (m : Int) ∧ St B x cs (b + m) wx), Is (.int .i64 ((b : Int) + m)), Is (.int .i64 ((b : Int) + m))].getD i (Is undef))
    (fun wx => St B x cs b wx ∧ Onl [] w wx) (by kernel_rfl) (by kernel_rfl) (by decide) (by decide) (by kernel_rfl) rfl ?mono ⟨HST.out.step ((zb).drew), HO.out.step ((zb).drew)⟩ ?step ?fin
   case mono =>
    intro i
    match i with
    | 7 => exact fun v w1 w2 ⟨h1, h2⟩ hr => ⟨h1, hr h2⟩
    | 0 | 1 | 2 | 3 | 4 | 5 | 6 | 8 | 9 => exact fun v w1 w2 h _ => h
    | _ + 10 => exact fun v w1 w2 h _ => h
   case step =>
    refine zf ⟨?s0, zf ⟨?s1, zf ⟨?s2, zf ⟨?s3, zf ⟨?s4, zf ⟨?s5, zf ⟨?s6, zf ⟨?s7, zf ⟨?s8, zf ⟨?s9, (fun p hp => absurd hp (by simp))⟩⟩⟩⟩⟩⟩⟩⟩⟩⟩
    case s0 | s2 =>
     intro u wx hg hC hOld
     have hO9 : u 9 = .int .i64 (b : Int) := hOld (9, 10) (by decide) (by kernel_rfl)
     clear hC hOld; refine wpOp_step rfl fun K hK => ?_
     simp only [zu, zv]; go_simp; exact hK _ _ ⟨rfl, rfl, hg, id⟩
    case s1 | s4 | s5 =>
     intro u wx hg hC hOld; clear hC hOld; refine wpOp_step rfl fun K hK => ?_
     simp only [zu, zv]; go_simp; exact hK _ _ ⟨rfl, rfl, hg, id⟩
    case s3 =>
     intro u wx hg hC hOld
     have h1 : u 1 = .slice (some ⟨B, 0, none⟩) n n := hC.at 1 (by kernel_rfl)
     have h2 : u 2 = .int .i64 (b : Int) := hC.at 2 (by kernel_rfl)
     clear hC hOld; refine wpOp_step rfl fun K hK => ?_
     simp only [zu, zv]; go_simp; exact hK _ _ ⟨rfl, rfl, hg, id⟩
    case s6 =>
     intro u wx hg hC hOld
     have h4 : u 4 = .slice (some ⟨B, 0, none⟩) n n := hC.at 4 (by kernel_rfl)
     have h5 : u 5 = .int .i64 (c : Int) := hC.at 5 (by kernel_rfl)
     clear hC hOld; refine wpOp_step rfl fun K hK => ?_
     simp only [zu, zv]; go_simp; exact hK _ _ ⟨rfl, rfl, hg, id⟩
    case s7 =>
     intro u wx hg hC hOld
     have h3 : u 3 = .slice (some ⟨B, b, none⟩) (n - b) (n - b) := hC.at 3 (by kernel_rfl)
     have h6 : u 6 = .slice (some ⟨B, 0, none⟩) c n := hC.at 6 (by kernel_rfl)
     obtain ⟨wy, hrun, hst, hon⟩ := ztw B x cs b c (n - b) m (n - b) n wx hg.1 HMM.out HMB.out HMT.out 3; clear hC hOld; refine wpOp_step rfl fun K hK => ?_
     simp only [zu, zv]; go_simp; exact hK _ _ ⟨rfl, ⟨rfl, hst⟩, ⟨hst.less, hg.2.only hon (Or.inr HG.out)⟩, fun _ => hst⟩
    case s8 =>
     intro u wx hg hC hOld
     have h0 : u 0 = .int .i64 (b : Int) := hC.at 0 (by kernel_rfl)
     obtain ⟨h7, hst⟩ : u 7 = .int .i64 (m : Int) ∧ St B x cs (b + m) wx := hC.at 7 (by kernel_rfl)
     clear hC hOld; refine wpOp_step rfl fun K hK => ?_
     simp only [zu, zv]; go_simp; exact hK _ _ ⟨rfl, rfl, hg, id⟩
    case s9 =>
     intro u wx hg hC hOld
     have h8 : u 8 = .int .i64 ((b : Int) + m) := hC.at 8 (by kernel_rfl)
     clear hC hOld; refine wpOp_step rfl fun K hK => ?_
     simp only [zu, zv]; go_simp; exact hK _ _ ⟨rfl, rfl, hg, id⟩
   case fin =>
    intro u wx hg hφ
    have h9 : u 9 = .int .i64 ((b : Int) + m) := hφ (9, 10) (by decide)
    obtain ⟨h7, hst⟩ : u 7 = .int .i64 (m : Int) ∧ St B x cs (b + m) wx := hφ (7, 74) (by decide)
    have HST2 := zh hst; have HO2 := zh hg.2; clear hφ hst hg; simp only [zu, zv]; go_simp; go_wp2
    go_roundw
    case rel => exact ⟨b + m, by have := HMB1.out; omega, by have := HMN.out; omega, by simp, HST2.out, HO2.out⟩
    case measure => have := HMN.out; have := HMB1.out; simp [intOf]; omega
  .have eb : b = n := by omega
   subst eb; have HST := zh hst; have HO := zh ho; clear hst ho; go_wp2; go_ret; exact ⟨B, cs, rfl, Nat.le_of_eq HB.out, HST.out, HO.out.below (by simp) (Nat.le_refl _)⟩
theorem zwu (q x n : Nat) (w : World) (h1 : 1 <= n) (hn : n <= 32768) (hs : Lies w w.heap.size (some ⟨q, 0, none⟩) [.int .u8 (x : Int)]) :
  Calls Tryz.prog 60 #[.slice (some ⟨q, 0, none⟩) 1 1, .int .i64 (n : Int)] w fun e w' => ∃ g tot, e = .returned (.slice (some ⟨g, 0, none⟩) n n) ∧ w.heap.size <= g ∧ St g x tot n w' ∧ Below w.heap.size w w' := by
 rcases Nat.lt_or_ge 8192 n with h | h
 .exact zsk q x n w h1 hn h hs
 .exact zsl q x n w h1 hn h hs
end
section
open Go.RowKit
section
variable {P : Program} {ops : Array Oper} {Q : Exit -> Act -> World -> Prop}
theorem zgp (a : Act) (d : Nat) (v : Value) (hs : d < a.tmps.size) : (a.put (some d) v).tmps.getD d undef = v := by simp [Act.put, hs]
theorem zbbo (a : Act) (d e : Nat) (v : Value) (h : e ≠ d) : (a.put (some d) v).tmps.getD e undef = a.tmps.getD e undef := by
 simp only [Act.put, Array.getD_eq_getD_getElem?, Array.getElem?_setIfInBounds]
 rw [if_neg (fun e' => h e'.symm)]
theorem zci (u : Nat -> Value) : ∀ (D : List (Nat × Nat)) (a : Act) (d : Nat), (∀ p ∈ D, p.2 ≠ d) -> (puts D a u).tmps.getD d undef = a.tmps.getD d undef
 | [], _, _, _ => rfl
 | p :: D, a, d, h => by
  show (puts D (a.put (some p.2) (u p.1)) u).tmps.getD d undef = _
  rw [zci u D _ d fun q hq => h q (List.mem_cons_of_mem _ hq), zbbo _ _ _ _ (fun e => h p (List.mem_cons_self ..) e.symm)]
theorem zat (u : Nat -> Value) (i d : Nat) : ∀ (D : List (Nat × Nat)) (a : Act), (D.map (·.2)).Nodup -> (i, d) ∈ D -> Nat.blt d a.tmps.size = true -> (puts D a u).tmps.getD d undef = u i
 | p :: D, a, hn, hm, hs0 => by
  have hs : d < a.tmps.size := Nat.blt_eq ▸ hs0
  rw [List.map_cons, List.nodup_cons] at hn
  show (puts D (a.put (some p.2) (u p.1)) u).tmps.getD d undef = _
  rcases List.mem_cons.1 hm with rfl | hm
  .rw [zci u D _ d fun q hq e => hn.1 (List.mem_map.2 ⟨q, hq, e⟩), zgp _ _ _ hs]
  .exact zat u i d D _ hn.2 hm (by simpa [Act.put] using hs0)
theorem zaq (u : Nat -> Value) {D : List (Nat × Nat)} {a : Act} {d : Nat} (h : Nat.blt d a.tmps.size = true) : d < (puts D a u).tmps.size := by rw [zcj]; exact Nat.blt_eq ▸ h
theorem zcg {i : Nat} {o : Oper} {a : Act} {w : World} {K : Act -> World -> Prop} (ho : ops[i]? = some o) (j d : Nat) (b : Bool) (hgd : o.guard = some (j, b)) (hd : (ops[j]?).bind (·.dst) = some d) (hs : d < a.tmps.size) (hv : a.tmps.getD d undef = .bool b)
  (h : ∀ K' : Act -> World -> Prop, (∀ a w, K a w -> K' a w) -> o.wp P a w K' Q) : wpOp P ops Q i K a w := by
 have hy : yielded ops a.tmps j = some b := by
  unfold yielded
  rw [hd]
  have : a.tmps[d]? = some (.bool b) := by
   rw [Array.getD_eq_getD_getElem?] at hv; rw [Array.getElem?_eq_getElem hs] at hv ⊢
   simpa using hv
  simp [this]
 unfold wpOp
 rw [ho]
 show if Region.wanted o (yielded ops a.tmps) = true then _ else _
 rw [if_pos (by unfold Region.wanted; rw [hgd]; simp [hy])]
 exact .inl (h K fun _ _ h => h)
theorem zbgw {i : Nat} {o : Oper} {a : Act} {w : World} {K : Act -> World -> Prop} (ho : ops[i]? = some o) (j d : Nat) (b : Bool) (hgd : o.guard = some (j, b)) (hd : (ops[j]?).bind (·.dst) = some d) (hs : d < a.tmps.size) (hv : a.tmps.getD d undef = .bool !b)
  (h : K (a.put o.dst undef) w) : wpOp P ops Q i K a w := by
 have hy : yielded ops a.tmps j = some !b := by
  unfold yielded
  rw [hd]
  have : a.tmps[d]? = some (.bool !b) := by
   rw [Array.getD_eq_getD_getElem?] at hv; rw [Array.getElem?_eq_getElem hs] at hv ⊢
   simpa using hv
  simp [this]
 unfold wpOp
 rw [ho]
 show if Region.wanted o (yielded ops a.tmps) = true then _ else _
 rw [if_neg (by unfold Region.wanted; rw [hgd]; cases b <;> simp [hy])]
 exact h
end
theorem zg {P : Program} {ops : Array Oper} {Q : Exit → Act → World → Prop} {i : Nat} {o : Oper} {D : List (Nat × Nat)} {a : Act} {u : Nat → Value} {w : World} {K : Act → World → Prop} (ho : ops[i]? = some o) (j d : Nat) (b : Bool) (hgd : o.guard = some (j, b)) (hd : (ops[j]?).bind (·.dst) = some d) (hJ : u j = .bool b)
 (h : ∀ K' : Act → World → Prop, (∀ a w, K a w → K' a w) → o.wp P (puts D a u) w K' Q) (h1 : (D.map (·.2)).Nodup := by decide) (h2 : (j, d) ∈ D := by decide) (h3 : Nat.blt d a.tmps.size = true := by kernel_rfl) : wpOp P ops Q i K (puts D a u) w := zcg ho j d b hgd hd (zaq u h3) ((zat u j d D a h1 h2 h3).trans hJ) h
theorem zk {P : Program} {ops : Array Oper} {Q : Exit → Act → World → Prop} {i : Nat} {o : Oper} {D : List (Nat × Nat)} {a : Act} {u : Nat → Value} {w : World} {K : Act → World → Prop} (ho : ops[i]? = some o) (j d : Nat) (b : Bool) (hgd : o.guard = some (j, b)) (hd : (ops[j]?).bind (·.dst) = some d) (hJ : u j = .bool !b)
 (h : K ((puts D a u).put o.dst undef) w) (h1 : (D.map (·.2)).Nodup := by decide) (h2 : (j, d) ∈ D := by decide) (h3 : Nat.blt d a.tmps.size = true := by kernel_rfl) : wpOp P ops Q i K (puts D a u) w := zbgw ho j d b hgd hd (zaq u h3) ((zat u j d D a h1 h2 h3).trans hJ) h
end
section
open Go.RowKit
theorem opMake {P : Program} {o : Oper} {a : Act} {w : World} {K : Act -> World -> Prop} {Q : Exit -> Act -> World -> Prop} (T e : TypeId) (zv : Value) (n c : Nat) (hT : P.underlying T = some (.slice e)) (hz : (P.info? e).map (fun i => (i.zero, i.size, i.bytes)) = some (some zv, 1, 8) ∨ (P.info? e).map (fun i => (i.zero, i.size, i.bytes)) = some (some zv, 1, 1)) (hzc : zv.cells = #[zv])
  (hn : n <= c) (hc : c <= 1099511627776) (ho : makeOf o a = some (T, .int .i64 (n : Int), .int .i64 (c : Int)))
  (k : ∀ w', Row w' w.heap.size e (List.replicate c zv) -> Below w.heap.size w w' -> w'.heap.size = w.heap.size + 1 -> K (a.put o.dst (.slice (some ⟨w.heap.size, 0, none⟩) n c)) w') : o.wp P a w K Q := by
 obtain ⟨hg, x, y, hop, hx, hy⟩ := zfm ho
 cases hq : P.info? e with
 | none => rw [hq] at hz; rcases hz with h | h <;> cases h
 | some i =>
  rw [hq] at hz
  have hi : i.zero = some zv ∧ i.size = 1 ∧ i.bytes <= 8 := by
   rcases hz with h | h <;> simp only [Option.map_some, Option.some.injEq, Prod.mk.injEq] at h <;> exact ⟨h.1, h.2.1, by omega⟩
  have hb : (i.bytes : Int) * (c : Int) <= 281474976710656 := by
   have h1 : i.bytes * c <= 8 * 1099511627776 := Nat.mul_le_mul hi.2.2 hc
   have h2 : ((i.bytes * c : Nat) : Int) <= 281474976710656 := by omega
   rwa [Int.natCast_mul] at h2
  have hr := run_make (P := P) w T e i zv hT hq hi.1 .i64 .i64 (n : Int) (c : Int) (by omega) (by omega) hb (by omega)
  rw [Int.toNat_natCast, Int.toNat_natCast, hi.2.1, Nat.mul_one, hzc] at hr
  have hm : madeCells #[zv] c = (List.replicate c zv).toArray := by
   apply Array.ext'
   rw [toList_madeCells_one]
  rw [hm] at hr
  unfold Oper.wp execOp
  simp only [hop, hx, hy, Sem.run_bind, hr, Result.andThen_ok]
  exact k _ (Row.new w e _) ((zb).alloc (Nat.le_refl _) _) (by simp)
theorem opMakeK {P : Program} {o : Oper} {A : Act} {wx : World} {K : Act -> World -> Prop} {Q : Exit -> Act -> World -> Prop} {φ : Value -> World -> Prop} {G : World -> Prop} (d : Nat) (hd : o.dst = some d) (hs : d < A.tmps.size)
  (hK : ∀ a' w', (a'.defers = A.defers ∧ φ (a'.tmps.getD d undef) w' ∧ G w' ∧ Below wx.heap.size wx w') -> K a' w')
  (T e : TypeId) (zv : Value) (n c : Nat) (hT : P.underlying T = some (.slice e)) (hz : (P.info? e).map (fun i => (i.zero, i.size, i.bytes)) = some (some zv, 1, 8) ∨ (P.info? e).map (fun i => (i.zero, i.size, i.bytes)) = some (some zv, 1, 1)) (hzc : zv.cells = #[zv])
  (hn : n <= c) (hc : c <= 1099511627776) (ho : makeOf o A = some (T, .int .i64 (n : Int), .int .i64 (c : Int)))
  (k : ∀ w', Row w' wx.heap.size e (List.replicate c zv) -> Below wx.heap.size wx w' -> φ (.slice (some ⟨wx.heap.size, 0, none⟩) n c) w' ∧ G w') : o.wp P A wx K Q :=
 opMake T e zv n c hT hz hzc hn hc ho fun w' h1 h2 _ => hK _ _ ⟨by rw [hd]; rfl, by rw [hd, zgp A d _ hs]; exact (k w' h1 h2).1, (k w' h1 h2).2, h2⟩
theorem zjh {o : Oper} {a : Act} (T : TypeId) (k : Nat) {v : Value} (hg : o.guard = none) (hop : o.op = .makeSlice T (.tmp k) (.tmp k)) (h : a.tmps.getD k undef = v) : makeOf o a = some (T, v, v) := by
 unfold makeOf
 rw [hg, hop]
 show some (T, a.eval (.tmp k), a.eval (.tmp k)) = _
 rw [show a.eval (.tmp k) = a.tmps.getD k undef from rfl, h]
end
section
open Go.RowKit FlaMath
def D0 (n : Nat) : Dv := ⟨0, 0, false, 0, List.replicate (n * 64) 255, List.replicate n false, List.replicate n 0, 0, false⟩
def Stv (B n : Nat) : Value -> World -> Prop := fun v w => ∃ g tot, v = .slice (some ⟨g, 0, none⟩) n n ∧ B <= g ∧ St g 255 tot n w
theorem Stv.monot (B n : Nat) : Monot (Stv B n) := fun _ _ _ ⟨g, t, h1, h2, h3⟩ hb => ⟨g, t, h1, h2, h3.step hb⟩
def Mk (B n : Nat) (t : TypeId) (z : Value) : Value -> World -> Prop := fun v w => ∃ g, v = .slice (some ⟨g, 0, none⟩) n n ∧ B <= g ∧ Row w g t (List.replicate n z)
theorem Mk.monot (B n : Nat) (t : TypeId) (z : Value) : Monot (Mk B n t z) := fun _ _ _ ⟨g, h1, h2, h3⟩ hb => ⟨g, h1, h2, h3.step hb⟩
theorem zhb {w : World} {a b : Nat} {t t' : TypeId} {l l' : List Value} (h : Row w a t l) (h' : Row w b t' l') (hne : t ≠ t') : a ≠ b := by
 intro e
 subst e
 have : some (Obj.cells l.toArray t (0, 0)) = some (Obj.cells l'.toArray t' (0, 0)) := h.symm.trans h'
 injection this with this
 injection this with h1 h2 h3
 exact hne h2
theorem zbie : (Tryz.prog.info? 4).map (fun i => (i.zero, i.size, i.bytes)) = some (some (.bool false), 1, 8) ∨ (Tryz.prog.info? 4).map (fun i => (i.zero, i.size, i.bytes)) = some (some (.bool false), 1, 1) := Or.inr (by kernel_rfl)
theorem zbma : (Tryz.prog.info? 3).map (fun i => (i.zero, i.size, i.bytes)) = some (some (.int .i64 0), 1, 8) ∨ (Tryz.prog.info? 3).map (fun i => (i.zero, i.size, i.bytes)) = some (some (.int .i64 0), 1, 1) := Or.inl (by kernel_rfl)
theorem zbov (n : Nat) (h1 : 1 <= n) (h2 : n <= 512) : (D0 n).Ok := ⟨by simp [D0]; omega, by simp [D0]; omega, by simp [D0]; omega, by simp [D0]⟩
theorem zbfy (n : Nat) : rep n 255 = bytes (List.replicate n 255) := by simp [rep, bytes]
theorem zbek (n : Nat) (w : World) (h1 : 1 <= n) (h2 : n <= 512) :
  Calls Tryz.prog 31 #[.int .i64 (n : Int)] w fun e w' => ∃ s : Sh, e = .returned (.tuple #[.pointer (some ⟨s.b, 0, none⟩), .int .i64 0]) ∧ Dev w' s (D0 n) ∧ (∀ k ∈ s.S, w.heap.size <= k) ∧ Below w.heap.size w w' := by
 obtain ⟨N, hN⟩ : ∃ N, n * 64 = N := ⟨_, rfl⟩
 have HN := zh hN
 have H1 := zh h1
 have H2 := zh h2
 have HR : Hid (∀ wx q, Lies wx wx.heap.size (some ⟨q, 0, none⟩) [.int .u8 255] -> Calls Tryz.prog 60 #[.slice (some ⟨q, 0, none⟩) 1 1, .int .i64 (N : Int)] wx fun e w' => ∃ g tot, e = .returned (.slice (some ⟨g, 0, none⟩) N N) ∧ wx.heap.size <= g ∧ St g 255 tot N w' ∧ Below wx.heap.size wx w') := zh fun wx q h => zwu q 255 N wx (by omega) (by omega) h
 have k1 : (n : Int) <= 512 := by omega
 have k2 : 1 <= (n : Int) := by omega
 have ew2 : IntKind.i64.wrap ((n : Int) * 64) = (N : Int) := by rw [IntKind.wrap_i64]; omega
 have ew : wrap64 ((n : Int) * 64) = (N : Int) := by rw [<- hN]; unfold wrap64; omega
 clear hN h1 h2
 go_enter Tryz.func31, Tryz.ntmps31
 go_wp2
 refine zdr 8 [(0, 10), (1, 11), (2, 12), (3, 13), (4, 14), (5, 15), (6, 16), (7, 17)]
  (fun ii => [New [.int .u8 255], Is (.int .i64 (n : Int)), Is (.int .i64 (N : Int)), Stv w.heap.size N, Is (.int .i64 (n : Int)), Mk w.heap.size n 4 (.bool false), Is (.int .i64 (n : Int)), Mk w.heap.size n 3 (.int .i64 0)].getD ii (Is undef))
  (fun w' => Below w.heap.size w w') (by kernel_rfl) (by decide) (by kernel_rfl) (by kernel_rfl) (by kernel_rfl) (by decide) (by decide) (by kernel_rfl) rfl ?mono ((zb).drew) ?step ?fin
 case mono =>
  intro i
  match i with
  | 0 => exact New.monot _
  | 3 => exact Stv.monot _ _
  | 5 | 7 => exact Mk.monot _ _ _ _
  | 1 | 2 | 4 | 6 => exact Is.monot _
  | _ + 8 => exact Is.monot _
 case step =>
  refine zf ⟨?s0, zf ⟨?s1, zf ⟨?s2, zf ⟨?s3, zf ⟨?s4, zf ⟨?s5, zf ⟨?s6, zf ⟨?s7, List.forall_mem_nil _⟩⟩⟩⟩⟩⟩⟩⟩
  case s0 =>
   intro u wx hg hC; clear hC; refine wpOp_step rfl fun K hK => ?_
   simp only [zu, zv]; go_simp; exact hK _ _ ⟨rfl, ⟨wx.heap.size, rfl, Lies.new [_] _ _⟩, hg.alloc hg.size _, zab _ _⟩
  case s1 | s4 | s6 =>
   intro u wx hg hC; clear hC; refine wpOp_step rfl fun K hK => ?_
   simp only [zu, zv]; go_simp; exact zK hK hg
  case s2 =>
   intro u wx hg hC
   have h1 : u 1 = .int .i64 (n : Int) := hC.at 1 (by kernel_rfl)
   clear hC; refine wpOp_step rfl fun K hK => ?_
   simp only [zu, zv]; go_simp; exact zK hK hg
  case s3 =>
   intro u wx hg hC; obtain ⟨q, h0, hl⟩ : New [.int .u8 255] (u 0) wx := hC.at 0 (by kernel_rfl)
   simp only [List.length_singleton] at h0
   have h2 : u 2 = .int .i64 (N : Int) := hC.at 2 (by kernel_rfl)
   clear hC; refine wpOp_step rfl fun K hK => ?_
   simp only [zu, zv]; go_simp
   refine (HR.out wx q hl).mono ?_
   rintro e w' ⟨g, tot, rfl, hg1, hst, hb'⟩
   exact hK _ _ ⟨rfl, ⟨g, tot, rfl, Nat.le_trans hg.size hg1, hst⟩, hg.next hb', hb'⟩
  case s5 =>
   intro u wx hg hC
   have hJ : u 4 = .int .i64 (n : Int) := hC.at 4 (by kernel_rfl)
   clear hC; refine wpOp_step rfl fun K hK => ?_
   generalize hA : puts [(0, 10), (1, 11), (2, 12), (3, 13), (4, 14), (5, 15), (6, 16), (7, 17)] _ u = A at hK ⊢
   have hs : A.tmps.getD 14 undef = .int .i64 (n : Int) := by rw [<- hA, <- hJ]; exact zat u 4 14 _ _ (by decide) (by decide) (by kernel_rfl)
   have hsz : 15 < A.tmps.size := by rw [<- hA]; exact zaq u (by kernel_rfl)
   clear hA hJ
   refine opMakeK (φ := Mk w.heap.size n 4 (.bool false)) (G := fun w' => Below w.heap.size w w') 15 ?_ ?_ ?_ 108 4 (.bool false) n n ?_ ?_ ?_ ?_ ?_ ?_ ?_
   .rfl
   .exact hsz
   .exact hK
   .exact Tryz.underlying108
   .exact zbie
   .rfl
   .exact Nat.le_refl _
   .have := H2.out; omega
   .exact zjh 108 14 rfl rfl hs
   .exact fun w' r' b' => ⟨⟨wx.heap.size, rfl, hg.size, r'⟩, hg.next b'⟩
  case s7 =>
   intro u wx hg hC
   have hJ : u 6 = .int .i64 (n : Int) := hC.at 6 (by kernel_rfl)
   clear hC; refine wpOp_step rfl fun K hK => ?_
   generalize hA : puts [(0, 10), (1, 11), (2, 12), (3, 13), (4, 14), (5, 15), (6, 16), (7, 17)] _ u = A at hK ⊢
   have hs : A.tmps.getD 16 undef = .int .i64 (n : Int) := by rw [<- hA, <- hJ]; exact zat u 6 16 _ _ (by decide) (by decide) (by kernel_rfl)
   have hsz : 17 < A.tmps.size := by rw [<- hA]; exact zaq u (by kernel_rfl)
   clear hA hJ
   refine opMakeK (φ := Mk w.heap.size n 3 (.int .i64 0)) (G := fun w' => Below w.heap.size w w') 17 ?_ ?_ ?_ 47 3 (.int .i64 0) n n ?_ ?_ ?_ ?_ ?_ ?_ ?_
   .rfl
   .exact hsz
   .exact hK
   .exact Tryz.underlying47
   .exact zbma
   .rfl
   .exact Nat.le_refl _
   .have := H2.out; omega
   .exact zjh 47 16 rfl rfl hs
   .exact fun w' r' b' => ⟨⟨wx.heap.size, rfl, hg.size, r'⟩, hg.next b'⟩
 case fin =>
  intro u w4 hb4 hφ
  obtain ⟨g1, tot, e3, hg1, z, hr1, ht1⟩ : Stv w.heap.size N (u 3) w4 := hφ (3, 13) (by decide)
  obtain ⟨g2, e5, hg2, hr2⟩ : Mk w.heap.size n 4 (.bool false) (u 5) w4 := hφ (5, 15) (by decide)
  obtain ⟨g3, e7, hg3, hr3⟩ : Mk w.heap.size n 3 (.int .i64 0) (u 7) w4 := hφ (7, 17) (by decide)
  clear hφ
  have n12 := zhb hr1 hr2 (by decide)
  have n13 := zhb hr1 hr3 (by decide)
  have n23 := zhb hr2 hr3 (by decide)
  have R1 := zh hr1
  have R2 := zh hr2
  have R3 := zh hr3
  have B4 := zh hb4
  have HG := zh (And.intro hg1 (And.intro hg2 hg3))
  have HNE := zh (And.intro n12 (And.intro n13 n23))
  simp only [zu, zv]
  go_simp
  clear hb4 hr1 hr2 hr3 hg1 hg2 hg3 n12 n13 n23 ht1 e3 e5 e7
  go_wp2_with ((with_reducible refine wpBoxK [Value.int .i64 0, .int .u8 0, .bool false, .int .i64 0, .slice (some ⟨g1, 0, none⟩) N N, .slice (some ⟨g2, 0, none⟩) n n, .slice (some ⟨g3, 0, none⟩) n n, .int .i64 0, .bool false] 110 ?_ ?_); rfl; intro w5 r5 b5 s5; have R5 := zh r5; have B5 := zh b5; clear r5 b5 s5)
  go_ret2
  refine ⟨⟨w4.heap.size, g1, N, z, g2, n, [], g3, n, []⟩, rfl, ⟨?_, ?_, ?_, ?_, ?_, ?_, ?_, zbov n H1.out H2.out⟩, ?_, B4.out.next B5.out⟩
  .have e : devL ⟨w4.heap.size, g1, N, z, g2, n, [], g3, n, []⟩ (D0 n) = [Value.int .i64 0, .int .u8 0, .bool false, .int .i64 0, .slice (some ⟨g1, 0, none⟩) N N, .slice (some ⟨g2, 0, none⟩) n n, .slice (some ⟨g3, 0, none⟩) n n, .int .i64 0, .bool false] := by
    simp [devL, D0, HN.out]
   rw [e]; exact R5.out
  .have e : bytes (D0 n).C = rep N 255 := by rw [zbfy, <- HN.out]; rfl
   show Row _ g1 _ (bytes (D0 n).C ++ z)
   rw [e]; exact R1.out.step B5.out
  .show Row _ g2 _ (fbools (List.replicate n false) ++ [])
   rw [List.append_nil, show fbools (List.replicate n false) = List.replicate n (.bool false) by simp [fbools]]; exact R2.out.step B5.out
  .show Row _ g3 _ (ints (List.replicate n 0) ++ [])
   rw [List.append_nil, show ints (List.replicate n 0) = List.replicate n (.int .i64 0) by simp [ints]]; exact R3.out.step B5.out
  .have q1 := R1.out.lt
   have q2 := R2.out.lt; have q3 := R3.out.lt; obtain ⟨a1, a2, a3⟩ := HNE.out
   simp only [Sh.S, List.nodup_cons, List.mem_cons, List.not_mem_nil, or_false, not_or, not_false_eq_true, List.nodup_nil, and_true]
   exact ⟨⟨by omega, by omega, by omega⟩, ⟨a1, a2⟩, a3⟩
  .show (List.replicate (n * 64) (255 : UInt8)).length <= N
   rw [List.length_replicate, HN.out]; exact Nat.le_refl _
  .show N <= _
   have := H2.out; have := HN.out; omega
  .intro k hk
   obtain ⟨a1, a2, a3⟩ := HG.out
   have := B4.out.size
   simp only [Sh.S, List.mem_cons, List.not_mem_nil, or_false] at hk
   rcases hk with rfl | rfl | rfl | rfl
   .exact this
   .exact a1
   .exact a2
   .exact a3
end
end Go.Proofs.YtojimgbcghiblaaGreatDoor
namespace Go.Proofs.YtojimgbcghiblaaGreatDoor.Open
open Go.RowKit
inductive Ty where
 | int (k : IntKind) | bool | str | unit
 | pair (a b : Ty)
 | arr (n : Nat) (e : Ty)
 | sl (bytes : Nat) (e : Ty)
def Ty.size : Ty -> Nat
 | .int _ | .bool | .str | .sl _ _ => 1
 | .unit => 0
 | .pair a b => a.size + b.size
 | .arr n e => n * e.size
abbrev Ty.den : Ty -> Type
 | .int _ => Int
 | .bool => Bool
 | .str => ByteArray
 | .unit => Unit
 | .pair a b => a.den × b.den
 | .arr _ e => List e.den
 | .sl _ e => List e.den
def Reads (w : World) : (t : Ty) -> List Value -> t.den -> Prop
 | .int k, cs, (x : Int) => cs = [.int k x] ∧ (Lit.int k x).wf = true
 | .bool, cs, (x : Bool) => cs = [.bool x]
 | .str, cs, (x : ByteArray) => cs = [.string x] ∧ x.size <= 140737488351232
 | .unit, cs, _ => cs = []
 | .pair a b, cs, x => Reads w a (cs.take a.size) x.1 ∧ Reads w b (cs.drop a.size) x.2
 | .arr n e, cs, (l : List e.den) => l.length = n ∧ cs.length = n * e.size ∧ ∀ i (h : i < l.length), Reads w e ((cs.drop (i * e.size)).take e.size) l[i]
 | .sl by_ e, cs, (l : List e.den) => ∃ a cap, cs = [.slice a l.length cap] ∧ l.length <= cap ∧ cap * by_ <= 140737488351232 ∧ cap <= 9223372036854775807 ∧
   (0 < l.length -> ∃ b off, a = some ⟨b, off, none⟩ ∧ b < w.heap.size ∧ ∀ i (h : i < l.length), ∃ cs' : List Value, cs'.length = e.size ∧
    (∀ j, j < e.size -> w.cell? ⟨b, off + (i * e.size + j), none⟩ = cs'[j]?) ∧ Reads w e cs' l[i])
theorem Reads.length {w : World} : ∀ {t : Ty} {cs : List Value} {x : t.den}, Reads w t cs x -> cs.length = t.size
 | .int _, _, _, h => by rw [h.1]; rfl
 | .bool, cs, _, h => by have h : cs = _ := h; rw [h]; rfl
 | .str, _, _, h => by rw [h.1]; rfl
 | .unit, cs, _, h => by have h : cs = _ := h; rw [h]; rfl
 | .pair a b, cs, x, h => by
  have h1 := h.1.length
  have h2 := h.2.length
  rw [List.length_take] at h1
  rw [List.length_drop] at h2
  show cs.length = a.size + b.size
  omega
 | .arr n e, _, _, h => h.2.1
 | .sl _ _, _, _, h => by obtain ⟨a, cap, rfl, _⟩ := h; rfl
def kindEq (a b : IntKind) : Bool := match a, b with
 | .i8, .i8 | .i16, .i16 | .i32, .i32 | .i64, .i64 | .u8, .u8 | .u16, .u16 | .u32, .u32 | .u64, .u64 => true
 | _, _ => false
theorem zbew {a b : IntKind} (h : kindEq a b = true) : a = b := by
 cases a <;> cases b <;> first | rfl | (simp [kindEq] at h)
def chk (P : Program) : Ty -> Option TypeId -> List Field -> Nat -> Bool
 | .int k, some t, _, _ => match P.underlying t with | some (.int k') => kindEq k' k | _ => false
 | .bool, some t, _, _ => match P.underlying t with | some .bool => true | _ => false
 | .str, some t, _, _ => match P.underlying t with | some .string => true | _ => false
 | .unit, none, fs, _ => fs.isEmpty
 | .pair a b, none, fs, off => match fs with
  | f :: r => Nat.beq f.offset off && Nat.beq (P.cellsOf f.type) a.size && chk P a (some f.type) [] 0 && chk P b none r (off + a.size)
  | [] => false
 | .pair a b, some t, _, _ => match P.underlying t with
  | some (.struct fs) => Nat.beq (P.cellsOf t) (a.size + b.size) && (match fs.toList with
   | f :: r => Nat.beq f.offset 0 && Nat.beq (P.cellsOf f.type) a.size && chk P a (some f.type) [] 0 && chk P b none r a.size
   | [] => false)
  | _ => false
 | .arr n e, some t, _, _ => match P.underlying t with | some (.array n' e') => Nat.beq n' n && Nat.beq (P.cellsOf t) (n * e.size) && Nat.beq (P.cellsOf e') e.size && chk P e (some e') [] 0 | _ => false
 | .sl by_ e, some t, _, _ => match P.underlying t with | some (.slice e') => Nat.beq (P.cellsOf e') e.size && Nat.blt 0 e.size && Nat.beq (P.bytesOf e') by_ && chk P e (some e') [] 0 | _ => false
 | _, _, _, _ => false
theorem reach_eq : reachBytes = 140737488351232 := rfl
section
variable {H : Type} {enc : TypeId × Value -> H} {P : Program} {w : World} {spare : Nat -> Bool} {held : Bool}
theorem zfh {e : TypeId} : ∀ {ds : List (DataW H)} {d : DataW H} {n : Nat}, d ∈ ds -> n ∈ d.weights P e -> n ∈ DataW.weightsAll P e ds
 | d0 :: ds, d, n, hd, hn => by
  rw [DataW.weightsAll, List.mem_append]
  cases hd with
  | head => exact Or.inl hn
  | tail _ hd => exact Or.inr (zfh hd hn)
theorem zmk {α β : Type} (p : Nat -> α -> Prop) (l : Nat) (h : ∀ i, i < l -> ∃ x, p i x) (_ : β) : ∃ xs : List α, xs.length = l ∧ ∀ i (hi : i < xs.length), p i xs[i] := by
 induction l with
 | zero => exact ⟨[], rfl, fun i hi => by simp at hi⟩
 | succ l ih =>
  obtain ⟨xs, h1, h2⟩ := ih fun i hi => h i (by omega)
  obtain ⟨x, hx⟩ := h l (by omega)
  refine ⟨xs ++ [x], by simp [h1], fun i hi => ?_⟩
  rw [List.getElem_append]
  split
  .exact h2 i (by assumption)
  .have : i = l := by simp [h1] at hi; omega
   subst this
   simpa using hx
theorem opens (hspare : ∀ b, spare b = true) : ∀ (ty : Ty),
  (∀ (t : TypeId) (fuel : Nat) (cs : List Value) (x : DataW H × List MemPlace), chk P ty (some t) [] 0 = true -> DataW.trod enc P w 0 spare held fuel t cs = some x -> (∀ n ∈ x.1.weights P t, n <= reachBytes) -> ∃ d, Reads w ty cs d) ∧
  (∀ (fs : List Field) (off n : Nat) (cs : List Value) (xs : List (DataW H × List MemPlace)), chk P ty none fs off = true -> cs.length = off + ty.size -> xs.length = fs.length ->
   (∀ (i : Nat) (f : Field), fs[i]? = some f -> DataW.trod enc P w 0 spare held n f.type ((cs.drop f.offset).take (P.cellsOf f.type)) = xs[i]?) ->
   (∀ n ∈ DataW.weightsEach P (fs.map (·.type)) (xs.map (·.1)), n <= reachBytes) -> ∃ d, Reads w ty (cs.drop off) d)
 | .int k => by
  refine ⟨fun t fuel cs x hc h hw => ?_, fun fs off n cs xs hc => by simp [chk] at hc⟩
  simp only [chk] at hc
  split at hc
  .rename_i k' hu
   have := zbew hc
   subst this; obtain ⟨m, rfl, rfl, hwf⟩ := DataW.trod_int hu h; exact ⟨m, rfl, hwf⟩
  .cases hc
 | .bool => by
  refine ⟨fun t fuel cs x hc h hw => ?_, fun fs off n cs xs hc => by simp [chk] at hc⟩
  simp only [chk] at hc
  split at hc
  .rename_i hu
   obtain ⟨b, rfl, rfl⟩ := DataW.trod_bool hu h; exact ⟨b, rfl⟩
  .cases hc
 | .str => by
  refine ⟨fun t fuel cs x hc h hw => ?_, fun fs off n cs xs hc => by simp [chk] at hc⟩
  simp only [chk] at hc
  split at hc
  .rename_i hu
   obtain ⟨s, rfl, rfl, _⟩ := DataW.trod_string hu h
   have := hw s.data.toList.length (by simp [DataW.weights])
   rw [reach_eq, Array.length_toList] at this; exact ⟨s, rfl, this⟩
  .cases hc
 | .unit => by
  refine ⟨fun t fuel cs x hc => by simp [chk] at hc, fun fs off n cs xs hc hl _ _ _ => ?_⟩
  exact ⟨(), by
   show cs.drop off = []
   rw [List.drop_eq_nil_iff]
   have : cs.length = off + 0 := hl
   omega⟩
 | .pair a b => by
  have key : ∀ (fs : List Field) (off n : Nat) (cs : List Value) (xs : List (DataW H × List MemPlace)),
    (match fs with | f :: r => Nat.beq f.offset off && Nat.beq (P.cellsOf f.type) a.size && chk P a (some f.type) [] 0 && chk P b none r (off + a.size) | [] => false) = true ->
    cs.length = off + (a.size + b.size) -> xs.length = fs.length ->
    (∀ (i : Nat) (f : Field), fs[i]? = some f -> DataW.trod enc P w 0 spare held n f.type ((cs.drop f.offset).take (P.cellsOf f.type)) = xs[i]?) ->
    (∀ n ∈ DataW.weightsEach P (fs.map (·.type)) (xs.map (·.1)), n <= reachBytes) -> ∃ d, Reads w (.pair a b) (cs.drop off) d := by
   intro fs off n cs xs hc hl hx hr hw
   match fs, xs, hc, hx, hr, hw with
   | f :: r, x :: xs, hc, hx, hr, hw =>
    simp only [Bool.and_eq_true, Nat.beq_eq] at hc
    obtain ⟨⟨⟨h1, h2⟩, h3⟩, h4⟩ := hc
    simp only [List.map_cons, DataW.weightsEach, List.mem_append] at hw
    have r0 := hr 0 f rfl; rw [h1, h2] at r0; obtain ⟨d1, hd1⟩ := (opens hspare a).1 f.type n _ x h3 (by simpa using r0) fun m hm => hw m (Or.inl hm)
    obtain ⟨d2, hd2⟩ := (opens hspare b).2 r (off + a.size) n cs xs h4 (by omega) (by simpa using hx) (fun i g hg => by simpa using hr (i + 1) g (by simpa using hg)) fun m hm => hw m (Or.inr hm)
    refine ⟨(d1, d2), hd1, ?_⟩
    show Reads w b ((cs.drop off).drop a.size) d2
    rw [List.drop_drop]; exact hd2
   | [], _, hc, _, _, _ => cases hc
  refine ⟨fun t fuel cs x hc h hw => ?_, fun fs off n cs xs hc hl hx hr hw => ?_⟩
  .simp only [chk] at hc
   split at hc
   .rename_i fs hu
    simp only [Bool.and_eq_true, Nat.beq_eq] at hc
    obtain ⟨xs, n, rfl, rfl, hl, hx, hr⟩ := DataW.trod_struct hu h
    have := key fs.toList 0 n cs xs (by simpa only [Nat.zero_add] using hc.2) (by rw [hl, hc.1]; omega) (by simpa using hx) (fun i f hf => hr i f (by simpa using hf)) (fun m hm => hw m (by simpa [DataW.weights, hu] using hm))
    simpa using this
   .cases hc
  .exact key fs off n cs xs (by simpa only [chk] using hc) hl hx hr hw
 | .arr m e => by
  refine ⟨fun t fuel cs x hc h hw => ?_, fun fs off n cs xs hc => by simp [chk] at hc⟩
  simp only [chk] at hc
  split at hc
  .rename_i n' e' hu
   simp only [Bool.and_eq_true, Nat.beq_eq] at hc
   obtain ⟨⟨⟨rfl, h1⟩, h2⟩, h3⟩ := hc; obtain ⟨xs, n, rfl, rfl, hl, hx, hr⟩ := DataW.trod_array hu h; rw [h2] at hr
   obtain ⟨ds, hd1, hd2⟩ := zmk (α := e.den) (fun i d => Reads w e ((cs.drop (i * e.size)).take e.size) d) n' (fun i hi => by
    have hi2 : i < xs.length := by omega
    have := hr i hi
    rw [List.getElem?_eq_getElem hi2] at this
    refine (opens hspare e).1 e' n _ xs[i] h3 this fun k hk => hw k ?_
    simp only [DataW.weights, hu]
    exact zfh (List.mem_map.2 ⟨xs[i], List.getElem_mem _, rfl⟩) hk) ()
   exact ⟨ds, hd1, by rw [hl, h1], hd2⟩
  .cases hc
 | .sl by_ e => by
  refine ⟨fun t fuel cs x hc h hw => ?_, fun fs off n cs xs hc => by simp [chk] at hc⟩
  simp only [chk] at hc
  split at hc
  .rename_i e' hu
   simp only [Bool.and_eq_true, Nat.beq_eq] at hc
   obtain ⟨⟨⟨h1, h2⟩, h3⟩, h4⟩ := hc
   have hpos : 0 < e.size := by simp [Nat.blt] at h2; omega
   rcases DataW.trod_slice hu h with ⟨rfl, rfl⟩ | ⟨a, len, cap, elems, rest, n, _, rfl, rfl, hb, hl, hm, hlen, hel, hsp, hns⟩
   .exact ⟨[], none, 0, rfl, by simp, by simp, by omega, fun h0 => by simp at h0⟩
   .rw [h1] at hel
    have hrl := (hsp (hspare _)).1
    have hcap : cap * by_ <= 140737488351232 := by
     have := hw ((elems.length + rest.length) * P.bytesOf e') (by simp [DataW.weights, hu])
     rw [hlen, hrl, h3, reach_eq, Nat.add_sub_cancel' hl] at this; exact this
    have hm2 : cap <= 9223372036854775807 := hm
    have hcell : ∀ i, i < len -> ∃ cs', cs'.length = e.size ∧ (∀ j, j < e.size -> w.cell? ((a.add (i * e.size)).add j) = cs'[j]?) ∧ ∃ d, Reads w e cs' d := by
     intro i hi
     have hi2 : i < elems.length := by omega
     have := hel i hi
     rw [List.getElem?_eq_getElem hi2] at this
     obtain ⟨cs', q1, q2⟩ := Option.bind_eq_some_iff.1 this; obtain ⟨_, q3, q4⟩ := World.cells?_some q1
     refine ⟨cs', q3, q4, (opens hspare e).1 e' n cs' elems[i] h4 q2 fun k hk => hw k ?_⟩
     simp only [DataW.weights, hu, List.mem_cons, List.mem_append]
     exact Or.inr (Or.inl (zfh (List.mem_map.2 ⟨elems[i], List.getElem_mem _, rfl⟩) hk))
    obtain ⟨ds, hd1, hd2⟩ := zmk (α := e.den) (fun i d => ∃ cs', cs'.length = e.size ∧ (∀ j, j < e.size -> w.cell? ((a.add (i * e.size)).add j) = cs'[j]?) ∧ Reads w e cs' d) len (fun i hi => by
     obtain ⟨cs', q1, q2, d, q3⟩ := hcell i hi; exact ⟨d, cs', q1, q2, q3⟩) ()
    refine ⟨ds, some a, cap, by rw [hd1], by omega, hcap, hm2, fun h0 => ?_⟩
    obtain ⟨b, off, spot⟩ := a
    have h00 : ∃ v, w.cell? ⟨b, off, spot⟩ = some v := by
     obtain ⟨cs', q1, q2, _⟩ := hd2 0 h0
     have := q2 0 hpos
     rw [List.getElem?_eq_getElem (by omega)] at this
     simp only [Nat.zero_mul, Addr.add, if_true] at this
     exact ⟨_, this⟩
    obtain ⟨v, hv⟩ := h00
    have hspot : spot = none := by simpa using World.cell?_spot hv
    subst hspot
    refine ⟨b, off, rfl, World.block_lt_of_cell? w _ hv, fun i hi => ?_⟩
    obtain ⟨cs', q1, q2, q3⟩ := hd2 i hi
    refine ⟨cs', q1, fun j hj => ?_, q3⟩
    have := q2 j hj
    rw [Addr.add_lit, Addr.add_lit] at this; rw [<- this, Nat.add_assoc]
  .cases hc
end
end Go.Proofs.YtojimgbcghiblaaGreatDoor.Open
namespace Go.Proofs.YtojimgbcghiblaaGreatDoor
section
open Go.RowKit FlaMath
structure OpV where
 k : Int
 at_ : Int
 n : Int
 s : ByteArray
 fb : Int
 fm : UInt8
section
variable {P : Program}
end
def gr (L : List OpV) : Bool := decide (150 < L.length) || L.any fun o => decide (1000 < o.s.size)
end
section
open Go.RowKit FlaMath
theorem zzy (D : Dv) (o n : Nat) (f g : Nat -> UInt8 -> UInt8) : (workD D o n f g).L = D.L := zbhi D
theorem zbht (D : Dv) (i : Int) : (eraseD D i).L = D.L := by
 unfold eraseD
 split
 .rw [zzy]; rfl
 .rfl
theorem zbbm (D : Dv) (x : Int) (l : List UInt8) : (programD D x l).L = D.L := by
 unfold programD
 split
 .rw [zzy]
 .rfl
abbrev Fop := Int × Option (List UInt8)
def opE (o : Fop) (D : Dv) : Int := match o.2 with | none => eraseE D o.1 | some l => programE D o.1 l
def opD (o : Fop) (D : Dv) : Dv := match o.2 with | none => eraseD D o.1 | some l => programD D o.1 l
def runE : List Fop -> Dv -> Int
 | [], _ => 0
 | o :: r, D => if opE o D = 0 then runE r (opD o D) else opE o D
def runD : List Fop -> Dv -> Dv
 | [], D => D
 | o :: r, D => if opE o D = 0 then runD r (opD o D) else opD o D
theorem zdm : ∀ (a b : List Fop) (D : Dv), runE (a ++ b) D = (if runE a D = 0 then runE b (runD a D) else runE a D) ∧ runD (a ++ b) D = (if runE a D = 0 then runD b (runD a D) else runD a D)
 | [], b, D => ⟨by simp [runE, runD], by simp [runE, runD]⟩
 | o :: r, b, D => by
  have ih := zdm r b (opD o D)
  simp only [List.cons_append, runE, runD]
  by_cases h : opE o D = 0
  .simp only [if_pos h]; exact ih
  .simp only [if_neg h]; exact ⟨trivial, trivial⟩
theorem zhd (o : Fop) (D : Dv) : runE [o] D = opE o D := by
 by_cases h : opE o D = 0
 .simp [runE, h]
 .simp [runE, h]
theorem zhc (o : Fop) (D : Dv) : runD [o] D = opD o D := by
 by_cases h : opE o D = 0
 .simp [runD, h]
 .simp [runD, h]
theorem zvu {a b : List Fop} {D : Dv} (h : runE a D = 0) (h2 : runE b (runD a D) = 0) : runE (a ++ b) D = 0 ∧ runD (a ++ b) D = runD b (runD a D) := by
 obtain ⟨h3, h4⟩ := zdm a b D
 rw [if_pos h] at h3 h4
 exact ⟨h3.trans h2, h4⟩
theorem znx {a b : List Fop} {D : Dv} (r : List Fop) (h : runE a D = 0) (h2 : runE b (runD a D) ≠ 0) : runE (a ++ b ++ r) D = runE b (runD a D) ∧ runD (a ++ b ++ r) D = runD b (runD a D) := by
 obtain ⟨h3, h4⟩ := zdm a b D
 rw [if_pos h] at h3 h4
 obtain ⟨h5, h6⟩ := zdm (a ++ b) r D
 rw [if_neg (by rw [h3]; exact h2)] at h5 h6
 exact ⟨h5.trans h3, h6.trans h4⟩
def seqF (n : Nat) (f : Nat -> List Fop) : List Fop := (List.range n).flatMap f
theorem zsa (f : Nat -> List Fop) : seqF 0 f = [] := rfl
theorem zhs (n : Nat) (f : Nat -> List Fop) : seqF (n + 1) f = seqF n f ++ f n := by simp [seqF, List.range_succ]
theorem zpm {n i : Nat} (f : Nat -> List Fop) (h : i < n) : ∃ r, seqF n f = seqF i f ++ f i ++ r := by
 induction n with
 | zero => omega
 | succ n ih =>
  rw [zhs]
  by_cases e : i = n
  .subst e; exact ⟨[], by simp⟩
  .obtain ⟨r, hr⟩ := ih (by omega)
   exact ⟨r ++ f n, by rw [hr]; simp⟩
theorem zlj {n i : Nat} {f : Nat -> List Fop} {D : Dv} (h : runE (seqF i f) D = 0) (h2 : runE (f i) (runD (seqF i f) D) = 0) : runE (seqF (i + 1) f) D = 0 ∧ runD (seqF (i + 1) f) D = runD (f i) (runD (seqF i f) D) := by
 rw [zhs]; exact zvu h h2
theorem zjp {n i : Nat} {f : Nat -> List Fop} {D : Dv} (hi : i < n) (h : runE (seqF i f) D = 0) (h2 : runE (f i) (runD (seqF i f) D) ≠ 0) : runE (seqF n f) D = runE (f i) (runD (seqF i f) D) ∧ runD (seqF n f) D = runD (f i) (runD (seqF i f) D) := by
 obtain ⟨r, hr⟩ := zpm f hi
 rw [hr]; exact znx r h h2
theorem zbbt {o : List Fop} {D : Dv} : (runD o D).L = D.L := by
 induction o generalizing D with
 | nil => rfl
 | cons a r ih =>
  have h : (opD a D).L = D.L := by
   unfold opD
   split
   .exact zbht D _
   .exact zbbm D _ _
  unfold runD
  split
  .rw [ih, h]
  .exact h
theorem Dev.below {w w' : World} {s : Sh} {D : Dv} {B : Nat} (h : Dev w s D) (hb : Below B w w') (hs : ∀ k ∈ s.S, k < B) : Dev w' s D :=
 ⟨h.row.below hb (hs _ (by simp [Sh.S])), h.c.below hb (hs _ (by simp [Sh.S])), h.l.below hb (hs _ (by simp [Sh.S])), h.e.below hb (hs _ (by simp [Sh.S])), h.ne, h.room, h.cap, h.ok⟩
theorem Onl.belowB {S : List Nat} {w wr w' : World} (h : Onl S w wr) (k : Below w.heap.size wr w') : Onl S w w' :=
 ⟨k.os.trans h.1, k.tape.trans h.2.1, k.output.trans h.2.2.1, Nat.le_trans h.size k.size, fun j hj hs => (k.block j hj).trans (h.2.2.2.2 j hj hs)⟩
structure Up (D : Dv) : Prop where
 dn : D.dn = false
 lit : D.lit = false
 ok : D.Ok
theorem Up.burnB {D : Dv} (h : Up D) : burnB D = false := by unfold Go.Proofs.YtojimgbcghiblaaGreatDoor.burnB; rw [h.lit]; rfl
theorem Up.burned {D : Dv} (h : Up D) : burned D = D := by unfold Go.Proofs.YtojimgbcghiblaaGreatDoor.burned; rw [h.lit]; rfl
theorem zwq (x : UInt8) : (255 : UInt8) &&& x = x := by
 refine UInt8.toNat_inj.1 ?_
 rw [UInt8.toNat_and]
 show 255 &&& x.toNat = x.toNat
 have h := Nat.and_two_pow_sub_one_eq_mod x.toNat 8
 have h2 := x.toNat_lt
 rw [Nat.and_comm]
 show x.toNat &&& (2 ^ 8 - 1) = x.toNat
 rw [h]
 exact Nat.mod_eq_of_lt h2
theorem zwm {D : Dv} (h : Up D) (o n : Nat) (f g : Nat -> UInt8 -> UInt8) : workD D o n f g = { D with ops := wrap64 (D.ops + 1), C := prog D.C o n f } := by
 unfold workD
 rw [h.burnB, h.burned]
 have e : FlaMath.work D.C o n (if false = true then reach D.fb n else n) f g = prog D.C o n f := by
  rw [if_neg (by decide)]
  unfold FlaMath.work
  rw [if_neg (Nat.lt_irrefl n)]
 rw [e]
 have := h.dn
 cases D
 simp_all
end
end Go.Proofs.YtojimgbcghiblaaGreatDoor
namespace Go.Proofs.YtojimgbcghiblaaGreatDoor.CrcMath
abbrev R := BitVec 32
def P : R := 0xEDB88320#32
def stp (r : R) : R := if r.getLsbD 0 then (r >>> 1) ^^^ P else r >>> 1
def its : Nat -> R -> R
 | 0, r => r
 | k + 1, r => stp (its k r)
def eight (r : R) : R := its 8 r
def ex (b : UInt8) : R := BitVec.ofNat 32 b.toNat
def fd (r : R) (b : UInt8) : R := eight (r ^^^ ex b)
def reg (r : R) (l : List UInt8) : R := l.foldl fd r
def ones : R := BitVec.allOnes 32
def crc (l : List UInt8) : R := ~~~ reg ones l
theorem zbbq (r : R) (l m : List UInt8) : reg r (l ++ m) = reg (reg r l) m := by simp [reg]
theorem zbju (r : R) (l : List UInt8) (b : UInt8) : reg r (l ++ [b]) = fd (reg r l) b := by simp [reg]
theorem zbnk (a b : R) : stp (a ^^^ b) = stp a ^^^ stp b := by
 unfold stp
 rw [BitVec.getLsbD_xor]
 cases ha : a.getLsbD 0 <;> cases hb : b.getLsbD 0 <;> simp [BitVec.ushiftRight_xor_distrib]
 .ac_rfl
 .ac_rfl
 .rw [show a >>> 1 ^^^ P ^^^ (b >>> 1 ^^^ P) = (a >>> 1 ^^^ b >>> 1) ^^^ (P ^^^ P) by ac_rfl, BitVec.xor_self, BitVec.xor_zero]
theorem zbmi (k : Nat) (a b : R) : its k (a ^^^ b) = its k a ^^^ its k b := by
 induction k with
 | zero => rfl
 | succ k ih => rw [its, ih, zbnk, its, its]
theorem zbdw (a b : R) : eight (a ^^^ b) = eight a ^^^ eight b := zbmi 8 a b
theorem zbki (x : R) (k : Nat) : stp (x <<< (k + 1)) = (x <<< (k + 1)) >>> 1 := by
 unfold stp
 rw [if_neg (by simp)]
theorem zbne (y : R) (k : Nat) (h : y.toNat * 2 ^ (k + 1) < 2 ^ 32) : (y <<< (k + 1)) >>> 1 = y <<< k := by
 apply BitVec.eq_of_toNat_eq
 rw [BitVec.toNat_ushiftRight, BitVec.toNat_shiftLeft, BitVec.toNat_shiftLeft, Nat.shiftLeft_eq, Nat.shiftLeft_eq, Nat.shiftRight_eq_div_pow]
 rw [Nat.mod_eq_of_lt h]
 have e : y.toNat * 2 ^ (k + 1) = (y.toNat * 2 ^ k) * 2 := by rw [Nat.pow_succ]; ac_rfl
 rw [e] at h ⊢
 rw [Nat.mod_eq_of_lt (by omega)]
 omega
theorem zbmh (y : R) (n k : Nat) (hk : k <= n) (h : y.toNat * 2 ^ n < 2 ^ 32) : its k (y <<< n) = y <<< (n - k) := by
 induction k with
 | zero => rfl
 | succ k ih =>
  rw [its, ih (by omega)]
  obtain ⟨m, hm⟩ : ∃ m, n - k = m + 1 := ⟨n - k - 1, by omega⟩
  have hp : 2 ^ (m + 1) <= 2 ^ n := Nat.pow_le_pow_right (by omega) (by omega)
  rw [hm, zbki, zbne y m (Nat.lt_of_le_of_lt (Nat.mul_le_mul_left _ hp) h)]
  congr 1
  omega
theorem zbaj (y : R) (h : y.toNat * 256 < 2 ^ 32) : eight (y <<< 8) = y := by
 have := zbmh y 8 8 (Nat.le_refl _) h
 simpa [eight] using this
theorem split (r : R) : r = ((r >>> 8) <<< 8) ^^^ (BitVec.ofNat 32 (r.toNat % 256)) := by
 apply BitVec.eq_of_toNat_eq
 rw [BitVec.toNat_xor, BitVec.toNat_shiftLeft, BitVec.toNat_ushiftRight, BitVec.toNat_ofNat, Nat.shiftLeft_eq, Nat.shiftRight_eq_div_pow]
 have hr := r.isLt
 rw [Nat.mod_eq_of_lt (a := r.toNat % 256) (by omega), Nat.mod_eq_of_lt (by omega)]
 have h := Nat.two_pow_add_eq_or_of_lt (i := 8) (b := r.toNat % 256) (by omega) (r.toNat / 2 ^ 8)
 have h2 : 2 ^ 8 * (r.toNat / 2 ^ 8) ^^^ r.toNat % 256 = 2 ^ 8 * (r.toNat / 2 ^ 8) ||| r.toNat % 256 := by
  apply Nat.eq_of_testBit_eq
  intro i
  rw [Nat.testBit_xor, Nat.testBit_or, Nat.testBit_two_pow_mul]
  by_cases hi : i < 8
  .simp [show ¬ 8 <= i by omega]
  .have : (r.toNat % 256).testBit i = false := Nat.testBit_lt_two_pow (Nat.lt_of_lt_of_le (show r.toNat % 256 < 2 ^ 8 by omega) (Nat.pow_le_pow_right (by omega) (by omega)))
   simp [this]
 rw [Nat.mul_comm, h2, <- h]
 omega
theorem zbhy (r : R) (b : UInt8) : fd r b = (r >>> 8) ^^^ eight (BitVec.ofNat 32 ((r.toNat % 256) ^^^ b.toNat)) := by
 unfold fd
 have hx : BitVec.ofNat 32 ((r.toNat % 256) ^^^ b.toNat) = BitVec.ofNat 32 (r.toNat % 256) ^^^ ex b := by
  apply BitVec.eq_of_toNat_eq
  have hb : b.toNat < 256 := b.toNat_lt
  have h1 : r.toNat % 256 ^^^ b.toNat < 2 ^ 8 := Nat.xor_lt_two_pow (by omega) (by omega)
  rw [BitVec.toNat_xor, ex, BitVec.toNat_ofNat, BitVec.toNat_ofNat, BitVec.toNat_ofNat]
  rw [Nat.mod_eq_of_lt (a := r.toNat % 256 ^^^ b.toNat) (by omega), Nat.mod_eq_of_lt (a := b.toNat) (by omega), Nat.mod_eq_of_lt (a := r.toNat % 256) (by omega)]
 have hh : ((r >>> 8).toNat) * 256 < 2 ^ 32 := by
  rw [BitVec.toNat_ushiftRight, Nat.shiftRight_eq_div_pow]
  have hr := r.isLt
  omega
 conv => lhs; rw [split r]
 rw [BitVec.xor_assoc, <- hx, zbdw, zbaj _ hh]
theorem ex_lt (b : UInt8) : (ex b).toNat < 256 := by
 have := b.toNat_lt
 unfold ex
 rw [BitVec.toNat_ofNat, Nat.mod_eq_of_lt (by omega)]
 exact this
end Go.Proofs.YtojimgbcghiblaaGreatDoor.CrcMath
namespace Go.Proofs.YtojimgbcghiblaaGreatDoor
section
open Go.RowKit CrcMath
theorem zbls (x : R) : (bits .and .u32 (x.toNat : Int) 1 == 1) = x.getLsbD 0 := by
 have hx := x.isLt
 have e : bits .and .u32 (x.toNat : Int) 1 = ((x.toNat &&& 1 : Nat) : Int) := u32_and_nat x.toNat 1 (by omega) (by omega)
 rw [e, Nat.and_one_is_mod, BitVec.getLsbD, Nat.testBit_zero, Bool.eq_iff_iff]
 simp
 omega
theorem zbhl (x : R) (h : x.getLsbD 0 = true) : bits .xor .u32 ((x.toNat : Int) / 2) 3988292384 = ((stp x).toNat : Int) := by
 have hx := x.isLt
 have e1 : (x.toNat : Int) / 2 = ((x.toNat / 2 : Nat) : Int) := by omega
 have e : bits .xor .u32 ((x.toNat / 2 : Nat) : Int) ((3988292384 : Nat) : Int) = ((x.toNat / 2 ^^^ 3988292384 : Nat) : Int) := u32_xor_nat _ _ (by omega) (by omega)
 rw [e1]
 refine e.trans ?_
 rw [stp, if_pos h, BitVec.toNat_xor, BitVec.toNat_ushiftRight, Nat.shiftRight_eq_div_pow]
 rfl
theorem zbdn (x : R) (h : x.getLsbD 0 = false) : (x.toNat : Int) / 2 = ((stp x).toNat : Int) := by
 rw [stp, if_neg (by rw [h]; decide), BitVec.toNat_ushiftRight, Nat.shiftRight_eq_div_pow]
 omega
theorem zbdv (r : R) (w : World) :
  Calls Tryz.prog 132 #[.int .u32 (r.toNat : Int)] w fun e w' => e = .returned (.int .u32 ((eight r).toNat : Int)) ∧ w = w' := by
 go_enter Tryz.func132, Tryz.ntmps132
 go_wp2
 go_loop [0, 3] (fun t i => ∃ k : Nat, k <= 8 ∧ i = .int .i64 k ∧ t = .int .u32 ((its k r).toNat : Int)) (fun _ i => 8 - (intOf i).toNat)
 case atStart => exact ⟨0, by omega, rfl, rfl⟩
 case round =>
  obtain ⟨k, hk, rfl, rfl⟩ := hrel
  generalize hx : its k r = x
  have HX := zh hx
  clear hx
  by_cases hlt : k < 8
  .have HT : Hid (its (k + 1) r = stp x) := zh (by rw [<- HX.out]; rfl)
   have HB := zh (zbls x); go_wp2
   .have h : (bits BinOp.and IntKind.u32 (x.toNat : Int) 1 == 1) = true := by assumption
    go_round
    case rel => exact ⟨k + 1, by omega, by go_num, by rw [HT.out, zbhl x (by rw [<- HB.out]; exact h)]⟩
    case measure => simp [intOf]; omega
   .have h : (bits BinOp.and IntKind.u32 (x.toNat : Int) 1 == 1) = false := by assumption
    go_round
    case rel => exact ⟨k + 1, by omega, by go_num, by rw [HT.out, zbdn x (by rw [<- HB.out]; exact h)]⟩
    case measure => simp [intOf]; omega
  .have ek : k = 8 := by omega
   subst ek; go_wp2; go_ret; exact ⟨zay (by rw [<- HX.out]; rfl), rfl⟩
def Tab (w : World) (b o : Nat) : Prop := ∀ j : Nat, j < 256 -> w.cell? ⟨b, o + j, none⟩ = some (.int .u32 ((eight (BitVec.ofNat 32 j)).toNat : Int))
theorem Tab.below {w w' : World} {B b o : Nat} (h : Tab w b o) (hb : Below B w w') (hlt : b < B) : Tab w' b o :=
 fun j hj => (hb.cell (p := ⟨b, o + j, none⟩) hlt).trans (h j hj)
theorem zbhg (b o : Nat) (w : World) (h : Tab w b o) :
  Calls Tryz.prog 143 #[.pointer (some ⟨b, o, none⟩)] w fun e w' => e = .returned (.bool false) ∧ w = w' := by
 have h1 : w.cell? ⟨b, o + 1, none⟩ = some (.int .u32 1996959894) := h 1 (by omega)
 clear h
 go_enter Tryz.func143, Tryz.ntmps143
 go_wp2
 go_ret
 exact ⟨rfl, rfl⟩
theorem zbar (x : R) (c : UInt8) : bits .xor .u8 (IntKind.u8.wrap (x.toNat : Int)) (c.toNat : Int) = (((x.toNat % 256) ^^^ c.toNat : Nat) : Int) := by
 have hc : c.toNat < 256 := c.toNat_lt
 have e : IntKind.u8.wrap (x.toNat : Int) = ((x.toNat % 256 : Nat) : Int) := by rw [IntKind.wrap_u8']; omega
 rw [e, u8_xor_nat _ _ (by omega) (by omega)]
theorem zbeh (x : R) (c : UInt8) (j : Nat) (hj : (x.toNat % 256) ^^^ c.toNat = j) : bits .xor .u32 ((x.toNat : Int) / 256) ((eight (BitVec.ofNat 32 j)).toNat : Int) = ((fd x c).toNat : Int) := by
 have hx := x.isLt
 have e : (x.toNat : Int) / 256 = ((x.toNat / 256 : Nat) : Int) := by omega
 rw [e, u32_xor_nat _ _ (by omega) (BitVec.isLt _), zbhy, hj, BitVec.toNat_xor, BitVec.toNat_ushiftRight, Nat.shiftRight_eq_div_pow]
theorem zbhz (b o : Nat) (r : R) (s : ByteArray) (w : World) (h : Tab w b o) (hlt0 : b < w.heap.size) (hs : s.size <= maxLen) :
  Calls Tryz.prog 144 #[.pointer (some ⟨b, o, none⟩), .int .u32 (r.toNat : Int), .string s] w fun e w' => e = .returned (.int .u32 ((reg r s.data.toList).toNat : Int)) ∧ Below w.heap.size w w' := by
 unfold maxLen at hs
 go_enter Tryz.func144, Tryz.ntmps144
 go_wp2
 go_loopw [1, 10] (fun t i wr => ∃ k : Nat, k <= s.size ∧ i = .int .i64 k ∧ t = .int .u32 ((reg r (s.data.toList.take k)).toNat : Int) ∧ Below w.heap.size w wr) (fun _ i _ => s.size - (intOf i).toNat)
 case atStart => exact ⟨0, by omega, rfl, rfl, zb⟩
 case round =>
  obtain ⟨k, hk, rfl, rfl, hbw⟩ := hrel
  by_cases hlt : k < s.size
  .generalize hx : reg r (s.data.toList.take k) = x
   have HX := zh hx; clear hx
   have HT : Hid (reg r (s.data.toList.take (k + 1)) = fd x s[k]) := zh (by rw [zom s k hlt, zbju, HX.out])
   obtain ⟨j, hj⟩ : ∃ j, (x.toNat % 256) ^^^ s[k].toNat = j := ⟨_, rfl⟩
   have hc : s[k].toNat < 256 := s[k].toNat_lt
   have hj2 : j < 256 := by rw [<- hj]; exact Nat.xor_lt_two_pow (n := 8) (by omega) (by omega)
   have hcell : wr.cell? ⟨b, o + j, none⟩ = some (.int .u32 ((eight (BitVec.ofNat 32 j)).toNat : Int)) := (hbw.cell (p := ⟨b, o + j, none⟩) hlt0).trans (h j hj2)
   have hidx := zbar x s[k]; rw [hj] at hidx
   have HS : Hid (_ = _) := zh (zbeh x s[k] j hj)
   clear hj hc
   have hj3 : (j : Int) < 256 := by omega
   have hj4 : 0 <= (j : Int) := by omega
   go_wp2
   go_quiet (fail)
   have hb2 : Below w.heap.size w (wr.drewN nq) := hbw.drewN _
   go_wp2
   go_roundw
   case rel => exact ⟨k + 1, by omega, by go_num, by rw [HT.out, <- HS.out], hb2⟩
   case measure => simp [intOf]; omega
  .go_wp2
   go_ret; exact ⟨zay (by rw [List.take_of_length_le (by rw [zak]; omega)]), hbw⟩
theorem zbkt (u : World) : (zeroValue 170).run Tryz.prog u = .ok (.agg (Array.replicate 256 (.int .u32 0))) u := by kernel_rfl
def Part (w : World) (b k : Nat) : Prop :=
 ∃ cs : Array Value, w.heap[b]? = some (.cells cs 170 (0, 0)) ∧ cs.size = 256 ∧ ∀ j : Nat, j < k -> cs[j]? = some (.int .u32 ((eight (BitVec.ofNat 32 j)).toNat : Int))
theorem Part.cell {w : World} {b k j : Nat} (h : Part w b k) (hj : j < 256) : ∃ u, w.cell? ⟨b, j, none⟩ = some u := by
 obtain ⟨cs, hh, hs, _⟩ := h
 refine ⟨cs[j]'(by omega), ?_⟩
 simp only [World.cell?, hh]
 simp [hs, hj]
theorem Part.frozen {w : World} {b k j : Nat} (h : Part w b k) : w.frozen? ⟨b, j, none⟩ = false := by
 obtain ⟨cs, hh, hs, _⟩ := h
 simp [World.frozen?, hh]
theorem Part.next {w : World} {b k : Nat} (h : Part w b k) (hk : k < 256) : Part (w.setCell ⟨b, k, none⟩ (.int .u32 ((eight (BitVec.ofNat 32 k)).toNat : Int))) b (k + 1) := by
 obtain ⟨cs, hh, hs, hc⟩ := h
 refine ⟨cs.setIfInBounds k (.int .u32 ((eight (BitVec.ofNat 32 k)).toNat : Int)), ?_, by simpa using hs, fun j hj => ?_⟩
 .simp only [World.setCell, Array.getElem?_modify, if_true, hh, Option.map_some]
  rfl
 .rw [Array.getElem?_setIfInBounds]
  by_cases e : k = j
  .subst e; rw [if_pos rfl, if_pos (by omega)]
  .rw [if_neg e]; exact hc j (by omega)
theorem Part.tab {w : World} {b : Nat} (h : Part w b 256) : Tab w b 0 := by
 obtain ⟨cs, hh, hs, hc⟩ := h
 intro j hj
 simp only [World.cell?, hh, Nat.zero_add]
 simpa using hc j hj
theorem Part.lt {w : World} {b k : Nat} (h : Part w b k) : b < w.heap.size := by
 obtain ⟨cs, hh, hs, hc⟩ := h
 exact (Array.getElem?_eq_some_iff.1 hh).1
theorem Part.drew {w : World} {b k : Nat} (h : Part w b k) : Part w.drew b k := h
theorem ztx (b : Nat) (w : World) (hp : Part w b 0) :
  Calls Tryz.prog 100 #[.pointer (some ⟨b, 0, none⟩)] w fun e w' => e = .returned (.tuple #[]) ∧ Part w' b 256 ∧ Below b w w' := by
 go_enter Tryz.func100, Tryz.ntmps100
 go_wp2
 go_loopw [3] (fun i wr => ∃ k : Nat, k <= 256 ∧ i = .int .i64 k ∧ Part wr b k ∧ Below b w wr) (fun i _ => 256 - (intOf i).toNat)
 case atStart => exact ⟨0, by omega, rfl, hp, zb⟩
 case round =>
  obtain ⟨k, hk, rfl, hpart, hbw⟩ := hrel
  by_cases hlt : k < 256
  .obtain ⟨u, hu⟩ := hpart.cell hlt
   have hf := hpart.frozen (j := k); have hpart2 := hpart.next hlt
   have hb2 : Below b w (wr.setCell ⟨b, k, none⟩ (.int .u32 ((eight (BitVec.ofNat 32 k)).toNat : Int))) := hbw.setCell (p := ⟨b, k, none⟩) (Nat.le_refl _) _
   obtain ⟨x, hx⟩ : ∃ x, x = BitVec.ofNat 32 k := ⟨_, rfl⟩; rw [<- hx] at hpart2 hb2
   have hw : IntKind.u32.wrap (k : Int) = (x.toNat : Int) := by
    rw [IntKind.wrap_u32', hx, BitVec.toNat_ofNat]
    omega
   have HX := zh hx; clear hx
   have hk1 : (k : Int) < 256 := by omega
   have hk2 : 0 <= (k : Int) := by omega
   have HP := zh hpart2; have HB := zh hb2; clear hpart hbw hpart2 hb2; go_wp2
   go_still_tail 7, (by kernel_rfl)
   still_call ((zbdv x _).mono fun e w' h => ⟨h.1, h.2.symm⟩)
   repeat still_step
   refine wpStill_nil ?_
   change wpList _ _ _ _ _ wr.drew
   go_wp2
   go_roundw
   case rel => exact ⟨k + 1, by omega, by go_num, HP.out.drew, HB.out.drew⟩
   case measure => simp [intOf]; omega
  .have ek : k = 256 := by omega
   subst ek; go_wp2
   go_end0
   exact ⟨rfl, hpart, hbw⟩
def zbhk (w : World) (e : Ending) (w' : World) : Prop :=
 ∃ b, e = .returned (.pointer (some ⟨b, 0, none⟩)) ∧ b < w'.heap.size ∧ Tab w' b 0 ∧ Below w.heap.size w w'
theorem zww (w : World) : Calls Tryz.prog 64 #[] w (zbhk w) := by
 obtain ⟨zs, hzs⟩ : ∃ zs, zs = Array.replicate 256 (Value.int .u32 0) := ⟨_, rfl⟩
 have hz := zbkt
 rw [<- hzs] at hz
 have hne : ¬ zs = #[] := by rw [hzs]; decide
 have HP : Hid (Part (w.alloc (.cells zs 170)) w.heap.size 0) := zh ⟨zs, by show (w.heap.push _)[w.heap.size]? = _; simp, by rw [hzs]; simp, fun j hj => by omega⟩
 have HZ := zh hzs
 clear hzs
 go_enter Tryz.func64, Tryz.ntmps64
 go_wp2_with (go_at_call 100; refine (ztx _ _ HP.out).mono ?_; rintro e w1 ⟨rfl, hp1, hb1⟩)
 go_ret
 exact ⟨_, rfl, hp1.lt, hp1.tab, ((zb).alloc (Nat.le_refl _) _).trans hb1⟩
end
end Go.Proofs.YtojimgbcghiblaaGreatDoor
namespace Go.Proofs.YtojimgbcghiblaaGreatDoor.NumMath
def be : Nat -> Nat -> List UInt8
 | 0, _ => []
 | s + 1, n => be s (n / 256) ++ [UInt8.ofNat (n % 256)]
def val (l : List UInt8) : Nat := l.foldl (fun a b => 256 * a + b.toNat) 0
theorem be_length (s n : Nat) : (be s n).length = s := by
 induction s generalizing n with
 | zero => rfl
 | succ s ih => simp [be, ih]
theorem zof (l : List UInt8) (b : UInt8) : val (l ++ [b]) = 256 * val l + b.toNat := by simp [val]
theorem toNat_mod (n : Nat) : (UInt8.ofNat (n % 256)).toNat = n % 256 := by
 rw [UInt8.toNat_ofNat']; omega
theorem zpr (s n : Nat) (h : n < 256 ^ s) : val (be s n) = n := by
  induction s generalizing n with
  | zero => have : n = 0 := by simpa using h
            subst this; rfl
  | succ s ih =>
    rw [be, zof, ih (n / 256) (by rw [Nat.pow_succ] at h; omega), toNat_mod]
    omega
theorem snoc_ind {α : Type} {P : List α -> Prop} (h0 : P []) (h1 : ∀ l a, P l -> P (l ++ [a])) (l : List α) : P l := by
 have h : ∀ r : List α, P r.reverse := fun r => by
  induction r with
  | nil => exact h0
  | cons a r ih => rw [List.reverse_cons]; exact h1 _ _ ih
 simpa using h l.reverse
theorem val_lt (l : List UInt8) : val l < 256 ^ l.length := by
 induction l using snoc_ind with
 | h0 => simp [val]
 | h1 l b ih =>
  rw [zof]
  have := b.toNat_lt
  simp only [List.length_append, List.length_singleton, Nat.pow_succ]
  omega
theorem zbln (s n : Nat) : be (s + 1) n = UInt8.ofNat (n / 256 ^ s % 256) :: be s n := by
 induction s generalizing n with
 | zero => simp [be]
 | succ s ih =>
  rw [be, ih (n / 256), be, List.cons_append]
  congr 2
  rw [Nat.div_div_eq_div_mul, Nat.pow_succ, Nat.mul_comm]
end Go.Proofs.YtojimgbcghiblaaGreatDoor.NumMath
namespace Go.Proofs.YtojimgbcghiblaaGreatDoor
section
open Go.RowKit NumMath
def okB (s : Int) : Bool := decide (1 <= s ∧ s <= 7)
theorem zqm {s : Int} (h1 : 1 <= s) (h2 : s <= 7) : okB s = true := by unfold okB; simp; omega
theorem zbfg {s : Int} (h : ¬ (1 <= s ∧ s <= 7)) : okB s = false := by unfold okB; simpa using h
theorem zej (s : Int) (w : World) :
  Calls Tryz.prog 90 #[.int .i64 s] w fun e w' => e = .returned (.bool (okB s)) ∧ w = w' := by
 by_cases h1 : 1 <= s
 .by_cases h2 : s <= 7
  .go_enter Tryz.func90, Tryz.ntmps90
   go_wp2; go_ret; exact ⟨zap (zqm h1 h2).symm, rfl⟩
  .go_enter Tryz.func90, Tryz.ntmps90
   go_wp2; go_ret; exact ⟨zap (zbfg (by omega)).symm, rfl⟩
 .go_enter Tryz.func90, Tryz.ntmps90
  go_wp2
  go_ret
  exact ⟨zap (zbfg (by omega)).symm, rfl⟩
def fitB (s n : Int) : Bool := decide (0 <= n ∧ n < 256 ^ s.toNat)
theorem zbmw (s : Int) (h : 0 <= s) : (2 : Int) ^ (8 * s).toNat = 256 ^ s.toNat := by
 obtain ⟨k, rfl⟩ := Int.eq_ofNat_of_zero_le h
 have e1 : (8 * (k : Int)).toNat = 8 * k := by omega
 rw [e1, Int.toNat_natCast, Int.pow_mul]
 rfl
theorem zblz (s n : Int) (h : 0 <= s) : (n / 2 ^ (8 * s).toNat == 0) = fitB s n := by
 rw [zbmw s h]
 have hp : (0 : Int) < 256 ^ s.toNat := Int.pow_pos (by omega)
 unfold fitB
 rw [Bool.eq_iff_iff]
 simp only [beq_iff_eq, decide_eq_true_eq]
 constructor
 .intro e
  have h1 := Int.emod_nonneg n (Int.ne_of_gt hp)
  have h2 := Int.emod_lt_of_pos n hp
  have h3 := Int.mul_ediv_add_emod n (256 ^ s.toNat)
  rw [e] at h3
  omega
 .rintro ⟨h1, h2⟩
  exact Int.ediv_eq_zero_of_lt h1 h2
theorem zld (s n : Int) (w : World) (h1 : 1 <= s) (h7 : s <= 7) :
  Calls Tryz.prog 91 #[.int .i64 s, .int .i64 n] w fun e w' => e = .returned (.bool (fitB s n)) ∧ w = w' := by
 go_enter Tryz.func91, Tryz.ntmps91
 go_wp2
 go_ret
 exact ⟨zap (zblz s n (by omega)), rfl⟩
theorem zblo (s k n : Nat) (hk : k < s) : (be s n).take (k + 1) = (be s n).take k ++ [UInt8.ofNat (n / 256 ^ (s - 1 - k) % 256)] := by
 induction s generalizing n k with
 | zero => omega
 | succ s ih =>
  rw [zbln]
  cases k with
  | zero => simp
  | succ k =>
   rw [List.take_succ_cons, List.take_succ_cons, ih k n (by omega), List.cons_append]
   have e : s + 1 - 1 - (k + 1) = s - 1 - k := by omega
   rw [e]
theorem zxn (v : Value) (m : Nat) (xs : List Value) (s n base : Nat) (w : World) (hs1 : 1 <= s) (hs : s <= 7) (hn : n < 256 ^ s) (hm : m <= 1000000) (hown : w.ownsRow base 5 1 v m xs) (hb : base <= w.heap.size) :
  Calls Tryz.prog 92 #[v, .int .i64 s, .int .i64 n] w fun e w' =>
   ∃ v', e = .returned v' ∧ w'.ownsRow base 5 1 v' (m + s) (xs ++ bytes (be s n)) ∧ Below base w w' := by
 obtain ⟨i0, hi, hz0, hz1, hz2⟩ := info_parts zbv
 go_enter Tryz.func92, Tryz.ntmps92
 go_wp2
 go_loopw [0, 7] (fun v i wr => ∃ k : Nat, k <= s ∧ i = .int .i64 ((s : Int) - 1 - k) ∧ wr.ownsRow base 5 1 v (m + k) (xs ++ bytes ((be s n).take k)) ∧ Below base w wr)
  (fun _ i _ => (intOf i + 1).toNat)
 case atStart => exact ⟨0, Nat.zero_le _, by simp, by simpa [bytes] using hown, zb⟩
 case round =>
  obtain ⟨k, hk, rfl, hownr, hbw⟩ := hrel
  by_cases hlt : k < s
  .go_wp2_with (at_builtin; refine wpList_append_own _ rfl (.tmp 14) (.tmp 20) 107 rfl base 5 i0 (.int .u8 0) 1 1 Tryz.underlying107 hi hz0 hz1 hz2 rfl (by decide) _ _ _ rfl (hownr.alloc _) ⟨wr.heap.size, 0, none⟩ 1 1 [.int .u8 ((UInt8.ofNat (n / 256 ^ (s - 1 - k) % 256)).toNat : Int)] rfl rfl ?c1 ?c2 ?c3 ?c4 ?c5 ?_)
   case c1 =>
    intro j u hj
    match j, hj with
    | 0, hj =>
     simp at hj
     subst hj
     simp [Addr.add]
     rw [Int.pow_mul]
     rfl
   case c2 => intro u hu; simp at hu; subst hu; rfl
   case c3 => unfold maxLen; omega
   case c4 => omega
   case c5 => have := hbw.size; simp; omega
   intro v' w1 hown1 hg1 _
   have hb1 : Below base w w1 := (hbw.alloc (by have := hbw.size; omega) _).grown hg1 (by have := hbw.size; simp; omega) (fun j hj => (hownr.lt j hj).1)
   have ho2 : w1.ownsRow base 5 1 v' (m + (k + 1)) (xs ++ bytes ((be s n).take (k + 1))) := by
    have e : (((UInt8.ofNat (n / 256 ^ (s - 1 - k) % 256)).toNat : Nat) : Int) = (n : Int) / 256 ^ (s - 1 - k) % 256 := by rw [toNat_mod]; simp
    rw [zblo s k n hlt, zai, <- Nat.add_assoc]
    simp only [bytes, List.map_cons, List.map_nil, e]
    exact hown1
   clear hown1 hg1 hownr hbw hown; go_wp2
   go_roundw
   case rel => exact ⟨k + 1, by omega, by go_num, ho2, hb1⟩
   case measure => simp [intOf]; omega
  .go_wp2
   go_ret
   have e : k = s := by omega
   subst e; rw [List.take_of_length_le (by rw [be_length]; omega)] at hownr
   exact ⟨_, rfl, hownr, hbw⟩
def putBytes (s : Int) (l : List Int) : List UInt8 := l.flatMap fun n => be s.toNat n.toNat
def fitAll (s : Int) (l : List Int) : Bool := l.all (fitB s)
theorem zss (s : Int) (l : List Int) (n : Int) : putBytes s (l ++ [n]) = putBytes s l ++ be s.toNat n.toNat := by simp [putBytes]
theorem zmo (s : Int) (l : List Int) (n : Int) : fitAll s (l ++ [n]) = (fitAll s l && fitB s n) := by simp [fitAll]
theorem zxb {s : Int} {l : List Int} (k : Nat) (h : fitAll s l = true) : fitAll s (l.take k) = true := by
 unfold fitAll at *
 rw [List.all_eq_true] at *
 intro x hx
 exact h x (List.mem_of_mem_take hx)
def putR (s : Int) (l : List Int) : List UInt8 × Int :=
 if okB s then if fitAll s l then (putBytes s l, 0) else ([], 2) else ([], 1)
theorem zbjq {s : Int} {l : List Int} (h : okB s = false) : putR s l = ([], 1) := by simp [putR, h]
theorem zbbn {s : Int} {l : List Int} (h : okB s = true) (h2 : fitAll s l = false) : putR s l = ([], 2) := by simp [putR, h, h2]
theorem zmc {s : Int} {l : List Int} (h : okB s = true) (h2 : fitAll s l = true) : putR s l = (putBytes s l, 0) := by simp [putR, h, h2]
def Answers (s : Int) (l : List Int) (w : World) (e : Ending) (w' : World) : Prop :=
 e = .returned (.tuple #[.string (str (putR s l).1), .int .i64 (putR s l).2]) ∧ Below w.heap.size w w'
theorem zblh (v : Value) (m : Nat) (xs : List Value) (s : Nat) (x : Int) (base : Nat) (w : World) (hs1 : 1 <= s) (hs : s <= 7) (h0 : 0 <= x) (hx : x < 256 ^ s) (hm : m <= 1000000) (hown : w.ownsRow base 5 1 v m xs) (hb : base <= w.heap.size) :
  Calls Tryz.prog 92 #[v, .int .i64 s, .int .i64 x] w fun e w' =>
   ∃ v', e = .returned v' ∧ w'.ownsRow base 5 1 v' (m + s) (xs ++ bytes (be s x.toNat)) ∧ Below base w w' := by
 obtain ⟨n, rfl⟩ := Int.eq_ofNat_of_zero_le h0
 have hn : n < 256 ^ s := by
  have e : ((256 ^ s : Nat) : Int) = 256 ^ s := by simp
  omega
 exact zxn v m xs s n base w hs1 hs hn hm hown hb
theorem zbmy (s : Int) (a : Option Addr) (cap : Nat) (l : List Int) (w : World) (hl : l.length <= 100000) (hr : Lies w w.heap.size a (ints l)) :
  Calls Tryz.prog 56 #[.int .i64 s, .slice a l.length cap] w (Answers s l w) := by
 by_cases hok : okB s = true
 .have hb2 : 1 <= s ∧ s <= 7 := by simpa [okB] using hok
  obtain ⟨n, rfl⟩ := Int.eq_ofNat_of_zero_le (show 0 <= s by omega)
  have hn1 : 1 <= n := by omega
  have hn7 : n <= 7 := by omega
  have hmul : n * l.length <= 7 * l.length := Nat.mul_le_mul_right _ hn7
  obtain ⟨p, hp⟩ : ∃ p, p = n * l.length := ⟨_, rfl⟩
  have hwr : wrap64 ((n : Int) * (l.length : Int)) = (p : Int) := by
   have e : (n : Int) * (l.length : Int) = (p : Int) := by rw [hp]; simp
   rw [e]; exact IntWalk.wrap64_in _ ⟨by omega, by omega⟩
  have hpb : p <= 700000 := by omega
  have HP := zh hp
  clear hp hmul
  obtain ⟨i0, hi, hz0, hz1, hz2⟩ := info_parts zbv
  go_enter Tryz.func56, Tryz.ntmps56
  go_wp2_with (first | (go_at_call 90; refine (zej _ _).mono ?_; rintro e w' ⟨rfl, rfl⟩) | (at_make; refine wpList_make_own _ rfl (.const (.int .i64 0)) (.tmp 15) 107 rfl w.heap.size 5 i0 (.int .u8 0) 1 Tryz.underlying107 hi hz0 hz1 _ _ _ p rfl rfl hwr ?b2 ?b3 (Nat.le_refl _) ?_))
  case b2 => rw [hz2]; omega
  case b3 => unfold maxLen; omega
  intro w0 hown0 hg0
  go_wp2
  have hb0 : Below w.heap.size w w0 := (zb).grown hg0 (Nat.le_refl _) (fun k h => by cases h)
  go_loopw [6, 19] (fun v i wr => ∃ k : Nat, k <= l.length ∧ i = .int .i64 k ∧ fitAll n (l.take k) = true ∧ wr.ownsRow w.heap.size 5 1 v (k * n) (bytes (putBytes n (l.take k))) ∧ Below w.heap.size w wr)
   (fun _ i _ => l.length - (intOf i).toNat)
  case atStart => exact ⟨0, Nat.zero_le _, rfl, rfl, by simpa [bytes, putBytes, Value.slice] using hown0, hb0⟩
  case round =>
   obtain ⟨k, hk, rfl, hall, hownr, hbw⟩ := hrel
   by_cases hlt : k < l.length
   .obtain ⟨b, off, rfl, hbb, hc⟩ := hr (by rw [zbn]; omega)
    have hcell : wr.cell? ⟨b, off + k, none⟩ = some (.int .i64 l[k]) := (hbw.cell (p := ⟨b, off + k, none⟩) hbb).trans (hc k _ (zff l k hlt))
    clear hc hr hown0 hg0 hb0; have HA := zh hall; clear hall; have HT := zh (zbm l k hlt)
    by_cases hfit : fitB n l[k] = true
    .have hf2 : 0 <= l[k] ∧ l[k] < 256 ^ n := by simpa [fitB] using hfit
     have hkn : k * n <= 1000000 := by have := Nat.mul_le_mul (show k <= 100000 by omega) hn7; omega
     go_wp2_with (first | (go_at_call 91; refine (zld _ _ _ (by omega) (by omega)).mono ?_; rintro e w' ⟨rfl, rfl⟩) | (go_at_call 92; refine (zblh _ _ _ _ _ _ _ hn1 hn7 hf2.1 hf2.2 hkn hownr hbw.size).mono ?_; rintro e w1 ⟨v', rfl, hown1, hb1⟩))
     go_roundw
     case rel => exact ⟨k + 1, by omega, by go_num, by rw [HT.out, zmo, HA.out, hfit]; rfl, by rw [HT.out, zss, zai, Nat.succ_mul]; simpa using hown1, hbw.trans hb1⟩
     case measure => simp [intOf]; omega
    .have hno : fitB n l[k] = false := by simpa using hfit
     clear hfit
     go_wp2_with (go_at_call 91; refine (zld _ _ _ (by omega) (by omega)).mono ?_; rintro e w' ⟨rfl, rfl⟩)
     go_ret2
     have hnot : fitAll n l = false := by
      cases hh : fitAll n l with
      | false => rfl
      | true =>
       have := zxb (k + 1) hh
       rw [HT.out, zmo, hno, Bool.and_false] at this
       cases this
     exact ⟨by rw [zbbn hok hnot]; rfl, hbw⟩
   .have HE : Hid (l.take k = l) := zh (List.take_of_length_le (by omega))
    have hconv := own_string hownr; have HA := zh hall; clear hall; go_wp2; go_ret2; have h1 := HA.out; rw [HE.out] at h1; exact ⟨by rw [zmc hok h1, HE.out]; rfl, hbw⟩
 .have hno : okB s = false := by simpa using hok
  clear hok
  go_enter Tryz.func56, Tryz.ntmps56
  go_wp2_with (go_at_call 90; refine (zej _ _).mono ?_; rintro e w' ⟨rfl, rfl⟩)
  go_ret2
  exact ⟨by rw [zbjq hno]; rfl, zb⟩
theorem zvm (s : Int) (a : Option Addr) (n cap : Nat) (l : List Int) (L : List UInt8) (c : Int) (w : World) (hn : l.length = n) (hR : putR s l = (L, c)) (hl : n <= 100000) (hr : Lies w w.heap.size a (ints l)) :
  Calls Tryz.prog 56 #[.int .i64 s, .slice a n cap] w fun e w' => e = .returned (.tuple #[.string (str L), .int .i64 c]) ∧ Below w.heap.size w w' := by
 subst hn
 refine (zbmy s a cap l w hl hr).mono fun e w' h => ?_
 unfold Answers at h
 rw [hR] at h
 exact h
end
section
open Go.RowKit CrcMath
def sumI (l : List UInt8) : Int := ((crc l).toNat : Int)
theorem zqy (l : List UInt8) : 0 <= sumI l ∧ sumI l < 4294967296 := by
 unfold sumI
 have := (crc l).isLt
 omega
theorem zbnl (l : List UInt8) : wrap64 (bits .xor .u32 IntKind.u32.max ((reg ones l).toNat : Int)) = sumI l := by
 have hb := zqy l
 have e : bits .xor .u32 IntKind.u32.max ((reg ones l).toNat : Int) = sumI l := by
  have h1 : IntKind.u32.max = ((4294967295 : Nat) : Int) := rfl
  rw [h1, u32_xor_nat _ _ (by omega) (BitVec.isLt _), sumI, crc, <- BitVec.allOnes_xor, BitVec.toNat_xor, BitVec.toNat_allOnes]
 rw [e, IntWalk.wrap64_in _ ⟨by omega, by omega⟩]
theorem zmm (b : Nat) (a : Option Addr) (cap : Nat) (l : List ByteArray) (w : World) (ht : Tab w b 0) (hb : b < w.heap.size) (hl : l.length <= 140737488355328) (hs : ∀ s ∈ l, s.size <= maxLen) (hr : Lies w w.heap.size a (strs l)) :
  Calls Tryz.prog 117 #[.pointer (some ⟨b, 0, none⟩), .slice a l.length cap] w fun e w' => e = .returned (.int .i64 (sumI (cat l))) ∧ Below w.heap.size w w' := by
 go_enter Tryz.func117, Tryz.ntmps117
 go_wp2_with (go_at_call 143; refine (zbhg _ _ _ ht).mono ?_; rintro e w' ⟨rfl, rfl⟩)
 go_loopw [5, 19] (fun t i wr => ∃ k : Nat, k <= l.length ∧ i = .int .i64 k ∧ t = .int .u32 ((reg ones (cat (l.take k))).toNat : Int) ∧ Below w.heap.size w wr) (fun _ i _ => l.length - (intOf i).toNat)
 case atStart => exact ⟨0, by omega, rfl, rfl, zb⟩
 case round =>
  obtain ⟨k, hk, rfl, rfl, hbw⟩ := hrel
  by_cases hlt : k < l.length
  .obtain ⟨bl, off, rfl, hbb, hc⟩ := hr (by rw [zfq]; omega)
   have hcell : wr.cell? ⟨bl, off + k, none⟩ = some (.string l[k]) := (hbw.cell (p := ⟨bl, off + k, none⟩) hbb).trans (hc k _ (zob l k hlt))
   have hsz := hs l[k] (List.getElem_mem _)
   have HT : Hid (_ = _) := zh (zbm l k hlt)
   have htw : Hid (Tab wr b 0) := zh (ht.below hbw hb)
   have hbz : b < wr.heap.size := Nat.lt_of_lt_of_le hb hbw.size
   generalize hx : reg ones (cat (l.take k)) = x; have HX := zh hx; clear hx hc hs hr ht
   go_wp2_with (go_at_call 144; refine (zbhz _ _ _ _ _ htw.out hbz hsz).mono ?_; rintro e w1 ⟨rfl, hb1⟩)
   go_roundw
   case rel => exact ⟨k + 1, by omega, by go_num, by rw [HT.out, zng, zbbq, HX.out], hbw.trans (hb1.mono hbw.size)⟩
   case measure => simp [intOf]; omega
  .have HE : Hid (l.take k = l) := zh (List.take_of_length_le (by omega))
   go_wp2; go_ret; exact ⟨zay (by rw [HE.out]; exact zbnl _), hbw⟩
theorem zwd (b : Nat) (a : Option Addr) (n cap : Nat) (l : List ByteArray) (w : World) (hn : l.length = n) (ht : Tab w b 0) (hb : b < w.heap.size) (hl : n <= 140737488355328) (hs : ∀ s ∈ l, s.size <= maxLen) (hr : Lies w w.heap.size a (strs l)) :
  Calls Tryz.prog 117 #[.pointer (some ⟨b, 0, none⟩), .slice a n cap] w fun e w' => e = .returned (.int .i64 (sumI (cat l))) ∧ Below w.heap.size w w' := by
 subst hn
 exact zmm b a cap l w ht hb hl hs hr
theorem zbiu (x : ByteArray) (w : World) (t : TypeId) : Lies (w.alloc (.cells #[.string x] t)) (w.alloc (.cells #[.string x] t)).heap.size (some ⟨w.heap.size, 0, none⟩) (strs [x]) := Lies.one (by simp) (by simp)
def tailB (n : Int) : List UInt8 := NumMath.be 4 n.toNat
theorem zgu (n : Int) (w : World) (h0 : 0 <= n) (h1 : n < 4294967296) :
  Calls Tryz.prog 116 #[.int .i64 n] w fun e w' => e = .returned (.string (str (tailB n))) ∧ Below w.heap.size w w' := by
 have HR : Hid (putR 4 [n] = (tailB n, 0)) := zh <| by
  rw [zmc rfl (by simp [fitAll, fitB]; omega)]
  simp [putBytes, tailB]
 have HL : Hid (Lies (w.alloc (.cells #[.int .i64 n] 3)) (w.alloc (.cells #[.int .i64 n] 3)).heap.size (some ⟨w.heap.size, 0, none⟩) (ints [n])) := zh (Lies.one (by simp) (by simp))
 go_enter Tryz.func116, Tryz.ntmps116
 go_wp2_with (go_at_call 56; refine (zvm _ _ 1 _ [n] _ _ _ rfl HR.out (by decide) HL.out).mono ?_; rintro e w1 ⟨rfl, hb1⟩)
 go_ret
 exact ⟨rfl, ((zb).alloc (Nat.le_refl _) _).trans (hb1.mono (by simp))⟩
theorem ztr (l : List ByteArray) : Lib.join (l.map (·.data.toList)) (ByteArray.empty).data.toList = cat l := by
 have e : (ByteArray.empty).data.toList = [] := rfl
 rw [Lib.join, e]
 induction l with
 | nil => rfl
 | cons s l ih =>
  cases l with
  | nil => simp [cat, List.intercalate]
  | cons t l =>
   have h : cat (s :: t :: l) = s.data.toList ++ cat (t :: l) := rfl
   rw [h, <- ih]
   simp [List.intercalate]
theorem zbis (a : Option Addr) (cap : Nat) (l : List ByteArray) (w : World) (hl : l.length <= 140737488355328) (hcap : l.length <= cap) (hlen : (cat l).length <= 140737488355328) (hr : Lies w w.heap.size a (strs l)) :
  Calls Tryz.prog 115 #[.slice a l.length cap, .string ByteArray.empty] w fun e w' => e = .returned (.string (str (cat l))) ∧ Below w.heap.size w w' := by
 by_cases h0 : 0 < l.length
 .obtain ⟨b, o, rfl, hb, hc⟩ := hr (by rw [zfq]; exact h0)
  refine (Tryz.strings_Join b o cap l ByteArray.empty w (fun j x hx => hc j _ ?_) hb hl hcap (by rw [ztr]; exact hlen)).mono fun e w' h => ⟨?_, h.2⟩
  .simp [strs, hx]
  .rw [h.1, ztr]; rfl
 .have e : l = [] := List.eq_nil_of_length_eq_zero (by omega)
  subst e
  exact (Tryz.strings_Join_none a cap ByteArray.empty w).mono fun e w' h => ⟨h.1, h.2 ▸ zb⟩
def sealB (l : List UInt8) : List UInt8 := l ++ tailB (sumI l)
theorem zlq (n : Int) : (tailB n).length = 4 := NumMath.be_length _ _
theorem zdg (l : List UInt8) : (sealB l).length = l.length + 4 := by rw [sealB, List.length_append, zlq]
theorem zbke (b : Nat) (a : Option Addr) (cap : Nat) (l : List ByteArray) (w : World) (ht : Tab w b 0) (hb : b < w.heap.size) (hl : l.length <= 140737488355328) (hcap : l.length <= cap) (hs : ∀ s ∈ l, s.size <= maxLen) (hlen : (cat l).length <= 140737488355000) (hr : Lies w w.heap.size a (strs l)) :
  Calls Tryz.prog 77 #[.pointer (some ⟨b, 0, none⟩), .slice a l.length cap] w fun e w' => e = .returned (.string (str (sealB (cat l)))) ∧ Below w.heap.size w w' := by
 have hz : (str (cat l)).size <= 140737488355000 := by rw [zbl]; exact hlen
 have hz2 : (str (tailB (sumI (cat l)))).size <= 4 := by rw [zbl, zlq]; omega
 have hs2 := zqy (cat l)
 go_enter Tryz.func77, Tryz.ntmps77
 go_wp2_with (first
  | (go_at_call 115; refine (zbis _ _ _ _ hl hcap (by omega) hr).mono ?_; rintro e w1 ⟨rfl, hb1⟩)
  | (go_at_call 117; refine (zmm _ _ _ _ _ (ht.below hb1 hb) (Nat.lt_of_lt_of_le hb hb1.size) hl hs (hr.step hb1)).mono ?_; rintro e w2 ⟨rfl, hb2⟩)
  | (go_at_call 116; refine (zgu _ _ hs2.1 hs2.2).mono ?_; rintro e w3 ⟨rfl, hb3⟩))
 go_ret
 exact ⟨zbna (by rw [zfb]; rfl), hb1.trans ((hb2.mono hb1.size).trans (hb3.mono (Nat.le_trans hb1.size hb2.size)))⟩
def openR (l : List UInt8) : List UInt8 × Int :=
 if l.length < 4 then ([], 13) else if l.drop (l.length - 4) = tailB (sumI (l.take (l.length - 4))) then (l.take (l.length - 4), 0) else ([], 7)
theorem zxp {l : List UInt8} (h : l.length < 4) : openR l = ([], 13) := by rw [openR, if_pos h]
theorem zru {l : List UInt8} (h : ¬ l.length < 4) (h2 : ¬ l.drop (l.length - 4) = tailB (sumI (l.take (l.length - 4)))) : openR l = ([], 7) := by rw [openR, if_neg h, if_neg h2]
theorem zvf {l : List UInt8} (h : ¬ l.length < 4) (h2 : l.drop (l.length - 4) = tailB (sumI (l.take (l.length - 4)))) : openR l = (l.take (l.length - 4), 0) := by rw [openR, if_neg h, if_pos h2]
theorem zsn (s : ByteArray) (w : World) (hs : s.size <= 140737488355328) :
  Calls Tryz.prog 153 #[.string s] w fun e w' => e = .returned (.string s) ∧ Below w.heap.size w w' := by
 go_enter Tryz.func153, Tryz.ntmps153
 go_wp2_with (go_at_call 172; refine (Tryz.stringslite_Clone _ _ (by omega)).mono ?_; rintro e w3 ⟨rfl, hb3⟩)
 go_ret
 exact ⟨rfl, hb3⟩
theorem zbjj (b : Nat) (s : ByteArray) (w : World) (ht : Tab w b 0) (hb : b < w.heap.size) (hs : s.size <= 140737488355328) :
  Calls Tryz.prog 134 #[.pointer (some ⟨b, 0, none⟩), .string s] w fun e w' => e = .returned (.tuple #[.string (str (openR s.data.toList).1), .int .i64 (openR s.data.toList).2]) ∧ Below w.heap.size w w' := by
 by_cases h4 : s.size < 4
 .have HR : Hid (openR s.data.toList = ([], 13)) := zh (zxp (by rw [zak]; exact h4))
  go_enter Tryz.func134, Tryz.ntmps134
  go_wp2
  go_ret2
  exact ⟨by rw [HR.out]; rfl, zb⟩
 .go_enter Tryz.func134, Tryz.ntmps134
  go_wp2
  go_quiet (fail)
  generalize hw0 : w.drewN nq = w0
  have hb0 : Below w.heap.size w w0 := by rw [<- hw0]; exact (zb).drewN _
  have hz0 : w0.heap.size = w.heap.size := by rw [<- hw0]; rfl
  have HZ0 := zh hz0
  clear hw0 hz0
  obtain ⟨x, hx⟩ : ∃ x, s.extract 0 (s.size - 4) = x := ⟨_, rfl⟩
  obtain ⟨y, hy⟩ : ∃ y, s.extract (s.size - 4) s.size = y := ⟨_, rfl⟩
  rw [hx, hy]
  have HX : Hid (s.data.toList.take (s.size - 4) = x.data.toList) := zh (by rw [<- hx, ByteArray.data_extract]; simp)
  have HY : Hid (s.data.toList.drop (s.size - 4) = y.data.toList) := zh (by rw [<- hy, ByteArray.data_extract]; simp [List.take_of_length_le])
  have hxs : x.size <= 140737488355328 := by rw [<- hx, ByteArray.size_extract]; omega
  clear hx hy
  have hbz : b < w0.heap.size := Nat.lt_of_lt_of_le hb hb0.size
  have HTW : Hid (Tab (w0.alloc (.cells #[.string x] 9)) b 0) := zh ((ht.below hb0 hb).below ((zb).alloc (Nat.le_refl _) _) hbz)
  have HL := zh (zbiu x w0 9)
  have hbz2 : b < (w0.alloc (.cells #[.string x] 9)).heap.size := by rw [World.size_alloc]; omega
  have hs2 := zqy (cat [x])
  have HC : Hid (cat [x] = x.data.toList) := zh (zqa x)
  have hx1 : ∀ s ∈ [x], s.size <= maxLen := by intro s hs; rw [List.mem_singleton] at hs; rw [hs]; unfold maxLen; omega
  have HX1 := zh hx1
  clear hx1 ht
  by_cases hyes : y = str (tailB (sumI (cat [x])))
  .have HR : Hid (openR s.data.toList = (x.data.toList, 0)) := zh <| by
    have hn : ¬ s.data.toList.length < 4 := by rw [zak]; exact h4
    rw [zvf hn (by rw [zak, HX.out, HY.out, hyes, zca, HC.out]), zak, HX.out]
   have hq := zyq hyes; have HY2 := zh hyes; clear hyes
   go_wp2_with (first
    | (go_at_call 117; refine (zwd _ _ 1 _ [x] _ rfl HTW.out hbz2 (by decide) HX1.out HL.out).mono ?_; rintro e w1 ⟨rfl, hb1⟩)
    | (go_at_call 116; refine (zgu _ _ hs2.1 hs2.2).mono ?_; rintro e w2 ⟨rfl, hb2⟩)
    | (go_at_call 153; refine (zsn _ _ (by omega)).mono ?_; rintro e w3 ⟨rfl, hb3⟩))
   go_ret2; exact ⟨by rw [HR.out, zfu]; rfl, hb0.trans (((((zb).alloc (Nat.le_refl _) _).trans (hb1.mono (by simp))).trans ((hb2.mono (by have := hb1.size; simp at this; omega)).trans (hb3.mono (by have := hb1.size; have := hb2.size; simp at *; omega)))).mono hb0.size)⟩
  .have HR : Hid (openR s.data.toList = ([], 7)) := zh <| by
    have hn : ¬ s.data.toList.length < 4 := by rw [zak]; exact h4
    refine zru hn ?_
    rw [zak, HX.out, HY.out]; intro e; exact hyes (by rw [HC.out, <- e, zfu])
   have hq := zbcu hyes; have HY2 := zh hyes; clear hyes
   go_wp2_with (first
    | (go_at_call 117; refine (zwd _ _ 1 _ [x] _ rfl HTW.out hbz2 (by decide) HX1.out HL.out).mono ?_; rintro e w1 ⟨rfl, hb1⟩)
    | (go_at_call 116; refine (zgu _ _ hs2.1 hs2.2).mono ?_; rintro e w2 ⟨rfl, hb2⟩))
   go_ret2; exact ⟨by rw [HR.out]; rfl, hb0.trans ((((zb).alloc (Nat.le_refl _) _).trans ((hb1.mono (by simp)).trans (hb2.mono (by have := hb1.size; simp at this; omega)))).mono hb0.size)⟩
theorem zbpp (b n cap : Nat) (l : List ByteArray) (t : TypeId) (w : World) (hn : l.length = n) (ht : Tab w b 0) (hb : b < w.heap.size) (hl : n <= 140737488355328) (hs : ∀ s ∈ l, s.size <= maxLen) :
  Calls Tryz.prog 117 #[.pointer (some ⟨b, 0, none⟩), .slice (some ⟨w.heap.size, 0, none⟩) n cap] (w.alloc (.cells (strs l).toArray t)) fun e w' => e = .returned (.int .i64 (sumI (cat l))) ∧ Below w.heap.size w w' := by
 refine (zwd b _ n cap l _ hn (ht.below (zab _ _) hb) (by simp; omega) hl hs (Lies.new _ _ _)).mono fun e w' h => ⟨h.1, (zab _ _).trans (h.2.mono (by simp))⟩
theorem zbkf (b n cap : Nat) (l : List ByteArray) (t : TypeId) (w : World) (hn : l.length = n) (ht : Tab w b 0) (hb : b < w.heap.size) (hl : n <= 140737488355328) (hcap : n <= cap) (hs : ∀ s ∈ l, s.size <= maxLen) (hlen : (cat l).length <= 140737488355000) :
  Calls Tryz.prog 77 #[.pointer (some ⟨b, 0, none⟩), .slice (some ⟨w.heap.size, 0, none⟩) n cap] (w.alloc (.cells (strs l).toArray t)) fun e w' => e = .returned (.string (str (sealB (cat l)))) ∧ Below w.heap.size w w' := by
 subst hn
 refine (zbke b _ cap l _ (ht.below (zab _ _) hb) (by simp; omega) hl hcap hs hlen (Lies.new _ _ _)).mono fun e w' h => ⟨h.1, (zab _ _).trans (h.2.mono (by simp))⟩
theorem zbbk (l : List UInt8) : openR (sealB l) = (l, 0) := by
 have e : (sealB l).length - 4 = l.length := by rw [zdg]; omega
 have h1 : (sealB l).take ((sealB l).length - 4) = l := by rw [e, sealB, List.take_left]
 have h2 : (sealB l).drop ((sealB l).length - 4) = tailB (sumI l) := by rw [e, sealB, List.drop_left]
 rw [zvf (by rw [zdg]; omega) (by rw [h1, h2]), h1]
def mix (L : List UInt8) (a : Nat) (p : Nat -> UInt8) : Nat -> List UInt8
 | 0 => L
 | k + 1 => (mix L a p k).set (a + k) ((mix L a p k).getD (a + k) 0 ^^^ p k)
end
section
section
variable {P : Program}
theorem zhe {e : TypeId} (hg : ∀ w, (isAgg e).run P w = .ok false w) (xs : Array Value) (i : Nat) (v : Value) (h : xs[i]? = some v) (w : World) : (part e xs i).run P w = .ok v w := by
 simp [part, hg, h]
theorem zpi (t e : TypeId) (n : Nat) (k : IntKind) (cs : Array Value) (j : Nat) (v : Value) (w : World) (ht : P.underlying t = some (.array n e))
  (hs : ∀ w, (sizeOf e).run P w = .ok 1 w) (hg : ∀ w, (isAgg e).run P w = .ok false w) (hj : j < n) (h : cs[j]? = some v) :
  (Instr.index t (.agg cs) (.int k (j : Int))).run P w = .ok v w := by
 have h1 : (0 : Int) <= (j : Int) ∧ (j : Int) < (n : Int) := ⟨by omega, by omega⟩
 simp only [Instr.index, asIntOf, Sem.run_bind, Sem.run_pure, Result.andThen_ok, run_underlying ht, if_pos h1, hs, Int.toNat_natCast, Nat.mul_one]
 exact zhe hg cs j v h w
theorem zir (D : Nat) (t e : TypeId) (n : Nat) (k : IntKind) (xs ys : List Int) (w : World) (ht : P.underlying t = some (.array n e)) (he : P.underlying e = some (.int k))
  (hs : ∀ w, (sizeOf e).run P w = .ok 1 w) (hg : ∀ w, (isAgg e).run P w = .ok false w) (hx : xs.length = n) (hy : ys.length = n) :
  (Op.equalIn (D + 2) t (.agg (xs.map (Value.int k)).toArray) (.agg (ys.map (Value.int k)).toArray)).run P w = .ok (decide (xs = ys)) w := by
 obtain ⟨E, hE⟩ : ∃ E, D + 1 = E := ⟨_, rfl⟩
 have hstep : ∀ (a b : Int) (w : World), (Op.equalIn E e (.int k a) (.int k b)).run P w = .ok (a == b) w := fun a b w => by
  rw [<- hE]; exact run_equalIn_int w D e k k a b he
 rw [show D + 2 = E + 1 by omega]
 simp only [Op.equalIn, Sem.run_bind, run_underlying ht, Result.andThen_ok, hs, Nat.mul_one]
 rw [Std.Legacy.Range.forIn_eq_forIn_range']
 have key : ∀ (m i : Nat), i + m = n -> xs.take i = ys.take i -> ∀ w,
   ((forIn (List.range' i m 1) ((none : Option Bool), ()) fun (j : Nat) (_ : Option Bool × Unit) => do
    if (!(<- Op.equalIn E e (<- part e (List.map (Value.int k) xs).toArray j) (<- part e (List.map (Value.int k) ys).toArray j))) = true then pure (ForInStep.done (some false, ())) else pure (ForInStep.yield ((none : Option Bool), ())) : Sem (Option Bool × Unit))).run P w = .ok (if xs = ys then none else some false, ()) w := by
  intro m
  induction m with
  | zero =>
   intro i hi hp w
   have e : xs = ys := by rwa [List.take_of_length_le (by omega), List.take_of_length_le (by omega)] at hp
   rw [if_pos e]
   simp
  | succ m ih =>
   intro i hi hp w
   have h1 : i < xs.length := by omega
   have h2 : i < ys.length := by omega
   have p1 := zhe (P := P) hg (List.map (Value.int k) xs).toArray i (.int k xs[i]) (by simp [h1])
   have p2 := zhe (P := P) hg (List.map (Value.int k) ys).toArray i (.int k ys[i]) (by simp [h2])
   rw [List.range'_succ, List.forIn_cons]
   simp only [Sem.run_bind, p1, p2, hstep, Result.andThen_ok]
   by_cases e : xs[i] = ys[i]
   .have eb : (xs[i] == ys[i]) = true := by simpa using e
    simp only [eb, Bool.not_true, Bool.false_eq_true, if_false, Sem.run_pure, Result.andThen_ok]
    exact ih (i + 1) (by omega) (by rw [List.take_succ_eq_append_getElem h1, List.take_succ_eq_append_getElem h2, hp, e]) w
   .have eb : (xs[i] == ys[i]) = false := by simpa using e
    have hne : ¬ xs = ys := fun h => e (by simp [h])
    simp only [eb, Bool.not_false, if_true, Sem.run_pure, Result.andThen_ok, if_neg hne]
 have hsz : [:n].size = n := by simp [Std.Legacy.Range.size]
 rw [hsz]
 have k0 := key n 0 (by omega) rfl w
 refine (congrArg (fun r => Result.andThen r _) k0).trans ?_
 by_cases e : xs = ys
 .simp [e]
 .simp [e]
end
end
section
open Go.RowKit CrcMath
def blk (l : List UInt8) : List UInt8 := l.take 60 ++ List.replicate (60 - l.length) 0
theorem blk_length (l : List UInt8) : (blk l).length = 60 := by simp [blk]; omega
theorem zbhh (l : List UInt8) (h : l.length = 60) : blk l = l := by simp [blk, h, List.take_of_length_le]
theorem ztp (l : List UInt8) (h : l.length = 60) : blk (sealB l) = l := by
 unfold blk
 rw [zdg, sealB, h, List.take_left' h]
 simp
def splitF : Nat -> List UInt8 -> List (List UInt8)
 | 0, _ => []
 | n + 1, l => blk l :: splitF n (l.drop 60)
theorem zga : ∀ (n : Nat) (l : List UInt8), (splitF n l).length = n
 | 0, _ => rfl
 | n + 1, l => by rw [splitF, List.length_cons, zga n]
theorem zna : ∀ (n : Nat) (l : List UInt8), splitF (n + 1) l = splitF n l ++ [blk (l.drop (60 * n))]
 | 0, l => by simp [splitF]
 | n + 1, l => by
  have e : (l.drop 60).drop (60 * n) = l.drop (60 * (n + 1)) := by
   rw [List.drop_drop]
   congr 1
   omega
  rw [splitF, zna n (l.drop 60), splitF, List.cons_append, e]
theorem zjs : ∀ (n : Nat) (l : List UInt8), ∀ b ∈ splitF n l, b.length = 60
 | 0, _, b, h => by cases h
 | n + 1, l, b, h => by
  rcases List.mem_cons.1 h with rfl | h
  .exact blk_length l
  .exact zjs n _ b h
theorem zmz : ∀ (n : Nat) (l : List UInt8), (splitF n l).flatten = l.take (60 * n) ++ List.replicate (60 * n - l.length) 0
 | 0, l => by simp [splitF]
 | n + 1, l => by
  rw [splitF, List.flatten_cons, zmz n (l.drop 60), blk, List.length_drop]
  have e1 : l.take (60 * (n + 1)) = l.take 60 ++ (l.drop 60).take (60 * n) := by
   rw [show 60 * (n + 1) = 60 + 60 * n by omega, List.take_add]
  rw [e1]
  by_cases h : l.length <= 60
  .have e2 : l.drop 60 = [] := List.drop_of_length_le h
   rw [e2, List.take_nil, List.nil_append, List.append_nil, List.append_assoc, List.replicate_append_replicate]
   congr 2
   omega
  .rw [show 60 - l.length = 0 by omega, List.replicate_zero, List.append_nil, List.append_assoc]
   congr 3
   omega
theorem zhw (L : List (List UInt8)) (h : ∀ b ∈ L, b.length = 60) : L.flatten.length = 60 * L.length := by
 induction L with
 | nil => rfl
 | cons b L ih =>
  rw [List.flatten_cons, List.length_append, h b (List.mem_cons_self ..), ih (fun c hc => h c (List.mem_cons_of_mem _ hc)), List.length_cons]
  omega
theorem zkv (L : List (List UInt8)) (k : Nat) (hk : k < L.length) : (L.take (k + 1)).flatten = (L.take k).flatten ++ L[k] := by
 rw [List.take_succ_eq_append_getElem hk, List.flatten_append, List.flatten_cons, List.flatten_nil, List.append_nil]
theorem zbid (L : List (List UInt8)) (h : ∀ b ∈ L, b.length = 60) (k : Nat) (hk : k < L.length) : ∃ z, L.flatten = (L.take k).flatten ++ L[k] ++ z ∧ (L.take k).flatten.length = 60 * k := by
 refine ⟨(L.drop (k + 1)).flatten, ?_, ?_⟩
 .rw [<- zkv L k hk, <- List.flatten_append, List.take_append_drop]
 .rw [zhw _ (fun b hb => h b (List.mem_of_mem_take hb)), List.length_take]
  congr 1
  omega
def rightT (l : List UInt8) : Bool := decide ((openR l).2 = 0) && decide (l.length = 64)
theorem zpg (l : List UInt8) (h : l.length = 60) : rightT (sealB l) = true := by
 rw [rightT, zbbk, zdg, h]; rfl
theorem zbo (l : List UInt8) : (bytes l).all (·.oneCell') = true := by simp [bytes, Value.oneCell']
theorem zhn (n : Nat) (c : UInt8) : bytes (List.replicate n c) = List.replicate n (.int .u8 (c.toNat : Int)) := by simp [bytes]
end
end Go.Proofs.YtojimgbcghiblaaGreatDoor
namespace GfMath
def xt (p : Nat) : Nat := if p &&& 128 = 0 then p * 2 % 256 else (p * 2 % 256) ^^^ 29
def ex : Nat -> Nat
 | 0 => 1
 | n + 1 => xt (ex n)
def cl (a b : Nat) : Nat -> Nat
 | 0 => 0
 | k + 1 => if b >>> k % 2 = 1 then cl a b k ^^^ (a <<< k) else cl a b k
def rd (p : Nat) : Nat -> Nat
 | 0 => p
 | k + 1 => if rd p k >>> (14 - k) % 2 = 1 then rd p k ^^^ (285 <<< (6 - k)) else rd p k
def gm (a b : Nat) : Nat := rd (cl a b 8) 7
theorem zjz (a : Nat) : ∀ k, cl a 0 k = 0
 | 0 => rfl
 | k + 1 => by rw [cl, zjz a k]; simp
theorem zzk : ∀ k, rd 0 k = 0
 | 0 => rfl
 | k + 1 => by rw [rd, zzk k]; simp
theorem zkp (a b c : Nat) : ∀ k, cl a (b ^^^ c) k = cl a b k ^^^ cl a c k
 | 0 => (Nat.xor_self 0).symm
 | k + 1 => by
  rw [cl, cl, cl, zkp a b c k, Nat.shiftRight_xor_distrib]
  have h := @Nat.xor_mod_two_eq_one (b >>> k) (c >>> k)
  by_cases h1 : b >>> k % 2 = 1 <;> by_cases h2 : c >>> k % 2 = 1 <;> simp only [h1, h2, h, if_true, if_false, iff_true, not_true, not_false_iff, iff_self, iff_false]
  .rw [Nat.xor_assoc, <- Nat.xor_assoc (a <<< k), Nat.xor_comm (a <<< k), Nat.xor_assoc (cl a c k), Nat.xor_self, Nat.xor_zero]
  .rw [Nat.xor_assoc, Nat.xor_assoc, Nat.xor_comm (cl a c k)]
  .rw [Nat.xor_assoc]
theorem zml (a b c : Nat) : ∀ k, cl (a ^^^ b) c k = cl a c k ^^^ cl b c k
 | 0 => (Nat.xor_self 0).symm
 | k + 1 => by
  rw [cl, cl, cl, zml a b c k, Nat.shiftLeft_xor_distrib]
  split
  .rw [Nat.xor_assoc, Nat.xor_assoc, <- Nat.xor_assoc (cl b c k), <- Nat.xor_assoc (a <<< k), Nat.xor_comm (cl b c k)]
  .rfl
theorem zvp (p q : Nat) : ∀ k, rd (p ^^^ q) k = rd p k ^^^ rd q k
 | 0 => rfl
 | k + 1 => by
  rw [rd, rd, rd, zvp p q k, Nat.shiftRight_xor_distrib]
  have h := @Nat.xor_mod_two_eq_one (rd p k >>> (14 - k)) (rd q k >>> (14 - k))
  generalize (285 <<< (6 - k)) = m
  by_cases h1 : rd p k >>> (14 - k) % 2 = 1 <;> by_cases h2 : rd q k >>> (14 - k) % 2 = 1 <;> simp only [h1, h2, h, if_true, if_false, iff_true, not_true, not_false_iff, iff_self, iff_false]
  .rw [Nat.xor_assoc, <- Nat.xor_assoc m, Nat.xor_comm m, Nat.xor_assoc (rd q k), Nat.xor_self, Nat.xor_zero]
  .rw [Nat.xor_assoc, Nat.xor_assoc, Nat.xor_comm (rd q k)]
  .rw [Nat.xor_assoc]
theorem zbd (a b c : Nat) : gm a (b ^^^ c) = gm a b ^^^ gm a c := by rw [gm, zkp, zvp]; rfl
theorem zas (a b c : Nat) : gm (a ^^^ b) c = gm a c ^^^ gm b c := by rw [gm, zml, zvp]; rfl
theorem zag (a : Nat) : gm a 0 = 0 := by rw [gm, zjz, zzk]
theorem zek {P : Nat -> Prop} (h0 : P 0) (h1 : ∀ i, i < 8 -> P (2 ^ i)) (hx : ∀ a b, a < 256 -> b < 256 -> P a -> P b -> P (a ^^^ b)) : ∀ a, a < 256 -> P a := by
  have key : ∀ k, k <= 8 -> ∀ a, a < 2 ^ k -> P a := by
    intro k
    induction k with
    | zero => intro _ a ha; have : a = 0 := by omega
              subst this; exact h0
    | succ k ih =>
      intro hk a ha
      by_cases hs : a < 2 ^ k
      . exact ih (by omega) a hs
      . have h2 : 2 ^ (k + 1) = 2 * 2 ^ k := by rw [Nat.pow_succ, Nat.mul_comm]
        have hp : 2 ^ k <= 128 := by have := Nat.pow_le_pow_right (n := 2) (by omega) (show k <= 7 by omega); omega
        have e : a = 2 ^ k ^^^ (a - 2 ^ k) := by
          have h3 : a = 2 ^ k + (a - 2 ^ k) := by omega
          have h5 : a - 2 ^ k < 2 ^ k := by omega
          generalize a - 2 ^ k = r at h3 h5
          have h4 : 2 ^ k ^^^ r = 2 ^ k + r := by
            apply Nat.eq_of_testBit_eq
            intro i; rw [Nat.testBit_xor, Nat.testBit_two_pow]
            by_cases hi : k = i
            . subst hi
              rw [Nat.testBit_two_pow_add_eq, Nat.testBit_lt_two_pow h5]
              simp
            . by_cases hl : i < k
              . rw [Nat.testBit_two_pow_add_gt hl]
                simp [hi]
              . rw [Nat.testBit_lt_two_pow (i := i) (x := r) (Nat.lt_of_lt_of_le h5 (Nat.pow_le_pow_right (by omega) (by omega))), Nat.testBit_lt_two_pow (i := i) (x := 2 ^ k + r)]
                . simp [hi]
                . have : 2 ^ (k + 1) <= 2 ^ i := Nat.pow_le_pow_right (by omega) (by omega)
                  omega
          rw [h4]; exact h3
        rw [e]; exact hx _ _ (by omega) (by omega) (h1 k (by omega)) (ih (by omega) _ (by omega))
  exact key 8 (Nat.le_refl _)
theorem zbq {a b : Nat} (ha : a < 256) (hb : b < 256) : a ^^^ b < 256 := Nat.xor_lt_two_pow (n := 8) ha hb
theorem zac (b : Nat) : gm 0 b = 0 := by
 have h := zas 0 0 b
 rw [Nat.xor_self, Nat.xor_self] at h
 exact h
theorem zbks (a b c d : Nat) : (a ^^^ b) ^^^ (c ^^^ d) = (a ^^^ c) ^^^ (b ^^^ d) := by
 rw [Nat.xor_assoc, Nat.xor_assoc, <- Nat.xor_assoc b, <- Nat.xor_assoc c, Nat.xor_comm b]
theorem zbmo : ∀ i, i < 8 -> ∀ j, j < 8 -> gm (2 ^ i) (2 ^ j) < 256 := by decide +kernel
theorem zaz {a b : Nat} (ha : a < 256) (hb : b < 256) : gm a b < 256 := by
 refine zek (P := fun a => gm a b < 256) (by rw [zac]; omega) ?_ (fun x y _ _ h1 h2 => by rw [zas]; exact zbq h1 h2) a ha
 intro i hi
 exact zek (P := fun b => gm (2 ^ i) b < 256) (by rw [zag]; omega) (fun j hj => zbmo i hi j hj) (fun x y _ _ h1 h2 => by rw [zbd]; exact zbq h1 h2) b hb
theorem zbdl : ∀ i, i < 8 -> ∀ j, j < 8 -> gm (2 ^ i) (2 ^ j) = gm (2 ^ j) (2 ^ i) := by decide +kernel
theorem zbf {a b : Nat} (ha : a < 256) (hb : b < 256) : gm a b = gm b a := by
 refine zek (P := fun a => gm a b = gm b a) (by rw [zac, zag]) ?_ (fun x y _ _ h1 h2 => by rw [zas, zbd, h1, h2]) a ha
 intro i hi
 exact zek (P := fun b => gm (2 ^ i) b = gm b (2 ^ i)) (by rw [zac, zag]) (fun j hj => zbdl i hi j hj) (fun x y _ _ h1 h2 => by rw [zas, zbd, h1, h2]) b hb
theorem zbab : ∀ i, i < 8 -> ∀ j, j < 8 -> ∀ k, k < 8 -> gm (gm (2 ^ i) (2 ^ j)) (2 ^ k) = gm (2 ^ i) (gm (2 ^ j) (2 ^ k)) := by decide +kernel
theorem zah {a b c : Nat} (ha : a < 256) (hb : b < 256) (hc : c < 256) : gm (gm a b) c = gm a (gm b c) := by
 refine zek (P := fun a => gm (gm a b) c = gm a (gm b c)) (by rw [zac, zac, zac]) ?_ (fun x y _ _ h1 h2 => by rw [zas, zas, zas, h1, h2]) a ha
 intro i hi
 refine zek (P := fun b => gm (gm (2 ^ i) b) c = gm (2 ^ i) (gm b c)) (by rw [zac, zag, zac]) ?_ (fun x y _ _ h1 h2 => by rw [zas, zbd, zbd, zas, h1, h2]) b hb
 intro j hj
 exact zek (P := fun c => gm (gm (2 ^ i) (2 ^ j)) c = gm (2 ^ i) (gm (2 ^ j) c)) (by rw [zag, zag, zag]) (fun k hk => zbab i hi j hj k hk) (fun x y _ _ h1 h2 => by rw [zbd, zbd, zbd, h1, h2]) c hc
theorem zbau : ∀ a, a < 256 -> gm a 1 = a := by decide +kernel
theorem zch {a : Nat} (ha : a < 256) : gm a 1 = a := zbau a ha
theorem zcf {a : Nat} (ha : a < 256) : gm 1 a = a := by rw [zbf (by omega) ha, zch ha]
theorem zjc : ∀ a, a < 256 -> gm a 2 = xt a ∧ xt a < 256 := by decide +kernel
theorem ex_lt : ∀ n, ex n < 256
 | 0 => by decide
 | n + 1 => (zjc _ (ex_lt n)).2
theorem zin (i : Nat) : ∀ j, gm (ex i) (ex j) = ex (i + j)
 | 0 => zch (ex_lt i)
 | j + 1 => by rw [ex, <- (zjc _ (ex_lt j)).1, <- zah (ex_lt i) (ex_lt j) (by omega), zin i j, (zjc _ (ex_lt _)).1]; rfl
theorem zbee : ex 255 = 1 := by decide +kernel
theorem zku (n : Nat) : ex (n % 255) = ex n := by
 have h : ∀ k m, ex (m + 255 * k) = ex m := by
  intro k
  induction k with
  | zero => intro m; rfl
  | succ k ih => intro m; rw [show m + 255 * (k + 1) = (m + 255 * k) + 255 by omega, <- zin, zbee, zch (ex_lt _), ih]
 conv => rhs; rw [<- Nat.mod_add_div n 255]
 exact (h _ _).symm
theorem zban {m n : Nat} (h : m % 255 = n % 255) : ex m = ex n := by rw [<- zku m, <- zku n, h]
def lgs : Nat -> List Nat
 | 0 => List.replicate 256 0
 | n + 1 => (lgs n).set (ex n) n
theorem zjg : ∀ n, (lgs n).length = 256
 | 0 => List.length_replicate
 | n + 1 => by rw [lgs, List.length_set, zjg n]
def lg (a : Nat) : Nat := (lgs 255).getD a 0
theorem zbey : (lgs 255).all (fun v => decide (v < 255)) = true := by decide +kernel
theorem zbeg : ∀ a, a < 256 -> a = 0 ∨ ex (lg a) = a := by decide +kernel
theorem zkz : ∀ i, i < 255 -> lg (ex i) = i := by decide +kernel
theorem zjf (a : Nat) : lg a < 255 := by
 rw [lg, List.getD_eq_getElem?_getD]
 cases h : (lgs 255)[a]? with
 | none => decide
 | some v =>
  exact of_decide_eq_true (List.all_eq_true.1 zbey v (List.mem_of_getElem? h))
theorem zbao {a : Nat} (ha : a < 256) (h0 : a ≠ 0) : ex (lg a) = a := (zbeg a ha).resolve_left h0
theorem zbpj (i : Nat) : lg (ex i) = i % 255 := by rw [<- zku, zkz _ (Nat.mod_lt _ (by omega))]
theorem zou (n : Nat) : ex n ≠ 0 := by
 intro h
 have h2 := zin n (255 - n % 255)
 rw [h, zac] at h2
 have h3 := zku (n + (255 - n % 255))
 have h4 : (n + (255 - n % 255)) % 255 = 0 := by have := Nat.mod_add_div n 255; omega
 rw [h4, <- h2] at h3
 exact absurd h3 (by decide)
theorem zbef {m n : Nat} (hm : m < 255) (hn : n < 255) (h : ex m = ex n) : m = n := by rw [<- zkz m hm, <- zkz n hn, h]
theorem zbmk (a : Nat) (h : a < 256) : (lgs 255)[a]? = some (lg a) := by
 rw [lg, List.getD_eq_getElem?_getD]
 rw [List.getElem?_eq_getElem (by rw [zjg]; exact h)]
 rfl
theorem zzc {a b : Nat} (ha : a < 256) (hb : b < 256) (ha0 : a ≠ 0) (hb0 : b ≠ 0) : gm a b = ex (lg a + lg b) := by
 rw [<- zin, zbao ha ha0, zbao hb hb0]
theorem zjb {a b : Nat} (ha : a < 256) (hb : b < 256) (ha0 : a ≠ 0) (hb0 : b ≠ 0) : gm a b ≠ 0 := by
 rw [zzc ha hb ha0 hb0]; exact zou _
theorem gm_eq_zero {a b : Nat} (ha : a < 256) (hb : b < 256) (h : gm a b = 0) : a = 0 ∨ b = 0 :=
 Classical.byContradiction fun hn => zjb ha hb (fun h0 => hn (Or.inl h0)) (fun h0 => hn (Or.inr h0)) h
def iv (a : Nat) : Nat := if a = 0 then 0 else ex (255 - lg a)
theorem zax (a : Nat) : iv a < 256 := by unfold iv; split; omega; exact ex_lt _
theorem zge {a : Nat} (ha : a < 256) (h0 : a ≠ 0) : gm a (iv a) = 1 := by
 rw [iv, if_neg h0]
 conv => lhs; rw [show a = ex (lg a) from (zbao ha h0).symm]
 rw [zbpj, Nat.mod_eq_of_lt (zjf a), zin, show lg a + (255 - lg a) = 255 by have := zjf a; omega, zbee]
theorem zbaz {a : Nat} (ha : a < 256) (h0 : a ≠ 0) : gm (iv a) a = 1 := by rw [zbf (zax a) ha, zge ha h0]
theorem zbem {a b c : Nat} (ha : a < 256) (hb : b < 256) (hc : c < 256) (h0 : a ≠ 0) (h : gm a b = gm a c) : b = c := by
 have h2 : gm (iv a) (gm a b) = gm (iv a) (gm a c) := by rw [h]
 rwa [<- zah (zax a) ha hb, <- zah (zax a) ha hc, zbaz ha h0, zcf hb, zcf hc] at h2
def pw (a : Nat) : Nat -> Nat
 | 0 => 1
 | n + 1 => gm (pw a n) a
theorem zao {a : Nat} (ha : a < 256) : ∀ n, pw a n < 256
 | 0 => show 1 < 256 by omega
 | n + 1 => zaz (zao ha n) ha
theorem zjm (g : Nat) : ∀ n, pw (ex g) n = ex (g * n)
 | 0 => rfl
 | n + 1 => by rw [pw, zjm g n, zin, Nat.mul_succ]
def sum (l : List Nat) : Nat := l.foldl (· ^^^ ·) 0
def prod (l : List Nat) : Nat := l.foldl gm 1
theorem zbon (l : List Nat) (h : ∀ x ∈ l, x < 256) : sum l < 256 := by
 have : ∀ (l : List Nat) (s : Nat), s < 256 -> (∀ x ∈ l, x < 256) -> l.foldl (· ^^^ ·) s < 256 := by
  intro l
  induction l with
  | nil => intro s hs _; exact hs
  | cons a l ih => intro s hs h; exact ih _ (zbq hs (h a (by simp))) (fun x hx => h x (by simp [hx]))
 exact this l 0 (by omega) h
theorem zbmx (l : List Nat) (h : ∀ x ∈ l, x < 256) : prod l < 256 := by
 have : ∀ (l : List Nat) (s : Nat), s < 256 -> (∀ x ∈ l, x < 256) -> l.foldl gm s < 256 := by
  intro l
  induction l with
  | nil => intro s hs _; exact hs
  | cons a l ih => intro s hs h; exact ih _ (zaz hs (h a (by simp))) (fun x hx => h x (by simp [hx]))
 exact this l 1 (by omega) h
theorem zbkk (l : List Nat) (a : Nat) : sum (l ++ [a]) = sum l ^^^ a := by simp [sum]
theorem zbfs (l : List Nat) (a : Nat) : prod (l ++ [a]) = gm (prod l) a := by simp [prod]
def exI (n : Int) : Nat := ex ((n.tmod 255 + 255).toNat)
theorem zzt (n : Int) : -255 < n.tmod 255 ∧ n.tmod 255 < 255 ∧ ∃ q, n = 255 * q + n.tmod 255 :=
 ⟨Int.lt_tmod_of_pos n (by omega), Int.tmod_lt_of_pos n (by omega), n.tdiv 255, (Int.mul_tdiv_add_tmod n 255).symm⟩
theorem zug (n : Int) : exI n = ex ((n % 255).toNat) := by
 unfold exI
 apply zban
 obtain ⟨h1, h2, q, hq⟩ := zzt n
 generalize n.tmod 255 = r at *
 omega
theorem zlw (n : Nat) : exI (n : Int) = ex n := by
 rw [zug, <- zku n]
 congr 1
theorem zbly {a : Nat} (h0 : a ≠ 0) : exI (-(lg a : Int)) = iv a := by
 rw [iv, if_neg h0, zug]
 apply zban
 have := zjf a
 omega
end GfMath
namespace PolyMath
open GfMath
def xs (f : Nat -> Nat) : Nat -> Nat
 | 0 => 0
 | n + 1 => xs f n ^^^ f n
theorem zal {f g : Nat -> Nat} : ∀ n, (∀ i, i < n -> f i = g i) -> xs f n = xs g n
 | 0, _ => rfl
 | n + 1, h => by rw [xs, xs, zal n fun i hi => h i (by omega), h n (by omega)]
theorem zte {f : Nat -> Nat} : ∀ n, (∀ i, i < n -> f i < 256) -> xs f n < 256
 | 0, _ => show 0 < 256 by omega
 | n + 1, h => zbq (zte n fun i hi => h i (by omega)) (h n (by omega))
theorem zcm {f : Nat -> Nat} : ∀ n, (∀ i, i < n -> f i = 0) -> xs f n = 0
 | 0, _ => rfl
 | n + 1, h => by rw [xs, zcm n fun i hi => h i (by omega), h n (by omega)]; rfl
theorem zfv (f g : Nat -> Nat) : ∀ n, xs (fun i => f i ^^^ g i) n = xs f n ^^^ xs g n
 | 0 => (Nat.xor_self 0).symm
 | n + 1 => by rw [xs, xs, xs, zfv f g n, zbks]
theorem zjw (f : Nat -> Nat) : ∀ n, xs f (n + 1) = f 0 ^^^ xs (fun i => f (i + 1)) n
 | 0 => by simp [xs]
 | n + 1 => by rw [xs, zjw f n, xs, Nat.xor_assoc]
theorem zpt (f : Nat -> Nat) : ∀ n, xs f n = xs (fun i => f (n - 1 - i)) n
 | 0 => rfl
 | n + 1 => by
  rw [zjw (fun i => f (n + 1 - 1 - i)) n, xs, zpt f n, Nat.xor_comm]
  congr 1
  exact zal n fun i hi => by congr 1; omega
theorem zds (c : Nat) (f : Nat -> Nat) : ∀ n, gm c (xs f n) = xs (fun i => gm c (f i)) n
 | 0 => zag c
 | n + 1 => by rw [xs, xs, zbd, zds c f n]
theorem zie (c : Nat) (f : Nat -> Nat) : ∀ n, gm (xs f n) c = xs (fun i => gm (f i) c) n
 | 0 => zac c
 | n + 1 => by rw [xs, xs, zas, zie c f n]
theorem zfi (f : Nat -> Nat) (a : Nat) : ∀ b, xs f (a + b) = xs f a ^^^ xs (fun i => f (a + i)) b
 | 0 => by simp [xs]
 | b + 1 => by rw [show a + (b + 1) = (a + b) + 1 by omega, xs, xs, zfi f a b, Nat.xor_assoc]
theorem zdo (f : Nat -> Nat) {n m : Nat} (h : n <= m) (h0 : ∀ i, n <= i -> i < m -> f i = 0) : xs f m = xs f n := by
 obtain ⟨d, rfl⟩ : ∃ d, m = n + d := ⟨m - n, by omega⟩
 rw [zfi, zcm (f := fun i => f (n + i)) d fun i hi => h0 _ (by omega) (by omega), Nat.xor_zero]
def sq (l : List Nat) (n : Nat) : Nat := l.getD n 0
theorem zar (l : List Nat) (n : Nat) (h : n < l.length) : sq l n = l[n] := by simp [sq, List.getD_eq_getElem?_getD, h]
theorem zhg (l : List Nat) (n : Nat) (h : l.length <= n) : sq l n = 0 := by simp [sq, List.getD_eq_getElem?_getD, List.getElem?_eq_none h]
theorem zbnj (l : List Nat) (n : Nat) (h : n < l.length) : l[n]? = some (sq l n) := by rw [zar l n h, List.getElem?_eq_getElem h]
def By (l : List Nat) : Prop := ∀ x ∈ l, x < 256
theorem By.sq {l : List Nat} (h : By l) (n : Nat) : sq l n < 256 := by
 by_cases hn : n < l.length
 .rw [zar l n hn]; exact h _ (List.getElem_mem hn)
 .rw [zhg l n (by omega)]; omega
theorem zfg {l m : List Nat} (h : l.length = m.length) (h2 : ∀ n, n < l.length -> sq l n = sq m n) : l = m := by
 apply List.ext_getElem h
 intro n h3 h4
 rw [<- zar l n h3, <- zar m n h4, h2 n h3]
def tab (N : Nat) (f : Nat -> Nat) : List Nat := (List.range N).map f
theorem zad (N : Nat) (f : Nat -> Nat) : (tab N f).length = N := by simp [tab]
theorem zbg (N : Nat) (f : Nat -> Nat) (n : Nat) : sq (tab N f) n = if n < N then f n else 0 := by
 by_cases h : n < N
 .rw [zar _ _ (by rw [zad]; exact h), if_pos h]; simp [tab]
 .rw [zhg _ _ (by rw [zad]; omega), if_neg h]
theorem zgq (N : Nat) (f : Nat -> Nat) (n : Nat) (h : n < N) : (tab N f)[n]? = some (f n) := by
 rw [zbnj _ _ (by rw [zad]; exact h), zbg, if_pos h]
theorem zam (N : Nat) {f g : Nat -> Nat} (h : ∀ n, n < N -> f n = g n) : tab N f = tab N g :=
 zfg (by rw [zad, zad]) fun n hn => by
  rw [zad] at hn
  rw [zbg, zbg, if_pos hn, if_pos hn, h n hn]
theorem zdh (N : Nat) (f : Nat -> Nat) (n v : Nat) : (tab N f).set n v = tab N (fun m => if m = n then v else f m) := by
 refine zfg (by rw [List.length_set, zad, zad]) fun m hm => ?_
 rw [List.length_set, zad] at hm
 rw [zbg, if_pos hm, zar _ _ (by rw [List.length_set, zad]; exact hm), List.getElem_set]
 by_cases e : n = m
 .rw [if_pos e, if_pos e.symm]
 .rw [if_neg e, if_neg (fun h => e h.symm), <- zar _ _ (by rw [zad]; exact hm), zbg, if_pos hm]
theorem zep (N : Nat) : List.replicate N 0 = tab N (fun _ => 0) :=
 zfg (by rw [List.length_replicate, zad]) fun n hn => by
  rw [List.length_replicate] at hn
  rw [zbg, if_pos hn, zar _ _ (by rw [List.length_replicate]; exact hn), List.getElem_replicate]
theorem zju (l : List Nat) : tab l.length (sq l) = l :=
 zfg (zad _ _) fun n hn => by rw [zad] at hn; rw [zbg, if_pos hn]
theorem zbt (N : Nat) {f : Nat -> Nat} (h : ∀ n, n < N -> f n < 256) : By (tab N f) := by
 intro x hx
 simp only [tab, List.mem_map, List.mem_range] at hx
 obtain ⟨n, hn, rfl⟩ := hx
 exact h n hn
def zs : List Nat -> Nat
 | [] => 0
 | a :: l => if a = 0 then zs l + 1 else 0
def beh (l : List Nat) : List Nat := l.drop (zs l)
theorem zjx : ∀ l, zs l <= l.length
 | [] => Nat.le_refl _
 | a :: l => by
  rw [zs]
  split
  .have := zjx l; simp; omega
  .simp
theorem zmf : ∀ (l : List Nat) (j : Nat), j < zs l -> sq l j = 0
 | [], j, h => by simp [zs] at h
 | a :: l, j, h => by
  rw [zs] at h
  split at h
  .match j with
   | 0 => simpa [sq] using ‹a = 0›
   | j + 1 => have := zmf l j (by omega); simpa [sq] using this
  .omega
theorem zpv : ∀ (l : List Nat), zs l < l.length -> sq l (zs l) ≠ 0
 | [], h => by simp at h
 | a :: l, h => by
  rw [zs] at h ⊢
  split
  .rw [if_pos ‹_›] at h
   have := zpv l (by simp at h; omega)
   simpa [sq] using this
  .simpa [sq] using ‹¬ a = 0›
theorem zbcl (l : List Nat) (k : Nat) (h0 : ∀ j, j < k -> sq l j = 0) (h1 : sq l k ≠ 0) : zs l = k := by
 have hk : k < l.length := Classical.byContradiction fun h => h1 (zhg l k (by omega))
 by_cases hlt : zs l < k
 .exact absurd (h0 _ hlt) (zpv l (by omega))
 .by_cases hgt : k < zs l
  .exact absurd (zmf l k hgt) h1
  .omega
theorem zwo (l : List Nat) (h0 : ∀ j, j < l.length -> sq l j = 0) : zs l = l.length := by
 have := zjx l
 by_cases hlt : zs l < l.length
 .exact absurd (h0 _ hlt) (zpv l hlt)
 .omega
theorem zcd (l : List Nat) : (beh l).length = l.length - zs l := by rw [beh, List.length_drop]
theorem zbct (l : List Nat) (n : Nat) : sq (beh l) n = sq l (zs l + n) := by
 rw [beh, sq, sq, List.getD_eq_getElem?_getD, List.getD_eq_getElem?_getD, List.getElem?_drop]
theorem By.beh {l : List Nat} (h : By l) : By (beh l) := fun x hx => h x (List.mem_of_mem_drop hx)
def Can (l : List Nat) : Prop := 0 < l.length -> sq l 0 ≠ 0
theorem zgk (l : List Nat) : Can (beh l) := by
 intro h
 rw [zcd] at h
 rw [zbct]
 exact zpv l (by omega)
theorem Can.zs {l : List Nat} (h : Can l) : zs l = 0 := by
 by_cases h0 : 0 < l.length
 .exact zbcl l 0 (fun j hj => absurd hj (by omega)) (h h0)
 .have := zjx l; omega
theorem Can.beh {l : List Nat} (h : Can l) : PolyMath.beh l = l := by rw [PolyMath.beh, h.zs]; rfl
def cf (l : List Nat) (k : Nat) : Nat := if k < l.length then sq l (l.length - 1 - k) else 0
theorem zau (l : List Nat) (k : Nat) (h : l.length <= k) : cf l k = 0 := if_neg (by omega)
theorem zce (l : List Nat) (k : Nat) (h : k < l.length) : cf l k = sq l (l.length - 1 - k) := if_pos h
theorem By.cf {l : List Nat} (h : By l) (k : Nat) : cf l k < 256 := by unfold PolyMath.cf; split; exact h.sq _; omega
theorem zeb (l : List Nat) (k : Nat) : cf (beh l) k = cf l k := by
 have hz := zjx l
 by_cases h : k < l.length - zs l
 .rw [zce _ _ (by rw [zcd]; exact h), zce _ _ (by omega), zbct, zcd]
  congr 1; omega
 .rw [zau _ _ (by rw [zcd]; omega)]
  by_cases h2 : k < l.length
  .rw [zce _ _ h2, zmf l _ (by omega)]
  .rw [zau _ _ (by omega)]
def hi (N : Nat) (F : Nat -> Nat) : List Nat := tab N (fun n => F (N - 1 - n))
theorem zcy (N : Nat) (F : Nat -> Nat) : (hi N F).length = N := zad _ _
theorem zbaf (N : Nat) (F : Nat -> Nat) (k : Nat) : cf (hi N F) k = if k < N then F k else 0 := by
 by_cases h : k < N
 .rw [zce _ _ (by rw [zcy]; exact h), if_pos h, zcy, hi, zbg, if_pos (by omega)]
  congr 1; omega
 .rw [zau _ _ (by rw [zcy]; omega), if_neg h]
theorem zqb (l : List Nat) (b k : Nat) : cf (l ++ [b]) k = if k = 0 then b else cf l (k - 1) := by
 by_cases h : k < l.length + 1
 .rw [zce _ _ (by simpa using h), zar _ _ (by simp; omega)]
  by_cases h0 : k = 0
  .subst h0; simp
  .rw [if_neg h0, List.getElem_append_left (by simp; omega), zce _ _ (by omega), zar _ _ (by omega)]
   congr 1; simp; omega
 .rw [zau _ _ (by simp; omega), if_neg (by omega), zau _ _ (by omega)]
def ev (l : List Nat) (x : Nat) : Nat := l.foldl (fun v b => gm v x ^^^ b) 0
theorem zcv (l : List Nat) (b x : Nat) : ev (l ++ [b]) x = gm (ev l x) x ^^^ b := by simp [ev]
theorem snocs {P : List Nat -> Prop} (h0 : P []) (h1 : ∀ l a, P l -> P (l ++ [a])) (l : List Nat) : P l := by
 have h : ∀ r : List Nat, P r.reverse := fun r => by
  induction r with
  | nil => exact h0
  | cons a r ih => rw [List.reverse_cons]; exact h1 _ _ ih
 simpa using h l.reverse
theorem zbe {l : List Nat} {x : Nat} (hl : By l) (hx : x < 256) : ev l x < 256 := by
 revert hl
 refine snocs (P := fun l => By l -> ev l x < 256) (fun _ => show 0 < 256 by omega) (fun l a ih h => ?_) l
 rw [zcv]
 exact zbq (zaz (ih fun y hy => h y (by simp [hy])) hx) (h a (by simp))
def E (f : Nat -> Nat) (N x : Nat) : Nat := xs (fun k => gm (f k) (pw x k)) N
theorem zbkv (f : Nat -> Nat) {N M x : Nat} (h : N <= M) (h0 : ∀ k, N <= k -> f k = 0) : E f M x = E f N x :=
 zdo _ h fun i hi _ => by rw [h0 i hi, zac]
theorem zif {f g : Nat -> Nat} {N x : Nat} (h : ∀ k, k < N -> f k = g k) : E f N x = E g N x := zal N fun i hi => by rw [h i hi]
theorem zmd {x : Nat} (hx : x < 256) : ∀ n, gm x (pw x n) = pw x (n + 1) := fun n => by rw [pw, zbf hx (zao hx n)]
theorem zlh {x : Nat} (hx : x < 256) (a : Nat) : ∀ b, pw x (a + b) = gm (pw x a) (pw x b)
 | 0 => by rw [pw, zch (zao hx _)]; rfl
 | b + 1 => by rw [show a + (b + 1) = (a + b) + 1 by omega, pw, zlh hx a b, pw, zah (zao hx _) (zao hx _) hx]
theorem ev_E {x : Nat} (hx : x < 256) : ∀ {l : List Nat}, By l -> ev l x = E (cf l) l.length x := by
 intro l
 refine snocs (P := fun l => By l -> ev l x = E (cf l) l.length x) (fun _ => rfl) (fun l a ih h => ?_) l
 have hl : By l := fun y hy => h y (by simp [hy])
 have ha := h a (by simp)
 rw [zcv, List.length_append, List.length_singleton, E, zjw, zqb, if_pos rfl, pw, zch ha, Nat.xor_comm, ih hl, E, zie]
 congr 1
 refine zal _ fun i hi => ?_
 rw [zqb, if_neg (by omega), show i + 1 - 1 = i by omega, zah (hl.cf _) (zao hx _) hx]
 rfl
theorem zdp {x : Nat} (hx : x < 256) {l : List Nat} (hl : By l) {N : Nat} (h : l.length <= N) : ev l x = E (cf l) N x := by
 rw [zbkv (cf l) h fun k hk => zau l k hk, ev_E hx hl]
theorem zbkz {x : Nat} (hx : x < 256) {l m : List Nat} (hl : By l) (hm : By m) (h : ∀ k, cf l k = cf m k) : ev l x = ev m x := by
 rw [zdp hx hl (Nat.le_max_left l.length m.length), zdp hx hm (Nat.le_max_right l.length m.length)]
 exact zif fun k _ => h k
theorem zks {x : Nat} (hx : x < 256) {l : List Nat} (hl : By l) : ev (beh l) x = ev l x := zbkz hx hl.beh hl (zeb l)
def cv (f g : Nat -> Nat) (n : Nat) : Nat := xs (fun i => gm (f i) (g (n - i))) (n + 1)
def cvk (f g : Nat -> Nat) (i n : Nat) : Nat := xs (fun j => if j <= n then gm (f j) (g (n - j)) else 0) i
theorem zni (f g : Nat -> Nat) (i n : Nat) : cvk f g (i + 1) n = cvk f g i n ^^^ if i <= n then gm (f i) (g (n - i)) else 0 := rfl
theorem znh (f g : Nat -> Nat) (N n : Nat) (h : ∀ i, N <= i -> f i = 0) : cvk f g N n = cv f g n := by
 have e : cv f g n = xs (fun j => if j <= n then gm (f j) (g (n - j)) else 0) (n + 1) := zal _ fun i hi => by rw [if_pos (by omega)]
 rw [e, cvk]
 by_cases hN : N <= n + 1
 .refine (zdo _ hN fun i hi _ => ?_).symm
  rw [h i hi]; split
  .exact zac _
  .rfl
 .exact zdo _ (by omega) fun i hi _ => if_neg (by omega)
theorem zkr {f g : Nat -> Nat} (hf : ∀ i, f i < 256) (hg : ∀ i, g i < 256) (i n : Nat) : cvk f g i n < 256 := zte _ fun i _ => by split; exact zaz (hf _) (hg _); omega
theorem zqd {f g : Nat -> Nat} (hf : ∀ i, f i < 256) (hg : ∀ i, g i < 256) (n : Nat) : cv f g n = cv g f n := by
 rw [cv, zpt, cv]
 refine zal _ fun i hi => ?_
 rw [show n + 1 - 1 - i = n - i by omega, show n - (n - i) = i by omega, zbf (hf _) (hg _)]
theorem zyw (a b : List Nat) (ha : 0 < a.length) (hb : 0 < b.length) (k : Nat) (hk : k < a.length + b.length - 1) :
  cvk (sq a) (sq b) a.length (a.length + b.length - 1 - 1 - k) = cv (cf a) (cf b) k := by
 rw [<- znh (cf a) (cf b) a.length k fun i hi => zau a i hi, cvk, zpt, cvk]
 refine zal _ fun i hi => ?_
 by_cases h1 : i <= k
 .rw [if_pos h1, zce a i hi]
  by_cases h2 : k - i < b.length
  .rw [if_pos (by omega), zce b _ h2]
   congr 2; omega
  .rw [if_neg (by omega), zau b _ (by omega), zag]
 .rw [if_neg h1]
  split
  .rw [zhg b _ (by omega), zag]
  .rfl
theorem zbdp {f g : Nat -> Nat} {N M n : Nat} (hf : ∀ i, N <= i -> f i = 0) (hg : ∀ i, M <= i -> g i = 0) (h : N + M <= n + 1) : cv f g n = 0 := by
 refine zcm _ fun i hi => ?_
 by_cases h1 : N <= i
 .rw [hf i h1, zac]
 .rw [hg _ (by omega), zag]
theorem E_cv {f g : Nat -> Nat} {N M x : Nat} (hf8 : ∀ i, f i < 256) (hg8 : ∀ i, g i < 256) (hx : x < 256) (hf : ∀ i, N <= i -> f i = 0) (hg : ∀ i, M <= i -> g i = 0) :
  E (cv f g) (N + M) x = gm (E f N x) (E g M x) := by
 have key : ∀ n L, n + M <= L -> E (cvk f g n) L x = gm (E f n x) (E g M x) := by
  intro n
  induction n with
  | zero => intro L _; rw [E, zcm _ fun i _ => by rw [show cvk f g 0 i = 0 from rfl, zac]]; exact (zac _).symm
  | succ n ih =>
   intro L hL
   have e1 : E (cvk f g (n + 1)) L x = E (cvk f g n) L x ^^^ xs (fun k => gm (if n <= k then gm (f n) (g (k - n)) else 0) (pw x k)) L := by
    rw [E, E, <- zfv]; exact zal _ fun i _ => by rw [zni, zas]
   rw [e1, ih L (by omega)]
   have e2 : E f (n + 1) x = E f n x ^^^ gm (f n) (pw x n) := rfl
   rw [e2, zas]
   congr 1
   obtain ⟨d, rfl⟩ : ∃ d, L = n + d := ⟨L - n, by omega⟩
   rw [zfi, zcm _ fun i hi => by rw [if_neg (by omega), zac], Nat.zero_xor, <- zbkv g (M := d) (by omega) hg, E, zds]
   refine zal _ fun i _ => ?_
   rw [if_pos (by omega), show n + i - n = i by omega, zlh hx n i, zah (hf8 n) (hg8 i) (zaz (zao hx n) (zao hx i)), zah (hf8 n) (zao hx n) (zaz (hg8 i) (zao hx i)),
    <- zah (hg8 i) (zao hx n) (zao hx i), zbf (hg8 i) (zao hx n), zah (zao hx n) (hg8 i) (zao hx i)]
 rw [<- key N (N + M) (Nat.le_refl _)]
 exact zif fun k _ => (znh f g N k hf).symm
def pm (a b : List Nat) : List Nat := if a.length = 0 ∨ b.length = 0 then [] else tab (a.length + b.length - 1) (cvk (sq a) (sq b) a.length)
theorem zpc (a b : List Nat) (k : Nat) : cf (pm a b) k = cv (cf a) (cf b) k := by
 unfold pm
 split
 .rename_i h
  rw [zau _ _ (by simp)]
  refine (zcm _ fun i _ => ?_).symm
  rcases h with h | h
  .rw [zau a i (by omega), zac]
  .rw [zau b _ (by omega), zag]
 .rename_i h
  by_cases hk : k < a.length + b.length - 1
  .rw [zce _ _ (by rw [zad]; exact hk), zad, zbg, if_pos (by omega)]
   exact zyw a b (by omega) (by omega) k hk
  .rw [zau _ _ (by rw [zad]; omega)]
   exact (zbdp (N := a.length) (M := b.length) (fun i hi => zau a i hi) (fun i hi => zau b i hi) (by omega)).symm
theorem zmb {a b : List Nat} (ha : By a) (hb : By b) : By (pm a b) := by
 unfold pm
 split
 .intro x hx; cases hx
 .exact zbt _ fun n _ => zkr (fun i => ha.sq i) (fun i => hb.sq i) _ _
theorem zbfq (a b : List Nat) (ha : 0 < a.length) (hb : 0 < b.length) : (pm a b).length = a.length + b.length - 1 := by
 unfold pm; rw [if_neg (by omega), zad]
theorem zxr (b : List Nat) : pm [] b = [] := by unfold pm; exact if_pos (Or.inl rfl)
theorem zbfo {a b : List Nat} (ha8 : By a) (hb8 : By b) (ha : Can a) (hb : Can b) : Can (pm a b) := by
 intro h
 by_cases h0 : a.length = 0 ∨ b.length = 0
 .unfold pm at h; rw [if_pos h0] at h; simp at h
 .have h1 : 0 < a.length := by omega
  have h2 : 0 < b.length := by omega
  unfold pm
  rw [if_neg h0, zbg, if_pos (by omega)]
  have e : cvk (sq a) (sq b) a.length 0 = gm (sq a 0) (sq b 0) := by
   rw [znh _ _ _ _ fun i hi => zhg a i hi, cv, xs, xs, Nat.zero_xor]
  rw [e]
  exact zjb (ha8.sq 0) (hb8.sq 0) (ha h1) (hb h2)
theorem zta {a b : List Nat} {x : Nat} (ha : By a) (hb : By b) (hx : x < 256) : ev (pm a b) x = gm (ev a x) (ev b x) := by
 have hl : (pm a b).length <= a.length + b.length := by unfold pm; split; simp; rw [zad]; omega
 rw [zdp hx (zmb ha hb) hl, ev_E hx ha, ev_E hx hb, <- E_cv (fun i => ha.cf i) (fun i => hb.cf i) hx (fun i hi => zau a i hi) (fun i hi => zau b i hi)]
 exact zif fun k _ => zpc a b k
def rt (l : List Nat) : List Nat := l.foldl (fun p r => pm p [1, r]) [1]
theorem zqu (l : List Nat) (r : Nat) : rt (l ++ [r]) = pm (rt l) [1, r] := by simp [rt]
theorem zdn {a b : Nat} (ha : a < 256) (hb : b < 256) : By [a, b] := by intro x hx; simp at hx; omega
theorem zea {a : Nat} (ha : a < 256) : By [a] := by intro x hx; simp at hx; omega
theorem zkn : By [] := fun x hx => by cases hx
theorem zdv (l : List Nat) (hl : By l) : By (rt l) ∧ (rt l).length = l.length + 1 ∧ Can (rt l) := by
 revert hl
 refine snocs (P := fun l => By l -> By (rt l) ∧ (rt l).length = l.length + 1 ∧ Can (rt l)) (fun _ => ⟨zea (by omega), rfl, fun _ => by decide⟩) (fun l a ih h => ?_) l
 have ha := h a (by simp)
 obtain ⟨h1, h2, h3⟩ := ih fun y hy => h y (by simp [hy])
 have h4 : By [1, a] := zdn (by omega) ha
 rw [zqu]
 refine ⟨zmb h1 h4, ?_, zbfo h1 h4 h3 fun _ => by simp [sq]⟩
 rw [zbfq _ _ (by omega) (by simp), h2]
 simp
def sumf (ls : List (List Nat)) (k : Nat) : Nat := ls.foldl (fun s l => s ^^^ cf l k) 0
theorem zlp (ls : List (List Nat)) (l : List Nat) (k : Nat) : sumf (ls ++ [l]) k = sumf ls k ^^^ cf l k := by simp [sumf]
theorem snocs2 {P : List (List Nat) -> Prop} (h0 : P []) (h1 : ∀ l a, P l -> P (l ++ [a])) (l : List (List Nat)) : P l := by
 have h : ∀ r : List (List Nat), P r.reverse := fun r => by
  induction r with
  | nil => exact h0
  | cons a r ih => rw [List.reverse_cons]; exact h1 _ _ ih
 simpa using h l.reverse
theorem zzr (ls : List (List Nat)) (h : ∀ l ∈ ls, By l) (k : Nat) : sumf ls k < 256 := by
 revert h
 refine snocs2 (P := fun ls => (∀ l ∈ ls, By l) -> sumf ls k < 256) (fun _ => show 0 < 256 by omega) (fun ls l ih h => ?_) ls
 rw [zlp]
 exact zbq (ih fun y hy => h y (by simp [hy])) ((h l (by simp)).cf k)
def mx (ls : List (List Nat)) : Nat := ls.foldl (fun m l => max m l.length) 0
theorem zly (ls : List (List Nat)) (l : List Nat) : mx (ls ++ [l]) = max (mx ls) l.length := by simp [mx]
theorem zblb (ls : List (List Nat)) (N : Nat) (h : ∀ l ∈ ls, l.length <= N) : mx ls <= N := by
 revert h
 refine snocs2 (P := fun ls => (∀ l ∈ ls, l.length <= N) -> mx ls <= N) (fun _ => Nat.zero_le _) (fun ls l ih h => ?_) ls
 rw [zly]
 have h1 := ih fun y hy => h y (by simp [hy])
 have h2 := h l (by simp)
 omega
theorem zbpi (ls : List (List Nat)) (l : List Nat) (h : l ∈ ls) : l.length <= mx ls := by
 revert h
 refine snocs2 (P := fun ls => l ∈ ls -> l.length <= mx ls) (fun h => by cases h) (fun ls m ih h => ?_) ls
 rw [zly]
 rcases List.mem_append.1 h with h | h
 .have := ih h; omega
 .simp at h; subst h; omega
theorem zbkl (ls : List (List Nat)) (k : Nat) (h : mx ls <= k) : sumf ls k = 0 := by
 revert h
 refine snocs2 (P := fun ls => mx ls <= k -> sumf ls k = 0) (fun _ => rfl) (fun ls m ih h => ?_) ls
 rw [zly] at h
 rw [zlp, ih (by omega), zau m k (by omega)]; rfl
def addl (ls : List (List Nat)) : List Nat := beh (hi (mx ls) (sumf ls))
theorem zpy (ls : List (List Nat)) (k : Nat) : cf (addl ls) k = sumf ls k := by
 rw [addl, zeb, zbaf]
 split
 .rfl
 .rw [zbkl ls k (by omega)]
theorem zbph {N : Nat} {F : Nat -> Nat} (h : ∀ k, F k < 256) : By (hi N F) := zbt N fun n _ => h _
theorem zpx (ls : List (List Nat)) (h : ∀ l ∈ ls, By l) : By (addl ls) := (zbph fun k => zzr ls h k).beh
def adj (N : Nat) (S : Nat -> Nat) (p : List Nat) (i n : Nat) : Nat := S (N - 1 - n) ^^^ if N - p.length <= n ∧ n < N - p.length + i then sq p (n - (N - p.length)) else 0
theorem zbhc (N : Nat) (S : Nat -> Nat) (p : List Nat) : tab N (adj N S p 0) = hi N S := zam N fun n hn => by rw [adj, if_neg (by omega), Nat.xor_zero]
theorem zbhb (N : Nat) (S : Nat -> Nat) (p : List Nat) (i : Nat) : (tab N (adj N S p i)).set (N - p.length + i) (adj N S p i (N - p.length + i) ^^^ sq p i) = tab N (adj N S p (i + 1)) := by
 rw [zdh]
 refine zam N fun n _ => ?_
 by_cases e : n = N - p.length + i
 .subst e
  rw [if_pos rfl, adj, adj, if_neg (by omega), if_pos (by omega), show N - p.length + i - (N - p.length) = i by omega, Nat.xor_zero]
 .rw [if_neg e, adj, adj]
  by_cases h : N - p.length <= n ∧ n < N - p.length + i
  .rw [if_pos h, if_pos (by omega)]
  .rw [if_neg h, if_neg (by omega)]
theorem zbha (N : Nat) (ls : List (List Nat)) (p : List Nat) (hp : p.length <= N) : tab N (adj N (sumf ls) p p.length) = hi N (sumf (ls ++ [p])) := zam N fun n hn => by
 rw [adj, zlp]
 congr 1
 by_cases h : N - p.length <= n
 .rw [if_pos ⟨h, by omega⟩, zce p _ (by omega)]
  congr 1; omega
 .rw [if_neg (by omega), zau p _ (by omega)]
theorem zbns {N : Nat} {S : Nat -> Nat} {p : List Nat} (hS : ∀ k, S k < 256) (hp : By p) (i n : Nat) : adj N S p i n < 256 := zbq (hS _) (by split; exact hp.sq _; omega)
def pms (ls : List (List Nat)) : List Nat := ls.foldl (fun p a => pm p (beh a)) [1]
theorem zjk (ls : List (List Nat)) (l : List Nat) : pms (ls ++ [l]) = pm (pms ls) (beh l) := by simp [pms]
theorem zcw (l : List Nat) : (beh l).length <= l.length := by rw [zcd]; omega
theorem zblc (a b : List Nat) : (pm a b).length <= a.length + b.length := by unfold pm; split; simp; rw [zad]; omega
theorem zqo (ls : List (List Nat)) (h : ∀ l ∈ ls, By l) : By (pms ls) ∧ Can (pms ls) := by
 revert h
 refine snocs2 (P := fun ls => (∀ l ∈ ls, By l) -> By (pms ls) ∧ Can (pms ls)) (fun _ => ⟨zea (by omega), fun _ => by decide⟩) (fun ls l ih h => ?_) ls
 obtain ⟨h1, h2⟩ := ih fun y hy => h y (by simp [hy])
 have h3 := h l (by simp)
 rw [zjk]
 exact ⟨zmb h1 h3.beh, zbfo h1 h3.beh h2 (zgk l)⟩
theorem zboj (ls : List (List Nat)) (N : Nat) (h : ∀ l ∈ ls, l.length <= N) : (pms ls).length <= 1 + ls.length * N := by
 revert h
 refine snocs2 (P := fun ls => (∀ l ∈ ls, l.length <= N) -> (pms ls).length <= 1 + ls.length * N) (fun _ => by simp [pms]) (fun ls l ih h => ?_) ls
 have h1 := ih fun y hy => h y (by simp [hy])
 have h2 := h l (by simp)
 have h3 := zblc (pms ls) (beh l)
 have h4 := zcw l
 rw [zjk, List.length_append, List.length_singleton, Nat.add_mul]
 omega
def dl (l : List Nat) : List Nat := tab (l.length - 1) (fun i => if (l.length - 1 - i) % 2 = 1 then sq l i else 0)
theorem zbpd (l : List Nat) (k : Nat) : cf (dl l) k = if k % 2 = 0 then cf l (k + 1) else 0 := by
 by_cases h : k < l.length - 1
 .rw [zce _ _ (by rw [dl, zad]; exact h), dl, zad, zbg, if_pos (by omega), zce l _ (by omega)]
  by_cases h2 : k % 2 = 0
  .rw [if_pos (by omega), if_pos h2]; congr 1; omega
  .rw [if_neg (by omega), if_neg h2]
 .rw [zau _ _ (by rw [dl, zad]; omega), zau l _ (by omega)]; split <;> rfl
theorem zsz {l : List Nat} (h : By l) : By (dl l) := zbt _ fun n _ => by split; exact h.sq _; omega
theorem zts (r k : Nat) : cf [1, r] k = if k = 0 then r else if k = 1 then 1 else 0 := by
 match k with
 | 0 => rfl
 | 1 => rfl
 | k + 2 => rw [zau _ _ (by simp), if_neg (by omega), if_neg (by omega)]
theorem zbnu {f : Nat -> Nat} (hf : ∀ i, f i < 256) {r : Nat} (hr : r < 256) (k : Nat) : cv f (cf [1, r]) k = gm r (f k) ^^^ if k = 0 then 0 else f (k - 1) := by
 rw [zqd hf (fun i => (zdn (by omega) hr).cf i)]
 match k with
 | 0 => rw [cv, xs, xs, Nat.zero_xor, zts, if_pos rfl, if_pos rfl, Nat.xor_zero]
 | k + 1 =>
  rw [cv, zdo (n := 2) _ (by omega) fun i h1 _ => by rw [zau _ _ (by simpa using h1), zac], xs, xs, xs, Nat.zero_xor, zts, zts, if_pos rfl, if_neg (by omega), if_pos rfl, if_neg (by omega), zcf (hf _)]
  rfl
def dev (p : List Nat) (x : Nat) : Nat := ev (dl p) x
theorem zbky (p : List Nat) : (dl p).length <= p.length := by rw [dl, zad]; omega
theorem zsy {p : List Nat} {x N : Nat} (hp : By p) (hx : x < 256) (h : p.length <= N) : dev p x = xs (fun k => gm (if k % 2 = 0 then cf p (k + 1) else 0) (pw x k)) N := by
 rw [dev, zdp hx (zsz hp) (Nat.le_trans (zbky p) h)]
 exact zif fun k _ => zbpd p k
theorem zbds {p : List Nat} {x : Nat} (hp : By p) (hx : x < 256) : dev p x < 256 := zbe (zsz hp) hx
theorem zblt {p : List Nat} {r x : Nat} (hp : By p) (hr : r < 256) (hx : x < 256) : dev (pm p [1, r]) x = gm (dev p x) (x ^^^ r) ^^^ ev p x := by
 have hq := zmb hp (zdn (show 1 < 256 by omega) hr)
 have hle := zblc p [1, r]
 obtain ⟨N, hN⟩ : ∃ N, N = p.length + 2 := ⟨_, rfl⟩
 simp only [List.length_cons, List.length_nil] at hle
 rw [zsy hq hx (N := N) (by omega)]
 have e1 : ∀ k, gm (if k % 2 = 0 then cf (pm p [1, r]) (k + 1) else 0) (pw x k) = gm r (gm (if k % 2 = 0 then cf p (k + 1) else 0) (pw x k)) ^^^ (if k % 2 = 0 then gm (cf p k) (pw x k) else 0) := by
  intro k
  split
  .rw [zpc, zbnu (fun i => hp.cf i) hr, if_neg (by omega), zas, zah hr (hp.cf _) (zao hx _)]; rfl
  .rw [zac, zag]; rfl
 rw [zal N fun k _ => e1 k, zfv, <- zds, <- zsy hp hx (by omega)]
 have e2 : ev p x = xs (fun k => if k % 2 = 0 then gm (cf p k) (pw x k) else 0) N ^^^ gm x (dev p x) := by
  have h1 : ev p x = xs (fun k => if k % 2 = 0 then gm (cf p k) (pw x k) else 0) N ^^^ xs (fun k => if k % 2 = 1 then gm (cf p k) (pw x k) else 0) N := by
   rw [zdp hx hp (N := N) (by omega), E, <- zfv]
   refine zal N fun k _ => ?_
   by_cases h : k % 2 = 0
   .rw [if_pos h, if_neg (by omega), Nat.xor_zero]
   .rw [if_neg h, if_pos (by omega), Nat.zero_xor]
  rw [h1]
  congr 1
  obtain ⟨M, rfl⟩ : ∃ M, N = M + 1 := ⟨N - 1, by omega⟩
  rw [zjw, if_neg (by omega), Nat.zero_xor, zsy hp hx (N := M) (by omega), zds]
  refine zal M fun k _ => ?_
  by_cases h : k % 2 = 0
  .rw [if_pos (by omega), if_pos h, <- zmd hx, <- zah hx (hp.cf _) (zao hx _), zbf hx (hp.cf _), zah (hp.cf _) hx (zao hx _)]
  .rw [if_neg (by omega), if_neg h, zac, zag]
 have hd := zbds hp hx
 rw [zbd, zbf hd hx, zbf hd hr]
 generalize gm x (dev p x) = a at *
 generalize gm r (dev p x) = b at *
 rw [e2]
 generalize xs (fun k => if k % 2 = 0 then gm (cf p k) (pw x k) else 0) N = c at *
 rw [Nat.xor_comm a b, Nat.xor_assoc, Nat.xor_comm c a, <- Nat.xor_assoc a, Nat.xor_self, Nat.zero_xor]
theorem zboa {p : List Nat} {r x : Nat} (hp : By p) (hr : r < 256) (hx : x < 256) : ev (pm p [1, r]) x = gm (ev p x) (x ^^^ r) := by
 rw [zta hp (zdn (by omega) hr) hx]
 congr 1
 show gm (gm 0 x ^^^ 1) x ^^^ r = _
 rw [zac, Nat.zero_xor, zcf hx]
theorem zbgy {a b : Nat} (h : a ≠ b) : a ^^^ b ≠ 0 := fun e => h (by
 have h1 : a ^^^ b ^^^ b = b := by rw [e, Nat.zero_xor]
 rwa [Nat.xor_assoc, Nat.xor_self, Nat.xor_zero] at h1)
def ct (l : List Nat) (x : Nat) : Nat := l.foldl (fun c b => if b = x then c + 1 else c) 0
theorem zqc (l : List Nat) (b x : Nat) : ct (l ++ [b]) x = if b = x then ct l x + 1 else ct l x := by simp [ct]
theorem znv (l : List Nat) {x : Nat} (hl : By l) (hx : x < 256) :
  (ev (rt l) x = 0 ↔ 0 < ct l x) ∧ (2 <= ct l x -> dev (rt l) x = 0) ∧ (ct l x = 1 -> dev (rt l) x ≠ 0) := by
 revert hl
 refine snocs (P := fun l => By l -> (ev (rt l) x = 0 ↔ 0 < ct l x) ∧ (2 <= ct l x -> dev (rt l) x = 0) ∧ (ct l x = 1 -> dev (rt l) x ≠ 0)) (fun _ => ?_) (fun l r ih h => ?_) l
 .have e1 : ev (rt []) x = 1 := by show gm 0 x ^^^ 1 = 1; rw [zac]; rfl
  have e2 : ct [] x = 0 := rfl
  rw [e1, e2]
  exact ⟨⟨fun h => absurd h (by omega), fun h => absurd h (by omega)⟩, fun h => absurd h (by omega), fun h => absurd h (by omega)⟩
 .have hl : By l := fun y hy => h y (by simp [hy])
  have hr := h r (by simp)
  obtain ⟨h1, h2, h3⟩ := ih hl
  obtain ⟨hp, _, _⟩ := zdv l hl
  have he := zbe hp hx
  have hd := zbds hp hx
  rw [zqu, zboa hp hr hx, zblt hp hr hx, zqc]
  generalize rt l = p at *
  generalize ct l x = c at *
  by_cases e : r = x
  .subst e
   rw [Nat.xor_self, zag, zag, Nat.zero_xor, if_pos rfl]
   refine ⟨⟨fun _ => by omega, fun _ => rfl⟩, fun h => h1.2 (by omega), fun h e => ?_⟩
   have := h1.1 e
   omega
  .rw [if_neg e]
   have hs : x ^^^ r ≠ 0 := zbgy (fun h => e h.symm)
   have hs8 := zbq hx hr
   refine ⟨⟨fun h => h1.1 ((gm_eq_zero he hs8 h).resolve_right hs), fun h => by rw [h1.2 h, zac]⟩, fun h => ?_, fun h => ?_⟩
   .rw [h2 h, h1.2 (by omega), zac]; rfl
   .rw [h1.2 (by omega), Nat.xor_zero]
    exact zjb hd hs8 (h3 h) hs
def shl (l : List Nat) (k : Nat) : List Nat := if (beh l).length = 0 then [] else beh l ++ List.replicate k 0
end PolyMath
namespace PolyMath
open GfMath
theorem znk {l : List Nat} {x : Nat} (hl : By l) (hx : x < 256) : ∀ k, ev (l ++ List.replicate k 0) x = gm (ev l x) (pw x k)
 | 0 => by rw [List.replicate_zero, List.append_nil]; exact (zch (zbe hl hx)).symm
 | k + 1 => by
  rw [List.replicate_succ', <- List.append_assoc, zcv, znk hl hx k, Nat.xor_zero, pw, zah (zbe hl hx) (zao hx k) hx]
theorem zbob {l : List Nat} {x : Nat} (hl : By l) (hx : x < 256) (k : Nat) : ev (shl l k) x = gm (ev l x) (pw x k) := by
 unfold shl
 split
 .rename_i h
  have : beh l = [] := List.eq_nil_of_length_eq_zero h
  rw [<- zks hx hl, this]
  exact (zac _).symm
 .rw [znk hl.beh hx, zks hx hl]
theorem zlm (l : List Nat) (k : Nat) : (shl l k).length <= l.length + k := by
 unfold shl
 have := zcw l
 split
 .simp
 .rw [List.length_append, List.length_replicate]; omega
theorem zeg {l : List Nat} (h : By l) (k : Nat) : By (shl l k) := by
 unfold shl
 split
 .exact zkn
 .intro x hx
  rcases List.mem_append.1 hx with h1 | h1
  .exact h.beh x h1
  .rw [(List.mem_replicate.1 h1).2]; omega
theorem zbow (f g : Nat -> Nat) (N x : Nat) : E (fun k => f k ^^^ g k) N x = E f N x ^^^ E g N x := by
 rw [E, E, E, <- zfv]
 exact zal N fun k _ => zas _ _ _
theorem zyn (ls : List (List Nat)) : (addl ls).length <= mx ls := by
 have := zcw (hi (mx ls) (sumf ls))
 rw [zcy] at this
 exact this
theorem zbhu {a b : List Nat} {x : Nat} (ha : By a) (hb : By b) (hx : x < 256) : ev (addl [a, b]) x = ev a x ^^^ ev b x := by
 have h8 : ∀ l ∈ [a, b], By l := by intro l hl; simp at hl; rcases hl with rfl | rfl <;> assumption
 have hm : mx [a, b] = max a.length b.length := by simp [mx]
 have h1 := zyn [a, b]
 rw [zdp hx (zpx _ h8) (N := max a.length b.length) (by omega), zdp hx ha (N := max a.length b.length) (by omega), zdp hx hb (N := max a.length b.length) (by omega), <- zbow]
 refine zif fun k _ => ?_
 rw [zpy]
 simp [sumf]
end PolyMath
namespace PolyMath
open GfMath
def lo (l : List Nat) : List Nat := (beh l).reverse
end PolyMath
namespace PolyMath
open GfMath
end PolyMath
namespace PolyMath
open GfMath
def qs (A B : List Nat) : Nat -> List Nat
 | 0 => []
 | i + 1 => qs A B i ++ [gm (sq A i ^^^ cvk (sq (qs A B i)) (sq B) i i) (iv (sq B 0))]
theorem zdt (A B : List Nat) : ∀ i, (qs A B i).length = i
 | 0 => rfl
 | i + 1 => by rw [qs, List.length_append, zdt A B i]; rfl
theorem zbgl (l m : List Nat) (n : Nat) (h : n < l.length) : sq (l ++ m) n = sq l n := by
 rw [zar _ _ (by rw [List.length_append]; omega), zar _ _ h, List.getElem_append_left h]
theorem zqr (A B : List Nat) (i n : Nat) (h : n < i) : ∀ d, sq (qs A B (i + d)) n = sq (qs A B i) n
 | 0 => rfl
 | d + 1 => by rw [<- Nat.add_assoc, qs, zbgl _ _ _ (by rw [zdt]; omega), zqr A B i n h d]
theorem zbdr {f f' g : Nat -> Nat} {i n : Nat} (h : ∀ j, j < i -> f j = f' j) : cvk f g i n = cvk f' g i n := zal _ fun j hj => by rw [h j hj]
theorem zqs (A B : List Nat) {N i : Nat} (h : i < N) : sq (qs A B N) i = gm (sq A i ^^^ cvk (sq (qs A B N)) (sq B) i i) (iv (sq B 0)) := by
 obtain ⟨d, rfl⟩ : ∃ d, N = i + 1 + d := ⟨N - (i + 1), by omega⟩
 have e1 : cvk (sq (qs A B (i + 1 + d))) (sq B) i i = cvk (sq (qs A B i)) (sq B) i i := zbdr fun j hj => by
  rw [show i + 1 + d = i + (1 + d) by omega, zqr A B i j hj]
 rw [e1, zqr A B (i + 1) i (by omega) d, qs, zar _ _ (by rw [List.length_append, zdt]; simp), List.getElem_append_right (by rw [zdt]; exact Nat.le_refl _)]
 simp [zdt]
theorem ztb {A B : List Nat} (hA : By A) (hB : By B) : ∀ i, By (qs A B i)
 | 0 => zkn
 | i + 1 => by
  have h := ztb hA hB i
  rw [qs]
  intro x hx
  rcases List.mem_append.1 hx with h1 | h1
  .exact h x h1
  .simp only [List.mem_singleton] at h1
   rw [h1]; exact zaz (zbq (hA.sq i) (zkr (fun j => h.sq j) (fun j => hB.sq j) _ _)) (zax _)
def rst (A B Q : List Nat) (i n : Nat) : Nat := sq A n ^^^ cvk (sq Q) (sq B) i n
theorem zbgf {A B Q : List Nat} (hA : By A) (hB : By B) (hQ : By Q) (i n : Nat) : rst A B Q i n < 256 := zbq (hA.sq n) (zkr (fun j => hQ.sq j) (fun j => hB.sq j) _ _)
theorem zbkb (A B Q : List Nat) : tab A.length (rst A B Q 0) = A := by
 rw [zam A.length (g := sq A) fun n _ => by rw [rst]; exact Nat.xor_zero _]
 exact zju A
theorem zbka {A B : List Nat} {N n : Nat} (hA : By A) (hB : By B) (h0 : sq B 0 ≠ 0) (h : n < N) : rst A B (qs A B N) N n = 0 := by
 have e1 : cvk (sq (qs A B N)) (sq B) N n = cvk (sq (qs A B N)) (sq B) (n + 1) n := zdo _ (by omega) fun i hi _ => if_neg (by omega)
 have hx : sq A n ^^^ cvk (sq (qs A B N)) (sq B) n n < 256 := zbq (hA.sq n) (zkr (fun j => (ztb hA hB N).sq j) (fun j => hB.sq j) _ _)
 have e2 : gm (sq (qs A B N) n) (sq B 0) = sq A n ^^^ cvk (sq (qs A B N)) (sq B) n n := by
  rw [zqs A B h, zah hx (zax _) (hB.sq 0), zbaz (hB.sq 0) h0, zch hx]
 rw [rst, e1, zni, if_pos (Nat.le_refl _), Nat.sub_self, e2, <- Nat.xor_assoc, Nat.xor_self]
def dq (a b : List Nat) : List Nat := if (beh a).length < (beh b).length then [] else qs (beh a) (beh b) ((beh a).length - (beh b).length + 1)
def dr (a b : List Nat) : List Nat := if (beh a).length < (beh b).length then beh a else beh (tab (beh a).length (rst (beh a) (beh b) (dq a b) ((beh a).length - (beh b).length + 1)))
theorem znj {a b : List Nat} (ha : By a) (hb : By b) (h0 : 0 < (beh b).length) :
  By (dq a b) ∧ Can (dq a b) ∧ By (dr a b) ∧ Can (dr a b) ∧ (dr a b).length < (beh b).length ∧ (dq a b).length <= (beh a).length ∧ ∀ k, cf a k = cv (cf (dq a b)) (cf b) k ^^^ cf (dr a b) k := by
 have hb0 : sq (beh b) 0 ≠ 0 := zgk b h0
 have hbeq : cf (beh b) = cf b := funext (zeb b)
 by_cases hlt : (beh a).length < (beh b).length
 .have e1 : dq a b = [] := by unfold dq; exact if_pos hlt
  have e2 : dr a b = beh a := by unfold dr; exact if_pos hlt
  rw [e1, e2]
  refine ⟨zkn, fun h => absurd h (by simp), ha.beh, zgk a, hlt, Nat.zero_le _, fun k => ?_⟩
  rw [zeb, show cv (cf []) (cf b) k = 0 from zcm _ fun i _ => by rw [zau [] i (Nat.zero_le _), zac], Nat.zero_xor]
 .have e1 : dq a b = qs (beh a) (beh b) ((beh a).length - (beh b).length + 1) := by unfold dq; exact if_neg hlt
  have e2 : dr a b = beh (tab (beh a).length (rst (beh a) (beh b) (dq a b) ((beh a).length - (beh b).length + 1))) := by unfold dr; exact if_neg hlt
  have hA := ha.beh
  have hB := hb.beh
  have hcA := zgk a
  have hcf : ∀ k, cf (beh a) k = cf a k := zeb a
  rw [e2, e1]
  rw [<- hbeq]
  generalize beh a = A at *
  generalize beh b = B at *
  obtain ⟨N, hN⟩ : ∃ N, A.length - B.length + 1 = N := ⟨_, rfl⟩
  rw [hN]
  have hQ := ztb hA hB N
  have hQl := zdt A B N
  have hz : ∀ n, n < N -> sq (tab A.length (rst A B (qs A B N) N)) n = 0 := fun n hn => by rw [zbg, if_pos (by omega), zbka hA hB hb0 hn]
  refine ⟨hQ, fun h => ?_, (zbt _ fun n _ => zbgf hA hB hQ _ _).beh, zgk _, ?_, by rw [hQl]; omega, fun k => ?_⟩
  .rw [zqs A B (by omega), show cvk (sq (qs A B N)) (sq B) 0 0 = 0 from rfl, Nat.xor_zero]
   refine zjb (hA.sq 0) (zax _) (hcA (by omega)) fun e => ?_
   have := zge (hB.sq 0) hb0
   rw [e, zag] at this; exact absurd this (by omega)
  .rw [zcd, zad]
   by_cases hzs : zs (tab A.length (rst A B (qs A B N) N)) < N
   .exact absurd (hz _ hzs) (zpv _ (by rw [zad]; omega))
   .omega
  .rw [zeb, <- hcf k]
   by_cases hk : k < A.length
   .have h1 := zyw (qs A B N) B (by omega) h0 k (by omega)
    rw [hQl, show N + B.length - 1 - 1 - k = A.length - 1 - k by omega] at h1
    rw [zce A k hk, zce _ k (by rw [zad]; exact hk), zad, zbg, if_pos (by omega), rst, h1, Nat.xor_comm (sq A _), <- Nat.xor_assoc, Nat.xor_self, Nat.zero_xor]
   .rw [zau A k (by omega), zau _ k (by rw [zad]; omega), zbdp (N := N) (M := B.length) (fun i hi => zau _ i (by omega)) (fun i hi => zau B i hi) (by omega)]
    rfl
end PolyMath
namespace PolyMath
open GfMath
theorem zbpc (a b : List Nat) : cf (pm a b) = cv (cf a) (cf b) := funext fun k => zpc a b k
def ad (a b : List Nat) : List Nat := addl [a, b]
theorem zboz (a b : List Nat) (k : Nat) : cf (ad a b) k = cf a k ^^^ cf b k := by rw [ad, zpy]; simp [sumf]
theorem zboy {a b : List Nat} (ha : By a) (hb : By b) : By (ad a b) := zpx _ (by intro l hl; simp at hl; rcases hl with rfl | rfl <;> assumption)
def Dv (d p : List Nat) : Prop := ∃ h : List Nat, By h ∧ cf p = cv (cf h) (cf d)
end PolyMath
namespace PolyMath
open GfMath
def hq (l : List Nat) (r : Nat) : List Nat := (l.foldl (fun s b => (s.1 ++ [s.2], gm s.2 r ^^^ b)) (([] : List Nat), 0)).1
theorem horner (l : List Nat) (r : Nat) : l.foldl (fun s b => (s.1 ++ [s.2], gm s.2 r ^^^ b)) (([] : List Nat), 0) = (hq l r, ev l r) := by
 refine snocs (P := fun l => l.foldl (fun s b => (s.1 ++ [s.2], gm s.2 r ^^^ b)) (([] : List Nat), 0) = (hq l r, ev l r)) rfl (fun l a ih => ?_) l
 unfold hq
 rw [List.foldl_append, ih, zcv]
 rfl
theorem ziq (l : List Nat) (a r : Nat) : hq (l ++ [a]) r = hq l r ++ [ev l r] := by
 conv => lhs; unfold hq
 rw [List.foldl_append, horner]
 rfl
theorem zbes (l : List Nat) (r : Nat) : (hq l r).length = l.length := by
 refine snocs (P := fun l => (hq l r).length = l.length) rfl (fun l a ih => ?_) l
 rw [ziq, List.length_append, List.length_append, ih]; rfl
theorem zbla {l : List Nat} {r : Nat} (hl : By l) (hr : r < 256) : By (hq l r) := by
 revert hl
 refine snocs (P := fun l => By l -> By (hq l r)) (fun _ => zkn) (fun l a ih h => ?_) l
 have hl : By l := fun y hy => h y (by simp [hy])
 rw [ziq]
 intro x hx
 rcases List.mem_append.1 hx with h1 | h1
 .exact ih hl x h1
 .simp only [List.mem_singleton] at h1; rw [h1]; exact zbe hl hr
theorem zbpe {l : List Nat} {r y : Nat} (hl : By l) (hr : r < 256) (hy : y < 256) : ev l y = gm (y ^^^ r) (ev (hq l r) y) ^^^ ev l r := by
 revert hl
 refine snocs (P := fun l => By l -> ev l y = gm (y ^^^ r) (ev (hq l r) y) ^^^ ev l r) (fun _ => ?_) (fun l a ih h => ?_) l
 .show 0 = gm (y ^^^ r) 0 ^^^ 0
  rw [zag]; rfl
 .have hl : By l := fun z hz => h z (by simp [hz])
  have h1 := ih hl
  have hQ := zbe (zbla hl hr) hy
  have hE := zbe hl hr
  have hyr := zbq hy hr
  rw [zcv, zcv, ziq, zcv, h1]
  generalize ev (hq l r) y = Q at *
  generalize ev l r = E at *
  rw [zas, zah hyr hQ hy, zbd (y ^^^ r), zas y r E, zbf hE hy, zbf hE hr, <- Nat.xor_assoc]
  congr 1
  generalize gm (y ^^^ r) (gm Q y) = A
  generalize gm y E = B
  generalize gm r E = C
  rw [Nat.xor_assoc A, Nat.xor_assoc B, Nat.xor_self, Nat.xor_zero]
theorem hq_head (l : List Nat) (r : Nat) : l = [] ∨ ∃ t, hq l r = 0 :: t := by
 refine snocs (P := fun l => l = [] ∨ ∃ t, hq l r = 0 :: t) (Or.inl rfl) (fun l a ih => Or.inr ?_) l
 rw [ziq]
 rcases ih with rfl | ⟨t, ht⟩
 .exact ⟨[], rfl⟩
 .exact ⟨t ++ [ev l r], by rw [ht]; rfl⟩
theorem zkt (t : List Nat) (y : Nat) : ev (0 :: t) y = ev t y := by
 show t.foldl _ (gm 0 y ^^^ 0) = t.foldl _ 0
 rw [zac]; rfl
theorem zbed (k y : Nat) : ev (List.replicate k 0) y = 0 := by
 induction k with
 | zero => rfl
 | succ k ih => rw [List.replicate_succ, zkt, ih]
theorem hq_zero (r : Nat) (l : List Nat) : (∀ b ∈ hq l r, b = 0) -> l = [] ∨ ∃ k c, l = List.replicate k 0 ++ [c] := by
 refine snocs (P := fun l => (∀ b ∈ hq l r, b = 0) -> l = [] ∨ ∃ k c, l = List.replicate k 0 ++ [c]) (fun _ => Or.inl rfl) (fun l a ih h => Or.inr ?_) l
 rw [ziq] at h
 have h1 := ih fun b hb => h b (List.mem_append_left _ hb)
 have h2 := h (ev l r) (by simp)
 rcases h1 with rfl | ⟨k, c, rfl⟩
 .exact ⟨0, a, rfl⟩
 .rw [zcv, zbed, zac, Nat.zero_xor] at h2
  exact ⟨k + 1, a, by rw [h2, List.replicate_succ']⟩
theorem zjn : ∀ (n : Nat) (l xs : List Nat), By l -> By xs -> l.length <= n -> xs.length = n -> xs.Nodup -> (∀ x ∈ xs, ev l x = 0) -> ∀ b ∈ l, b = 0
 | 0, l, xs, _, _, hl, _, _, _ => by
  have : l = [] := List.eq_nil_of_length_eq_zero (by omega)
  subst this
  intro b hb; cases hb
 | n + 1, l, xs, hl8, hx8, hl, hn, hnd, h0 => by
  cases xs with
  | nil => simp at hn
  | cons r ys =>
   have hr := hx8 r (by simp)
   have hy8 : By ys := fun y hy => hx8 y (by simp [hy])
   rw [List.nodup_cons] at hnd
   rcases hq_head l r with rfl | ⟨t, ht⟩
   .intro b hb; cases hb
   .have hQ8 := zbla hl8 hr
    have hQl := zbes l r; rw [ht] at hQ8 hQl
    have ht8 : By t := fun y hy => hQ8 y (by simp [hy])
    have hroot := h0 r (by simp)
    have hz : ∀ y ∈ ys, ev t y = 0 := fun y hy => by
     have hy256 := hy8 y hy; have h1 := zbpe hl8 hr hy256; rw [h0 y (by simp [hy]), hroot, Nat.xor_zero, ht, zkt] at h1
     have hne : y ^^^ r ≠ 0 := zbgy fun e => hnd.1 (by rw [<- e]; exact hy)
     exact (gm_eq_zero (zbq hy256 hr) (zbe ht8 hy256) h1.symm).resolve_left hne
    have hall := zjn n t ys ht8 hy8 (by simp at hQl; omega) (by simpa using hn) hnd.2 hz
    have hq0 : ∀ b ∈ hq l r, b = 0 := fun b hb => by
     rw [ht] at hb
     rcases List.mem_cons.1 hb with h | h
     .exact h
     .exact hall b h
    rcases hq_zero r l hq0 with rfl | ⟨k, c, rfl⟩
    .intro b hb; cases hb
    .rw [zcv, zbed, zac, Nat.zero_xor] at hroot
     intro b hb
     rcases List.mem_append.1 hb with h | h
     .exact (List.mem_replicate.1 h).2
     .simp only [List.mem_singleton] at h
      rw [h, hroot]
theorem zbdo (l : List Nat) (x : Nat) : x ∈ l -> 0 < ct l x := by
 refine snocs (P := fun l => x ∈ l -> 0 < ct l x) (fun h => by cases h) (fun l a ih h => ?_) l
 rw [zqc]
 rcases List.mem_append.1 h with h | h
 .have := ih h; split <;> omega
 .simp only [List.mem_singleton] at h; rw [if_pos h.symm]; omega
theorem zbnt (l : List Nat) (x : Nat) : 0 < ct l x -> x ∈ l := by
 refine snocs (P := fun l => 0 < ct l x -> x ∈ l) (fun h => by simp [ct] at h) (fun l a ih h => ?_) l
 rw [zqc] at h
 split at h
 .rename_i e; simp [e]
 .exact List.mem_append_left _ (ih h)
def fitN (xs ys : List Nat) : Nat -> List Nat
 | 0 => []
 | k + 1 => addl [fitN xs ys k, pms [[gm (sq ys k ^^^ ev (fitN xs ys k) (sq xs k)) (iv (ev (rt (xs.take k)) (sq xs k)))], rt (xs.take k)]]
end PolyMath
namespace RsMath
open GfMath PolyMath
def exs (p : Nat) : List Nat := tab p ex
theorem zdk (p : Nat) : (exs p).length = p := zad _ _
theorem zec (p : Nat) : By (exs p) := zbt _ fun n _ => ex_lt n
def allz (l : List Nat) : Bool := decide (zs l = l.length)
theorem ztg (l : List Nat) : allz l = true ↔ ∀ j, j < l.length -> sq l j = 0 := by
 unfold allz
 rw [decide_eq_true_iff]
 exact ⟨fun h j hj => zmf l j (by omega), fun h => zwo l h⟩
def vals (l : List Nat) (p : Nat) : List Nat := tab p fun i => ev l (ex i)
theorem zcr (l : List Nat) (p : Nat) : (vals l p).length = p := zad _ _
def rem (X : List Nat) (p : Nat) : List Nat := dr (shl X p) (rt (exs p))
def parity (X : List Nat) (p : Nat) : List Nat := List.replicate (p - (rem X p).length) 0 ++ rem X p
theorem zil (p : Nat) : (beh (rt (exs p))).length = p + 1 := by
 obtain ⟨h1, h2, h3⟩ := zdv (exs p) (zec p)
 rw [h3.beh, h2, zdk]
theorem zvr (X : List Nat) (hX : By X) (p : Nat) : (rem X p).length <= p := by
 have h := (znj (zeg hX p) (zdv (exs p) (zec p)).1 (by rw [zil]; omega)).2.2.2.2.1
 rw [zil] at h
 unfold rem
 omega
theorem zpf (X : List Nat) (hX : By X) (p : Nat) : By (rem X p) := (znj (zeg hX p) (zdv (exs p) (zec p)).1 (by rw [zil]; omega)).2.2.1
theorem zfz (X : List Nat) (hX : By X) (p : Nat) : (parity X p).length = p := by
 have := zvr X hX p
 rw [parity, List.length_append, List.length_replicate]
 omega
theorem zlf (X : List Nat) (hX : By X) (p : Nat) : By (parity X p) := by
 intro x hx
 rcases List.mem_append.1 hx with h | h
 .rw [(List.mem_replicate.1 h).2]; omega
 .exact zpf X hX p x h
def code (X : List Nat) (p : Nat) : List Nat := X ++ parity X p
theorem zwv (X : List Nat) (hX : By X) (p : Nat) : (code X p).length = X.length + p := by rw [code, List.length_append, zfz X hX]
theorem zit (f : Nat -> Nat -> Nat) (n : Nat) : ∀ m, xs (fun i => xs (f i) n) m = xs (fun j => xs (fun i => f i j) m) n
 | 0 => by rw [show xs (fun i => xs (f i) n) 0 = 0 from rfl]; exact (zcm n fun _ _ => rfl).symm
 | m + 1 => by
  show xs (fun i => xs (f i) n) m ^^^ xs (f m) n = _
  rw [zit f n m, <- zfv]
  rfl
theorem zeu {l : List Nat} (hl : By l) (i : Nat) : ev l (ex i) = xs (fun j => gm (sq l j) (ex (i * (l.length - 1 - j)))) l.length := by
 rw [ev_E (ex_lt i) hl, E, zpt]
 refine zal _ fun j hj => ?_
 rw [zce l _ (by omega), zjm, show l.length - 1 - (l.length - 1 - j) = j by omega]
def supp (l : List Nat) : List Nat := (List.range l.length).filter fun j => sq l j ≠ 0
theorem zjt (l : List Nat) (j : Nat) : j ∈ supp l ↔ j < l.length ∧ sq l j ≠ 0 := by simp [supp]
theorem zbcb (l : List Nat) : (supp l).Nodup := List.Pairwise.filter _ List.nodup_range
def loc (l : List Nat) (j : Nat) : Nat := ex (l.length - 1 - j)
theorem zbhx {l : List Nat} {p : Nat} (hl : By l) (hn : l.length <= 255) (hs : (supp l).length <= p) (h0 : ∀ i, i < p -> ev l (ex i) = 0) : supp l = [] := by
 match hq : supp l with
 | [] => rfl
 | j0 :: r =>
  exfalso
  have hj0 : j0 < l.length ∧ sq l j0 ≠ 0 := (zjt l j0).1 (by rw [hq]; simp)
  have hnd := zbcb l
  rw [hq, List.nodup_cons] at hnd
  have hr : ∀ j ∈ r, j < l.length ∧ sq l j ≠ 0 := fun j hj => (zjt l j).1 (by rw [hq]; simp [hj])
  obtain ⟨L, hL⟩ : ∃ L, L = rt (r.map (loc l)) := ⟨_, rfl⟩
  have hby : By (r.map (loc l)) := by intro x hx; obtain ⟨j, _, rfl⟩ := List.mem_map.1 hx; exact ex_lt _
  obtain ⟨hL8, hLl, _⟩ := zdv _ hby
  rw [<- hL] at hL8 hLl
  rw [List.length_map] at hLl
  have hLp : L.length <= p := by rw [hLl]; rw [hq] at hs; simpa using hs
  have hsum : xs (fun i => gm (cf L i) (ev l (ex i))) L.length = 0 := zcm _ fun i hi => by rw [h0 i (by omega), zag]
  have hsum2 : xs (fun i => gm (cf L i) (ev l (ex i))) L.length = xs (fun j => gm (sq l j) (ev L (loc l j))) l.length := by
   rw [show (fun i => gm (cf L i) (ev l (ex i))) = fun i => xs (fun j => gm (cf L i) (gm (sq l j) (ex (i * (l.length - 1 - j))))) l.length from funext fun i => by rw [zeu hl, zds], zit]
   refine zal _ fun j hj => ?_
   have hlx : loc l j < 256 := ex_lt _
   rw [ev_E hlx hL8, E, zds]
   refine zal _ fun i hi => ?_
   have e : pw (loc l j) i = ex (i * (l.length - 1 - j)) := by rw [loc, zjm, Nat.mul_comm]
   rw [e, <- zah (hL8.cf i) (hl.sq j) (ex_lt _), zbf (hL8.cf i) (hl.sq j), zah (hl.sq j) (hL8.cf i) (ex_lt _)]
  rw [hsum2] at hsum
  have hone : xs (fun j => gm (sq l j) (ev L (loc l j))) l.length = gm (sq l j0) (ev L (loc l j0)) := by
   rw [show l.length = j0 + (1 + (l.length - j0 - 1)) by omega, zfi]
   have hz : ∀ j, j < l.length -> j ≠ j0 -> gm (sq l j) (ev L (loc l j)) = 0 := fun j hj hne => by
    by_cases h : sq l j = 0
    .rw [h, zac]
    .have hm : j ∈ r := by
      have := (zjt l j).2 ⟨hj, h⟩
      rw [hq] at this
      rcases List.mem_cons.1 this with e | e
      .exact absurd e hne
      .exact e
     have hm2 : loc l j ∈ r.map (loc l) := List.mem_map.2 ⟨j, hm, rfl⟩
     have hct : 0 < ct (r.map (loc l)) (loc l j) := zbdo _ _ hm2
     have hlx : loc l j < 256 := ex_lt _
     rw [hL, (znv _ hby hlx).1.2 hct, zag]
   rw [zcm j0 fun j hj => hz j (by omega) (by omega), Nat.zero_xor, zfi]
   rw [zcm (l.length - j0 - 1) fun j hj => hz (j0 + (1 + j)) (by omega) (by omega), Nat.xor_zero]
   show 0 ^^^ _ = _
   rw [Nat.zero_xor]
   rfl
  rw [hone] at hsum
  rcases gm_eq_zero (hl.sq j0) (zbe hL8 (ex_lt _)) hsum with h | h
  .exact hj0.2 h
  .rw [hL] at h
   have hct := (znv _ hby (ex_lt _)).1.1 h; obtain ⟨j, hj, e⟩ := List.mem_map.1 (zbnt _ _ hct); have h1 := (hr j hj).1; have h2 := zbef (by omega) (by omega) e
   have h3 : j = j0 := by omega
   exact hnd.1 (h3 ▸ hj)
theorem zrj {l : List Nat} {x : Nat} (hl : By l) (hx : x < 256) (m : List Nat) (hm : By m) : ev (l ++ m) x = gm (ev l x) (pw x m.length) ^^^ ev m x := by
 revert hm
 refine snocs (P := fun m => By m -> ev (l ++ m) x = gm (ev l x) (pw x m.length) ^^^ ev m x) (fun _ => ?_) (fun m a ih h => ?_) m
 .rw [List.append_nil]
  show _ = gm (ev l x) 1 ^^^ 0
  rw [zch (zbe hl hx), Nat.xor_zero]
 .have hm : By m := fun y hy => h y (by simp [hy])
  rw [<- List.append_assoc, zcv, ih hm, zcv, List.length_append, List.length_singleton, zas, zah (zbe hl hx) (zao hx _) hx, Nat.xor_assoc]
  rfl
theorem zbhv (n : Nat) {l : List Nat} {x : Nat} (hl : By l) (hx : x < 256) : ev (List.replicate n 0 ++ l) x = ev l x := by
 have h0 : By (List.replicate n 0) := fun y hy => by rw [(List.mem_replicate.1 hy).2]; omega
 have h1 : ev (List.replicate n 0) x = 0 := by
  have := znk (l := []) zkn hx n
  rw [List.nil_append] at this
  rw [this]
  exact zac _
 rw [zrj h0 hx l hl, h1, zac, Nat.zero_xor]
theorem zbnz {p i : Nat} (hi : i < p) : ev (rt (exs p)) (ex i) = 0 := by
 refine (znv _ (zec p) (ex_lt i)).1.2 (zbdo _ _ ?_)
 exact List.mem_map.2 ⟨i, List.mem_range.2 hi, rfl⟩
theorem zbdg {X : List Nat} (hX : By X) {p i : Nat} (hi : i < p) : ev (code X p) (ex i) = 0 := by
 have hG := (zdv (exs p) (zec p)).1
 obtain ⟨hq, _, hr, _, _, _, hc⟩ := znj (zeg hX p) hG (by rw [zil]; omega)
 have hx := ex_lt i
 have h1 : ev (shl X p) (ex i) = ev (rem X p) (ex i) := by
  have hpm : By (pm (dq (shl X p) (rt (exs p))) (rt (exs p))) := zmb hq hG
  rw [zbkz hx (zeg hX p) (zboy hpm hr) (fun k => by rw [hc k, zboz, zbpc]), ad, zbhu hpm hr hx, zta hq hG hx, zbnz hi, zag, Nat.zero_xor]
  rfl
 rw [zbob hX hx] at h1
 rw [code, zrj hX hx _ (zlf X hX p), zfz X hX, h1, parity, zbhv _ (zpf X hX p) hx, Nat.xor_self]
theorem zbag {X : List Nat} (hX : By X) (p : Nat) : allz (vals (code X p) p) = true := by
 rw [ztg]
 intro j hj
 rw [zcr] at hj
 rw [vals, zbg, if_pos hj]
 exact zbdg hX hj
theorem allz_zero {l : List Nat} {p : Nat} : allz (vals l p) = true ↔ ∀ i, i < p -> ev l (ex i) = 0 := by
 rw [ztg, zcr]
 constructor
 .intro h i hi
  have := h i hi
  rwa [vals, zbg, if_pos hi] at this
 .intro h i hi
  rw [vals, zbg, if_pos hi]
  exact h i hi
def xl (a b : List Nat) : List Nat := tab a.length fun j => sq a j ^^^ sq b j
theorem zse (a b : List Nat) : (xl a b).length = a.length := zad _ _
theorem zblg {a b : List Nat} (ha : By a) (hb : By b) : By (xl a b) := zbt _ fun n _ => zbq (ha.sq n) (hb.sq n)
theorem zbpf {a b : List Nat} (ha : By a) (hb : By b) (hl : a.length = b.length) (i : Nat) : ev (xl a b) (ex i) = ev a (ex i) ^^^ ev b (ex i) := by
 rw [zeu (zblg ha hb), zeu ha, zeu hb, zse, <- hl, <- zfv]
 refine zal _ fun j hj => ?_
 rw [xl, zbg, if_pos hj, zas]
theorem zbkm {l : List Nat} (h : supp l = []) (j : Nat) : sq l j = 0 := by
 by_cases hj : j < l.length
 .by_cases h0 : sq l j = 0
  .exact h0
  .have := (zjt l j).2 ⟨hj, h0⟩
   rw [h] at this
   cases this
 .exact zhg l j (by omega)
end RsMath
namespace SolMath
open GfMath PolyMath RsMath
def mrk (n i : Nat) : Nat := ex (n - 1 - i)
theorem zbb (n i : Nat) : mrk n i < 256 := ex_lt _
def lowl (p : Nat) (l : List Nat) : List Nat := l.drop (l.length - p)
theorem zdy {l : List Nat} (h : By l) (p : Nat) : By (lowl p l) := fun x hx => h x (List.mem_of_mem_drop hx)
theorem zbmn (p : Nat) (l : List Nat) : (lowl p l).length <= l.length := by rw [lowl, List.length_drop]; omega
theorem zuu (p : Nat) (l : List Nat) : (lowl p l).length <= p := by rw [lowl, List.length_drop]; omega
def fcI (l : List Nat) (z : Int) : Nat := if z < 0 then 0 else cf l z.toNat
theorem zuj {l : List Nat} (h : By l) (z : Int) : fcI l z < 256 := by unfold fcI; split; omega; exact h.cf _
def setG (G : List Bool) (er : List Int) : List Bool := er.foldl (fun G i => G.set i.toNat true) G
theorem zmy (G : List Bool) (er : List Int) : (setG G er).length = G.length := by
 unfold setG
 induction er generalizing G with
 | nil => rfl
 | cons a l ih => rw [List.foldl_cons, ih, List.length_set]
def cnt (G : List Bool) : Nat := G.count true
theorem zbde (G : List Bool) : cnt G <= G.length := List.count_le_length
def gAt (G : List Bool) (i : Nat) : Bool := G.getD i false
def inB (n : Nat) (er : List Int) : Bool := er.all fun i => decide (0 <= i) && decide (i < (n : Int))
def noneG (n : Nat) : List Bool := List.replicate n false
theorem zyv {G : List Bool} {i : Nat} (hi : i < G.length) (h : gAt G i = false) : cnt (G.set i true) = cnt G + 1 := by
 unfold cnt gAt at *
 induction G generalizing i with
 | nil => simp at hi
 | cons a l ih =>
  cases i with
  | zero =>
   simp only [List.getD_cons_zero] at h
   subst h
   simp
  | succ i =>
   simp only [List.getD_cons_succ] at h
   rw [List.set_cons_succ, List.count_cons, List.count_cons, ih (by simpa using hi) h]
   omega
theorem zvv {G : List Bool} {i : Nat} (h : gAt G i = true) : G.set i true = G := by
 unfold gAt at h
 induction G generalizing i with
 | nil => rfl
 | cons a l ih =>
  cases i with
  | zero =>
   simp only [List.getD_cons_zero] at h
   subst h
   rfl
  | succ i =>
   simp only [List.getD_cons_succ] at h
   rw [List.set_cons_succ, ih h]
def erF (n : Nat) (G : List Bool) : Nat -> List Nat
 | 0 => [1]
 | i + 1 => if gAt G i then pms [erF n G i, [mrk n i, 1]] else erF n G i
theorem zfe (n : Nat) (G : List Bool) : ∀ i, By (erF n G i) ∧ (erF n G i).length <= i + 1
 | 0 => ⟨zea (by omega), by simp [erF]⟩
 | i + 1 => by
  obtain ⟨h1, h2⟩ := zfe n G i
  unfold erF
  split
  .have h3 : By [mrk n i, 1] := zdn (zbb _ _) (by omega)
   refine ⟨(zqo _ (by intro l hl; simp at hl; rcases hl with rfl | rfl <;> assumption)).1, ?_⟩
   rw [show ([erF n G i, [mrk n i, 1]] : List (List Nat)) = [erF n G i] ++ [[mrk n i, 1]] from rfl, zjk]
   rw [show pms [erF n G i] = pm [1] (beh (erF n G i)) from rfl]
   have hb := zcw (erF n G i); have hc := zcw [mrk n i, 1]
   have hl : ∀ a b : List Nat, (pm a b).length <= a.length + b.length - 1 := fun a b => by
    unfold pm; split
    .simp
    .rw [zad]; omega
   have h4 := hl [1] (beh (erF n G i)); have h5 := hl (pm [1] (beh (erF n G i))) (beh [mrk n i, 1])
   simp only [List.length_cons, List.length_nil] at h4 hc
   omega
  .exact ⟨h1, by omega⟩
def missF (T rule : List Nat) (lost : Nat) (i : Nat) : Nat := xs (fun j => gm (cf rule j) (fcI T ((lost : Int) + (i : Int) - (j : Int)))) rule.length
def missK (T rule : List Nat) (lost : Nat) (i k : Nat) : Nat := xs (fun j => gm (cf rule j) (fcI T ((lost : Int) + (i : Int) - (j : Int)))) k
theorem zji {T rule : List Nat} (hT : By T) (hR : By rule) (lost i k : Nat) : missK T rule lost i k < 256 := zte _ fun j _ => zaz (hR.cf _) (zuj hT _)
structure BM where
 rule : List Nat
 last : List Nat
 miss : Nat
 since : Nat
 size : Nat
def nextF (s : BM) (d : Nat) : List Nat := addl [s.rule, pms [[gm d (iv s.miss)], shl s.last s.since]]
def bmStep (T : List Nat) (lost i : Nat) (s : BM) : BM :=
 if missF T s.rule lost i = 0 then { s with since := s.since + 1 }
 else if 2 * s.size <= i then ⟨nextF s (missF T s.rule lost i), s.rule, missF T s.rule lost i, 1, i + 1 - s.size⟩
 else ⟨nextF s (missF T s.rule lost i), s.last, s.miss, s.since + 1, s.size⟩
def bm (T : List Nat) (lost : Nat) : Nat -> BM
 | 0 => ⟨[1], [1], 1, 1, 0⟩
 | i + 1 => bmStep T lost i (bm T lost i)
theorem zbfp (a b : List Nat) : (pm a b).length <= a.length + b.length - 1 := by
 unfold pm; split
 .simp
 .rw [zad]; omega
theorem zqp (a b : List Nat) : pms [a, b] = pm (pm [1] (beh a)) (beh b) := rfl
theorem zbh {a b : List Nat} (ha : By a) (hb : By b) : By (pms [a, b]) := (zqo _ (by intro l hl; simp at hl; rcases hl with rfl | rfl <;> assumption)).1
theorem zcz (a b : List Nat) : (pms [a, b]).length <= a.length + b.length - 1 := by
 rw [zqp]
 have h1 := zbfp [1] (beh a)
 have h2 := zbfp (pm [1] (beh a)) (beh b)
 have h3 := zcw a
 have h4 := zcw b
 have h5 : (beh b).length = 0 -> (pm (pm [1] (beh a)) (beh b)).length = 0 := fun h => by unfold pm; rw [if_pos (Or.inr h)]; rfl
 simp only [List.length_cons, List.length_nil] at h1
 have h6 : (pm [1] (beh a)).length = 0 -> (pm (pm [1] (beh a)) (beh b)).length = 0 := fun h => by rw [List.eq_nil_of_length_eq_zero h, zxr]; rfl
 omega
theorem zwp {a b : List Nat} (ha : By a) (hb : By b) : By (addl [a, b]) := zpx _ (by intro l hl; simp at hl; rcases hl with rfl | rfl <;> assumption)
theorem zmh (a b : List Nat) : (addl [a, b]).length <= max a.length b.length := by
 have := zyn [a, b]
 simpa [mx] using this
structure BMok (s : BM) (i : Nat) : Prop where
 r8 : By s.rule
 l8 : By s.last
 m8 : s.miss < 256
 m0 : s.miss ≠ 0
 rl : s.rule.length <= i + 1
 ll : s.last.length + s.since <= i + 2
 s1 : 1 <= s.since
 sz : s.size <= i
theorem zbms {s : BM} {i d : Nat} (h : BMok s i) (hd : d < 256) : By (nextF s d) ∧ (nextF s d).length <= i + 2 := by
 have h1 : By [gm d (iv s.miss)] := zea (zaz hd (zax _))
 have h2 := zeg h.l8 s.since
 refine ⟨zwp h.r8 (zbh h1 h2), ?_⟩
 have h3 := zmh s.rule (pms [[gm d (iv s.miss)], shl s.last s.since])
 have h4 := zcz [gm d (iv s.miss)] (shl s.last s.since)
 have h5 := zlm s.last s.since
 simp only [List.length_cons, List.length_nil] at h4
 have := h.rl
 have := h.ll
 unfold nextF
 omega
theorem zrf {T : List Nat} (hT : By T) (lost : Nat) {s : BM} {i : Nat} (h : BMok s i) : BMok (bmStep T lost i s) (i + 1) := by
 have hd : missF T s.rule lost i < 256 := zji hT h.r8 lost i _
 obtain ⟨n1, n2⟩ := zbms h hd
 obtain ⟨r8, l8, m8, m0, rl, ll, s1, sz⟩ := h
 unfold bmStep
 split
 .exact ⟨r8, l8, m8, m0, by show s.rule.length <= _; omega, by show s.last.length + (s.since + 1) <= _; omega, by show 1 <= s.since + 1; omega, by show s.size <= _; omega⟩
 .rename_i h0
  split
  .exact ⟨n1, r8, hd, h0, n2, by show s.rule.length + 1 <= _; omega, Nat.le_refl _, by show i + 1 - s.size <= _; omega⟩
  .exact ⟨n1, l8, m8, m0, n2, by show s.last.length + (s.since + 1) <= _; omega, by show 1 <= s.since + 1; omega, by show s.size <= _; omega⟩
theorem zlu {T : List Nat} (hT : By T) (lost : Nat) : ∀ i, BMok (bm T lost i) i
 | 0 => ⟨zea (by omega), zea (by omega), by show 1 < 256; omega, by show 1 ≠ 0; omega, by show 1 <= 0 + 1; omega, by show 1 + 1 <= 0 + 2; omega, by show 1 <= 1; omega, by show 0 <= 0; omega⟩
 | i + 1 => zrf hT lost (zlu hT lost i)
def masseyF (p : Nat) (T : List Nat) (lost : Nat) : List Nat := (bm T lost (p - lost)).rule
def dAt (n : Nat) (A S L : List Nat) (i : Nat) : Nat :=
 if ev A (iv (mrk n i)) ≠ 0 then 0 else gm (mrk n i) (gm (ev L (iv (mrk n i))) (iv (ev S (iv (mrk n i)))))
theorem zua (n : Nat) {A S L : List Nat} (hL : By L) (i : Nat) : dAt n A S L i < 256 := by
 unfold dAt
 split
 .omega
 .exact zaz (zbb _ _) (zaz (zbe hL (zax _)) (zax _))
def allF (R E : List Nat) : List Nat := pms [R, E]
def slopeF (R E : List Nat) : List Nat := beh (dl (allF R E))
def sumsF (p : Nat) (V R E : List Nat) : List Nat := lowl p (pms [V, allF R E])
def dF (n p : Nat) (V R E : List Nat) : Nat -> Nat := dAt n (allF R E) (slopeF R E) (sumsF p V R E)
def wordF (W : List Nat) (d : Nat -> Nat) (k : Nat) : List Nat := tab W.length fun i => sq W i ^^^ if i < k then d i else 0
def atF (d : Nat -> Nat) (k : Nat) : List Nat := (List.range k).filter fun i => decide (d i ≠ 0)
def othF (G : List Bool) (l : List Nat) : Nat := (l.filter fun i => !gAt G i).length
inductive Md where
 | arg | bad | ok (m at_ : List Nat)
def markE (n : Nat) (er : List Int) : List Bool := setG (noneG n) er
def valsR (W : List Nat) (p : Nat) : List Nat := (vals W p).reverse
def toldF (p : Nat) (V E : List Nat) : List Nat := lowl p (pms [V, E])
def layW (n p : Nat) (W V R E : List Nat) : List Nat := wordF W (dF n p V R E) n
def layP (n p : Nat) (V R E : List Nat) : List Nat := atF (dF n p V R E) n
def mendF (seek : Nat -> List Nat -> Nat -> List Nat) (n p : Nat) (W : List Nat) (er : List Int) : Md :=
 if inB n er = false then .arg
 else
  let G := markE n er
  let V := valsR W p
  let E := erF n G n
  let R := seek p (toldF p V E) (cnt G)
  let m := layW n p W V R E
  let l := layP n p V R E
  if allz (vals m p) = true ∧ cnt G <= p ∧ othF G l <= (p - cnt G) / 2 then .ok m l else .bad
end SolMath
namespace SolMath
open GfMath PolyMath RsMath
theorem zbmb (G : List Bool) (i j : Nat) (hi : i < G.length) : gAt (G.set i true) j = (gAt G j || decide (i = j)) := by
 unfold gAt
 rw [List.getD_eq_getElem?_getD, List.getD_eq_getElem?_getD, List.getElem?_set]
 by_cases e : i = j
 .subst e; simp [hi]
 .simp [e]
theorem zum (n : Nat) : ∀ (er : List Int) (G : List Bool) (j : Nat), G.length = n -> inB n er = true -> gAt (setG G er) j = (gAt G j || er.any fun i => decide (i.toNat = j))
 | [], G, j, _, _ => by simp [setG]
 | a :: l, G, j, hG, hb => by
  have hb2 : inB n l = true := by
   unfold inB at hb ⊢
   rw [List.all_cons, Bool.and_eq_true] at hb; exact hb.2
  have ha : 0 <= a ∧ a < (n : Int) := by
   unfold inB at hb
   rw [List.all_cons, Bool.and_eq_true, Bool.and_eq_true, decide_eq_true_iff, decide_eq_true_iff] at hb; exact hb.1
  show gAt (setG (G.set a.toNat true) l) j = _
  rw [zum n l _ j (by rw [List.length_set]; exact hG) hb2, zbmb G _ j (by omega), List.any_cons, Bool.or_assoc]
def mendG (seek : Nat -> List Nat -> Nat -> List Nat) (n p : Nat) (W : List Nat) (G : List Bool) : Md :=
 let V := valsR W p
 let E := erF n G n
 let R := seek p (toldF p V E) (cnt G)
 let m := layW n p W V R E
 let l := layP n p V R E
 if allz (vals m p) = true ∧ cnt G <= p ∧ othF G l <= (p - cnt G) / 2 then .ok m l else .bad
theorem zux (seek : Nat -> List Nat -> Nat -> List Nat) (n p : Nat) (W : List Nat) (er : List Int) : mendF seek n p W er = if inB n er = false then .arg else mendG seek n p W (markE n er) := rfl
theorem zbje {seek : Nat -> List Nat -> Nat -> List Nat} {n p : Nat} {W m l : List Nat} {er : List Int} (h : mendF seek n p W er = .ok m l) : inB n er = true ∧ allz (vals m p) = true ∧ cnt (markE n er) <= p ∧ m.length = W.length := by
 unfold mendF at h
 cases hb : inB n er with
 | false => rw [hb] at h; simp at h
 | true =>
  rw [hb] at h
  simp only [Bool.true_eq_false, if_false] at h
  split at h
  .rename_i hc
   injection h with h1 h2
   subst h1; exact ⟨rfl, hc.1, hc.2.1, by unfold layW wordF; exact zad _ _⟩
  .cases h
theorem zbjd {n p : Nat} {W m l : List Nat} {er : List Int} (hW : By W) (h : mendF masseyF n p W er = .ok m l) : By m := by
 unfold mendF at h
 cases hb : inB n er with
 | false => rw [hb] at h; simp at h
 | true =>
  rw [hb] at h
  simp only [Bool.true_eq_false, if_false] at h
  split at h
  .injection h with h1 h2
   subst h1
   refine zbt _ fun i _ => zbq (hW.sq _) ?_
   split
   .refine zua n (zdy (zbh ?_ (zbh ?_ (zfe _ _ _).1)) p) i
    .exact fun x hx => zbt _ (fun i _ => zbe hW (ex_lt i)) x (List.mem_reverse.1 hx)
    .exact (zlu (zdy (zbh (fun x hx => zbt _ (fun i _ => zbe hW (ex_lt i)) x (List.mem_reverse.1 hx)) (zfe _ _ _).1) p) _ _).r8
   .omega
  .cases h
end SolMath
namespace SolMath
open GfMath PolyMath RsMath
theorem zgm (n i : Nat) : mrk n i ≠ 0 := zou _
theorem znt (a : Nat) : pw a 0 = 1 := rfl
theorem zrw {X : Nat} (hX : X < 256) (h0 : X ≠ 0) : ∀ j, gm (pw X j) (pw (iv X) j) = 1
 | 0 => by rw [znt, znt]; exact zch (by omega)
 | j + 1 => by
  have hx := zax X
  have h1 := zao hX j
  have h2 := zao hx j
  rw [pw, pw, zah h1 hX (zaz h2 hx), <- zah hX h2 hx, zbf hX h2, zah h2 hX hx, zge hX h0, zch h2, zrw hX h0 j]
theorem zbok {X : Nat} (hX : X < 256) (h0 : X ≠ 0) (k j : Nat) (h : j <= k) : pw X (k - j) = gm (pw X k) (pw (iv X) j) := by
 have e : pw X k = gm (pw X (k - j)) (pw X j) := by rw [<- zlh hX, show k - j + j = k by omega]
 rw [e, zah (zao hX _) (zao hX _) (zao (zax X) _), zrw hX h0, zch (zao hX _)]
theorem zyz {X : Nat} (hX : X < 256) (h0 : X ≠ 0) {R : List Nat} (hR : By R) (k : Nat) (hk : R.length <= k + 1) : xs (fun l => gm (cf R l) (pw X (k - l))) R.length = gm (pw X k) (ev R (iv X)) := by
 rw [ev_E (zax X) hR, E, zds]
 refine zal _ fun l hl => ?_
 rw [zbok hX h0 k l (by omega), <- zah (hR.cf l) (zao hX k) (zao (zax X) l), zbf (hR.cf l) (zao hX k), zah (zao hX k) (hR.cf l) (zao (zax X) l)]
def ocnt (y : Nat -> Nat) (n : Nat) : Nat := ((List.range n).filter fun j => decide (y j ≠ 0)).length
theorem zei {α : Type} (P Q : α -> Bool) : ∀ (l : List α), (∀ x ∈ l, P x = true -> Q x = true) -> (l.filter P).length <= (l.filter Q).length
 | [], _ => Nat.le_refl _
 | a :: l, h => by
  have ih := zei P Q l fun x hx => h x (List.mem_cons_of_mem _ hx)
  rw [List.filter_cons, List.filter_cons]
  have ha := h a (List.mem_cons_self ..)
  cases hp : P a with
  | false => cases hq : Q a <;> simp <;> omega
  | true => rw [ha hp]; simp; omega
theorem zql {y z : Nat -> Nat} {n : Nat} (h : ∀ j, j < n -> y j ≠ 0 -> z j ≠ 0) : ocnt y n <= ocnt z n :=
 zei _ _ _ fun x hx hp => by
  rw [decide_eq_true_iff] at hp ⊢
  exact h x (List.mem_range.1 hx) hp
theorem vand {n t a : Nat} {y : Nat -> Nat} (hn : n <= 255) (hy : ∀ j, y j < 256) (ht : ocnt y n <= t) (h : ∀ i, i < t -> xs (fun j => gm (y j) (pw (mrk n j) (a + i))) n = 0) : ∀ j, j < n -> y j = 0 := by
 obtain ⟨l, hl⟩ : ∃ l, l = tab n fun j => gm (y j) (pw (mrk n j) a) := ⟨_, rfl⟩
 have hm := fun j => zbb n j
 have hl8 : By l := by rw [hl]; exact zbt _ fun j _ => zaz (hy j) (zao (hm j) a)
 have hll : l.length = n := by rw [hl]; exact zad _ _
 have hsq : ∀ j, j < n -> sq l j = gm (y j) (pw (mrk n j) a) := fun j hj => by rw [hl, zbg, if_pos hj]
 have hpn : ∀ j, pw (mrk n j) a ≠ 0 := fun j => by rw [mrk, zjm]; exact zou _
 have hs : supp l = [] := by
  refine zbhx (p := t) hl8 (by omega) ?_ fun i hi => ?_
  .refine Nat.le_trans ?_ ht
   unfold supp ocnt
   rw [hll]
   refine zei _ _ _ fun j hj hp => ?_
   rw [decide_eq_true_iff] at hp ⊢; rw [hsq j (List.mem_range.1 hj)] at hp; intro e; rw [e, zac] at hp; exact hp rfl
  .rw [zeu hl8, hll, <- h i hi]
   refine zal _ fun j hj => ?_
   rw [hsq j hj, zah (hy j) (zao (hm j) a) (ex_lt _), zlh (hm j)]
   congr 2
   rw [mrk, zjm, Nat.mul_comm]
 intro j hj
 have h0 := zbkm hs j
 rw [hsq j hj] at h0
 rcases gm_eq_zero (hy j) (zao (hm j) a) h0 with h1 | h1
 .exact h1
 .exact absurd h1 (hpn j)
theorem zey {a b : List Nat} (ha : By a) (hb : By b) (k : Nat) : cf (pms [a, b]) k = cv (cf a) (cf b) k := by
 rw [zqp, zpc]
 have e1 : cf (pm [1] (beh a)) = cf a := funext fun i => by
  rw [zpc]
  have h1 : ∀ j, 1 <= j -> cf [1] j = 0 := fun j hj => zau _ _ (by simpa using hj)
  unfold cv
  rw [zdo (fun j => gm (cf [1] j) (cf (beh a) (i - j))) (show 1 <= i + 1 by omega) fun j h _ => by rw [h1 j h, zac]]
  show 0 ^^^ gm (cf [1] 0) (cf (beh a) (i - 0)) = _
  rw [show cf [1] 0 = 1 from rfl, zcf (ha.beh.cf _), Nat.zero_xor, Nat.sub_zero, zeb]
 have e2 : cf (beh b) = cf b := funext fun i => zeb b i
 rw [e1, e2]
theorem zys (p : Nat) (l : List Nat) (i : Nat) : cf (lowl p l) i = if i < p then cf l i else 0 := by
 unfold lowl
 by_cases h : i < (l.drop (l.length - p)).length
 .rw [zce _ _ h]
  rw [List.length_drop] at h
  rw [if_pos (by omega), zce _ _ (by omega), zar _ _ (by rw [List.length_drop]; omega), List.getElem_drop, <- zar]
  congr 1
  rw [List.length_drop]
  omega
 .rw [zau _ _ (by omega)]
  rw [List.length_drop] at h
  split
  .rw [zau _ _ (by omega)]
  .rfl
theorem ztu {W : List Nat} {p i : Nat} (hi : i < p) : cf (valsR W p) i = ev W (ex i) := by
 have hl : (valsR W p).length = p := by rw [valsR, List.length_reverse]; exact zcr _ _
 rw [zce _ _ (by rw [hl]; exact hi), zar _ _ (by rw [hl]; omega)]
 simp only [valsR]
 rw [List.getElem_reverse, <- zar, zcr]
 rw [show p - 1 - ((vals W p).reverse.length - 1 - i) = i by rw [List.length_reverse, zcr]; omega, vals, zbg, if_pos hi]
structure Dec (n p : Nat) (W D : List Nat) : Prop where
 n255 : n <= 255
 W8 : By W
 Wl : W.length = n
 D8 : By D
 Dl : D.length = n
 D0 : ∀ i, i < p -> ev D (ex i) = 0
def er (W D : List Nat) (j : Nat) : Nat := sq W j ^^^ sq D j
section
variable {n p : Nat} {W D : List Nat}
theorem zfk (h : Dec n p W D) (j : Nat) : er W D j < 256 := zbq (h.W8.sq j) (h.D8.sq j)
theorem zzw (h : Dec n p W D) {i : Nat} (hi : i < p) : ev W (ex i) = xs (fun j => gm (er W D j) (pw (mrk n j) i)) n := by
 have h1 := zbpf h.W8 h.D8 (by rw [h.Wl, h.Dl]) i
 rw [h.D0 i hi, Nat.xor_zero, zeu (zblg h.W8 h.D8), zse, h.Wl] at h1
 rw [<- h1]
 refine zal _ fun j hj => ?_
 rw [xl, zbg, if_pos (by rw [h.Wl]; exact hj), mrk, zjm, Nat.mul_comm]
 rfl
def cc (W D E : List Nat) (n q j : Nat) : Nat := gm (gm (er W D j) (pw (mrk n j) q)) (ev E (iv (mrk n j)))
theorem zlv (h : Dec n p W D) {E : List Nat} (hE : By E) (q j : Nat) : cc W D E n q j < 256 := zaz (zaz (zfk h j) (zao (zbb n j) q)) (zbe hE (zax _))
theorem zui {y : Nat -> Nat} (hy : ∀ j, y j < 256) {R : List Nat} (hR : By R) (k : Nat) (hk : R.length <= k + 1) :
  xs (fun l => gm (cf R l) (xs (fun j => gm (y j) (pw (mrk n j) (k - l))) n)) R.length = xs (fun j => gm (gm (y j) (pw (mrk n j) k)) (ev R (iv (mrk n j)))) n := by
 rw [show (fun l => gm (cf R l) (xs (fun j => gm (y j) (pw (mrk n j) (k - l))) n)) = fun l => xs (fun j => gm (y j) (gm (cf R l) (pw (mrk n j) (k - l)))) n from funext fun l => by
  rw [zds]
  refine zal _ fun j _ => ?_
  rw [<- zah (hR.cf l) (hy j) (zao (zbb n j) _), zbf (hR.cf l) (hy j), zah (hy j) (hR.cf l) (zao (zbb n j) _)], zit]
 refine zal _ fun j _ => ?_
 rw [<- zds, zyz (zbb n j) (zgm n j) hR k hk, zah (hy j) (zao (zbb n j) k) (zbe hR (zax _))]
theorem zbkn (h : Dec n p W D) {E : List Nat} (hE : By E) {q i : Nat} (hEl : E.length <= q + 1) (hq : q <= i) (hi : i < p) :
  cf (toldF p (valsR W p) E) i = xs (fun j => gm (cc W D E n q j) (pw (mrk n j) (i - q))) n := by
 have hV8 : By (valsR W p) := fun x hx => zbt _ (fun i _ => zbe h.W8 (ex_lt i)) x (List.mem_reverse.1 hx)
 rw [toldF, zys, if_pos hi, zey hV8 hE, zqd (fun k => hV8.cf k) (fun k => hE.cf k)]
 unfold cv
 rw [zdo (fun l => gm (cf E l) (cf (valsR W p) (i - l))) (show E.length <= i + 1 by omega) fun l hl _ => by rw [zau _ _ hl, zac]]
 rw [zal E.length (g := fun l => gm (cf E l) (xs (fun j => gm (er W D j) (pw (mrk n j) (i - l))) n)) fun l hl => by rw [ztu (show i - l < p by omega), zzw h (show i - l < p by omega)]]
 rw [zui (zfk h) hE i (by omega)]
 refine zal _ fun j _ => ?_
 have e1 := zfk h j
 have e2 := zao (zbb n j) q
 have e3 := zao (zbb n j) (i - q)
 have e4 := zbe hE (zax (mrk n j))
 rw [cc, show pw (mrk n j) i = gm (pw (mrk n j) q) (pw (mrk n j) (i - q)) by rw [<- zlh (zbb n j), show q + (i - q) = i by omega],
  <- zah e1 e2 e3, zah (zaz e1 e2) e3 e4, zbf e3 e4, <- zah (zaz e1 e2) e4 e3]
theorem znm (h : Dec n p W D) {E : List Nat} (hE : By E) {q : Nat} (hEl : E.length <= q + 1) {R : List Nat} (hR : By R) {k : Nat} (hk : R.length <= k + 1) (hkp : q + k < p) :
  missF (toldF p (valsR W p) E) R q k = xs (fun j => gm (gm (cc W D E n q j) (pw (mrk n j) k)) (ev R (iv (mrk n j)))) n := by
 rw [<- zui (zlv h hE q) hR k hk]
 unfold missF
 refine zal _ fun l hl => ?_
 congr 1
 rw [fcI, if_neg (by omega), show ((q : Int) + (k : Int) - (l : Int)).toNat = q + k - l by omega, zbkn h hE hEl (by omega) (by omega), show q + k - l - q = k - l by omega]
end
end SolMath
namespace SolMath
open GfMath PolyMath RsMath
theorem zbdb (l : List Nat) : ∀ (s j : Nat), cf (l ++ List.replicate s 0) j = if j < s then 0 else cf l (j - s)
 | 0, j => by simp
 | s + 1, j => by
  rw [List.replicate_succ', <- List.append_assoc, zqb]
  by_cases h : j = 0
  .subst h; simp
  .rw [if_neg h, zbdb l s (j - 1)]
   by_cases h2 : j - 1 < s
   .rw [if_pos h2, if_pos (by omega)]
   .rw [if_neg h2, if_neg (by omega)]
    congr 1
    omega
theorem zyt (l : List Nat) (s j : Nat) : cf (shl l s) j = if j < s then 0 else cf l (j - s) := by
 unfold shl
 split
 .rename_i h
  have e : ∀ i, cf l i = 0 := fun i => by rw [<- zeb, List.eq_nil_of_length_eq_zero h]; exact zau _ _ (by simp)
  rw [zau _ _ (by simp), e]
  split <;> rfl
 .rw [zbdb]
  split
  .rfl
  .exact zeb l _
theorem ztt {q : Nat} (hq : q < 256) {l : List Nat} (hl : By l) (j : Nat) : cf (pms [[q], l]) j = gm q (cf l j) := by
 rw [zey (zea hq) hl]
 unfold cv
 rw [zdo (fun i => gm (cf [q] i) (cf l (j - i))) (show 1 <= j + 1 by omega) fun i h _ => by rw [zau _ _ (by simpa using h), zac]]
 show 0 ^^^ gm (cf [q] 0) (cf l (j - 0)) = _
 rw [Nat.zero_xor, Nat.sub_zero]
 rfl
theorem zmj (a b : List Nat) (k : Nat) : cf (addl [a, b]) k = cf a k ^^^ cf b k := by
 rw [zpy]
 simp [sumf]
theorem zla (T X : List Nat) (q k M : Nat) (h : X.length <= M) : missF T X q k = xs (fun j => gm (cf X j) (fcI T ((q : Int) + (k : Int) - (j : Int)))) M := by
 unfold missF
 exact (zdo _ h fun j hj _ => by rw [zau _ _ hj, zac]).symm
theorem zbfd {T R B : List Nat} (hT : By T) (hR : By R) (hB : By B) {c : Nat} (hc : c < 256) (s q k : Nat) (hs : s <= k) :
  missF T (addl [R, pms [[c], shl B s]]) q k = missF T R q k ^^^ gm c (missF T B q (k - s)) := by
 obtain ⟨M, hM⟩ : ∃ M, M = (addl [R, pms [[c], shl B s]]).length + R.length + B.length := ⟨_, rfl⟩
 rw [zla T _ q k (s + M) (by omega), zla T R q k (s + M) (by omega), zla T B q (k - s) M (by omega)]
 rw [show (fun j : Nat => gm (cf (addl [R, pms [[c], shl B s]]) j) (fcI T ((q : Int) + (k : Int) - (j : Int)))) = fun j => gm (cf R j) (fcI T ((q : Int) + (k : Int) - (j : Int))) ^^^ gm (if j < s then 0 else gm c (cf B (j - s))) (fcI T ((q : Int) + (k : Int) - (j : Int))) from funext fun j => by
  rw [zmj, ztt hc (zeg hB s), zyt, zas]
  split
  .rw [zag]
  .rfl]
 rw [zfv]
 congr 1
 rw [zfi, zcm (f := fun j => gm (if j < s then 0 else gm c (cf B (j - s))) (fcI T ((q : Int) + (k : Int) - (j : Int)))) s fun j hj => by rw [if_pos hj, zac], Nat.zero_xor, zds]
 refine zal _ fun j _ => ?_
 rw [if_neg (by omega), show s + j - s = j by omega, zah hc (hB.cf j) (zuj hT _)]
 congr 3
 omega
section
variable {n p : Nat} {W D : List Nat}
theorem disc (h : Dec n p W D) {E : List Nat} (hE : By E) {q t : Nat} (hEl : E.length <= q + 1) (ht : ocnt (cc W D E n q) n <= t) {R : List Nat} {L i : Nat} (hR : By R) (hRl : R.length <= L + 1) (hL : L <= i)
  (hgen : ∀ k, L <= k -> k < i -> missF (toldF p (valsR W p) E) R q k = 0) (hi : q + i < p) (hne : missF (toldF p (valsR W p) E) R q i ≠ 0) : i + 1 <= L + t := by
 refine Classical.byContradiction fun hc => hne ?_
 have hy : ∀ j, gm (cc W D E n q j) (ev R (iv (mrk n j))) < 256 := fun j => zaz (zlv h hE q j) (zbe hR (zax _))
 have hsw : ∀ k, xs (fun j => gm (gm (cc W D E n q j) (pw (mrk n j) k)) (ev R (iv (mrk n j)))) n = xs (fun j => gm (gm (cc W D E n q j) (ev R (iv (mrk n j)))) (pw (mrk n j) k)) n := fun k => zal _ fun j _ => by
  have e1 := zlv h hE q j
  have e2 := zao (zbb n j) k
  have e3 := zbe hR (zax (mrk n j))
  rw [zah e1 e2 e3, zbf e2 e3, <- zah e1 e3 e2]
 have h0 := vand (n := n) (t := t) (a := L) (y := fun j => gm (cc W D E n q j) (ev R (iv (mrk n j)))) h.n255 hy
  (Nat.le_trans (zql fun j _ hj e => hj (by show gm _ _ = 0; rw [e, zac])) ht) fun k hk => by
   rw [<- hsw, <- znm h hE hEl hR (by omega) (by omega)]
   exact hgen _ (by omega) (by omega)
 rw [znm h hE hEl hR (by omega) hi, hsw]
 exact zcm _ fun j hj => by rw [h0 j hj, zac]
structure BInv (T : List Nat) (q t i : Nat) (s : BM) : Prop where
 ok : BMok s i
 rl : s.rule.length <= s.size + 1
 r0 : cf s.rule 0 = 1
 l0 : cf s.last 0 = 1
 ll : s.last.length + s.since + s.size <= i + 2
 gen : ∀ k, s.size <= k -> k < i -> missF T s.rule q k = 0
 old : (s.since = i + 1 ∧ s.size = 0) ∨ (s.since <= i ∧ missF T s.last q (i - s.since) = s.miss ∧ ∀ k, k + s.since < i -> i + 1 <= k + s.since + s.size -> missF T s.last q k = 0)
 st : s.size <= t
theorem zbdc {l : List Nat} (h : cf l 0 = 1) : 1 <= l.length := by
 refine Classical.byContradiction fun hc => ?_
 rw [zau _ _ (by omega)] at h
 cases h
theorem zboe {d m : Nat} (hd : d < 256) (hm : m < 256) (h0 : m ≠ 0) : gm (gm d (iv m)) m = d := by
 rw [zah hd (zax _) hm, zbaz hm h0, zch hd]
theorem zwt (h : Dec n p W D) {E : List Nat} (hE : By E) {q t : Nat} (hEl : E.length <= q + 1) (ht : ocnt (cc W D E n q) n <= t) {i : Nat} (hi : q + i < p) {s : BM} (hI : BInv (toldF p (valsR W p) E) q t i s) :
  BInv (toldF p (valsR W p) E) q t (i + 1) (bmStep (toldF p (valsR W p) E) q i s) := by
 have hT : By (toldF p (valsR W p) E) := zdy (zbh (fun x hx => zbt _ (fun i _ => zbe h.W8 (ex_lt i)) x (List.mem_reverse.1 hx)) hE) p
 have hok := zrf hT q hI.ok
 obtain ⟨⟨r8, l8, m8, m0, rl', ll', s1, sz⟩, rl, r0, l0, ll, gen, old, st⟩ := hI
 by_cases hd : missF (toldF p (valsR W p) E) s.rule q i = 0
 .have e : bmStep (toldF p (valsR W p) E) q i s = { s with since := s.since + 1 } := if_pos hd
  rw [e] at hok ⊢
  refine ⟨hok, rl, r0, l0, by show s.last.length + (s.since + 1) + s.size <= _; omega, fun k h1 h2 => ?_, ?_, st⟩
  .by_cases e2 : k = i
   .rw [e2]; exact hd
   .exact gen k h1 (by omega)
  .rcases old with ⟨o1, o2⟩ | ⟨o1, o2, o3⟩
   .exact .inl ⟨by show s.since + 1 = _; omega, o2⟩
   .refine .inr ⟨by show s.since + 1 <= _; omega, ?_, fun k h1 h2 => o3 k ?_ ?_⟩
    .show missF _ s.last q (i + 1 - (s.since + 1)) = _
     rw [show i + 1 - (s.since + 1) = i - s.since by omega]; exact o2
    .have : k + (s.since + 1) < i + 1 := h1
     omega
    .have : i + 1 + 1 <= k + (s.since + 1) + s.size := h2
     omega
 .have hd8 : missF (toldF p (valsR W p) E) s.rule q i < 256 := zji hT r8 q i _
  have hlong := disc h hE hEl ht r8 rl sz gen hi hd
  have hl1 := zbdc l0
  have hq8 : gm (missF (toldF p (valsR W p) E) s.rule q i) (iv s.miss) < 256 := zaz hd8 (zax _)
  have hn0 : cf (nextF s (missF (toldF p (valsR W p) E) s.rule q i)) 0 = 1 := by
   unfold nextF
   rw [zmj, ztt hq8 (zeg l8 _), zyt, if_pos (by omega), zag, Nat.xor_zero]
   exact r0
  have hnl : (nextF s (missF (toldF p (valsR W p) E) s.rule q i)).length <= max (s.size + 1) (i + 2 - s.size) := by
   have h3 := zmh s.rule (pms [[gm (missF (toldF p (valsR W p) E) s.rule q i) (iv s.miss)], shl s.last s.since]); have h4 := zcz [gm (missF (toldF p (valsR W p) E) s.rule q i) (iv s.miss)] (shl s.last s.since); have h5 := zlm s.last s.since
   simp only [List.length_cons, List.length_nil] at h4
   unfold nextF
   omega
  have hgn : ∀ k, s.size <= k -> i + 1 - s.size <= k -> k < i + 1 -> missF (toldF p (valsR W p) E) (nextF s (missF (toldF p (valsR W p) E) s.rule q i)) q k = 0 := by
   intro k h1 h2 h3
   rcases old with ⟨o1, o2⟩ | ⟨o1, o2, o3⟩
   .omega
   .unfold nextF
    rw [zbfd hT r8 l8 hq8 s.since q k (by omega)]
    by_cases e : k = i
    .rw [e, o2, zboe hd8 m8 m0, Nat.xor_self]
    .rw [gen k h1 (by omega), o3 (k - s.since) (by omega) (by omega), zag]
     rfl
  by_cases hg : 2 * s.size <= i
  .have e : bmStep (toldF p (valsR W p) E) q i s = ⟨nextF s (missF (toldF p (valsR W p) E) s.rule q i), s.rule, missF (toldF p (valsR W p) E) s.rule q i, 1, i + 1 - s.size⟩ := by
    unfold bmStep
    rw [if_neg hd, if_pos hg]
   rw [e] at hok ⊢
   refine ⟨hok, by show (nextF s _).length <= i + 1 - s.size + 1; omega, hn0, r0, by show s.rule.length + 1 + (i + 1 - s.size) <= _; omega, fun k h1 h2 => ?_, ?_, by show i + 1 - s.size <= t; omega⟩
   .have h1' : i + 1 - s.size <= k := h1
    exact hgn k (by omega) h1' h2
   .refine .inr ⟨by show 1 <= _; omega, ?_, fun k h1 h2 => ?_⟩
    .show missF _ s.rule q (i + 1 - 1) = _
     rw [show i + 1 - 1 = i by omega]
    .have h1' : k + 1 < i + 1 := h1
     have h2' : i + 1 + 1 <= k + 1 + (i + 1 - s.size) := h2
     exact gen k (by omega) (by omega)
  .have e : bmStep (toldF p (valsR W p) E) q i s = ⟨nextF s (missF (toldF p (valsR W p) E) s.rule q i), s.last, s.miss, s.since + 1, s.size⟩ := by
    unfold bmStep
    rw [if_neg hd, if_neg hg]
   rw [e] at hok ⊢
   refine ⟨hok, by show (nextF s _).length <= s.size + 1; omega, hn0, l0, by show s.last.length + (s.since + 1) + s.size <= _; omega, fun k h1 h2 => ?_, ?_, st⟩
   .have h1' : s.size <= k := h1
    exact hgn k h1' (by omega) h2
   .rcases old with ⟨o1, o2⟩ | ⟨o1, o2, o3⟩
    .omega
    .refine .inr ⟨by show s.since + 1 <= _; omega, ?_, fun k h1 h2 => o3 k ?_ ?_⟩
     .show missF _ s.last q (i + 1 - (s.since + 1)) = _
      rw [show i + 1 - (s.since + 1) = i - s.since by omega]; exact o2
     .have : k + (s.since + 1) < i + 1 := h1
      omega
     .have : i + 1 + 1 <= k + (s.since + 1) + s.size := h2
      omega
theorem zbcv (h : Dec n p W D) {E : List Nat} (hE : By E) {q t : Nat} (hEl : E.length <= q + 1) (ht : ocnt (cc W D E n q) n <= t) : ∀ i, q + i <= p -> BInv (toldF p (valsR W p) E) q t i (bm (toldF p (valsR W p) E) q i)
 | 0, _ => ⟨zlu (zdy (zbh (fun x hx => zbt _ (fun i _ => zbe h.W8 (ex_lt i)) x (List.mem_reverse.1 hx)) hE) p) q 0, by show 1 <= 0 + 1; omega, rfl, rfl, by show 1 + 1 + 0 <= 0 + 2; omega, fun k _ h => absurd h (by omega), .inl ⟨rfl, rfl⟩, Nat.zero_le _⟩
 | i + 1, hi => zwt h hE hEl ht (by omega) (zbcv h hE hEl ht i (by omega))
theorem zuw (h : Dec n p W D) {E : List Nat} (hE : By E) {q t : Nat} (hEl : E.length <= q + 1) (ht : ocnt (cc W D E n q) n <= t) (hqt : q + 2 * t <= p) :
  (masseyF p (toldF p (valsR W p) E) q).length <= t + 1 ∧ cf (masseyF p (toldF p (valsR W p) E) q) 0 = 1 ∧ ∀ j, j < n -> cc W D E n q j ≠ 0 -> ev (masseyF p (toldF p (valsR W p) E) q) (iv (mrk n j)) = 0 := by
 have hI := zbcv h hE hEl ht (p - q) (by omega)
 obtain ⟨C, hC⟩ : ∃ C, masseyF p (toldF p (valsR W p) E) q = C := ⟨_, rfl⟩
 have hC2 : (bm (toldF p (valsR W p) E) q (p - q)).rule = C := hC
 obtain ⟨s, hs⟩ : ∃ s, bm (toldF p (valsR W p) E) q (p - q) = s := ⟨_, rfl⟩
 rw [hs] at hI hC2
 have hr8 := hI.ok.r8
 have hrl := hI.rl
 have hst := hI.st
 rw [hC]
 have hgen := hI.gen
 have hr0 := hI.r0
 rw [hC2] at hr8 hrl hgen hr0
 refine ⟨by omega, hr0, ?_⟩
 have hy : ∀ j, gm (cc W D E n q j) (ev C (iv (mrk n j))) < 256 := fun j => zaz (zlv h hE q j) (zbe hr8 (zax _))
 have h0 := vand (n := n) (t := t) (a := s.size) (y := fun j => gm (cc W D E n q j) (ev C (iv (mrk n j)))) h.n255 hy
  (Nat.le_trans (zql fun j _ hj e => hj (by show gm _ _ = 0; rw [e, zac])) ht) fun k hk => by
   have := hgen (s.size + k) (by omega) (by omega)
   rw [znm h hE hEl hr8 (by omega) (by omega)] at this
   rw [<- this]
   refine zal _ fun j _ => ?_
   have e1 := zlv h hE q j; have e2 := zao (zbb n j) (s.size + k); have e3 := zbe hr8 (zax (mrk n j)); rw [zah e1 e2 e3, zbf e2 e3, <- zah e1 e3 e2]
 intro j hj hc
 rcases gm_eq_zero (zlv h hE q j) (zbe hr8 (zax _)) (h0 j hj) with h1 | h1
 .exact absurd h1 hc
 .exact h1
end
end SolMath