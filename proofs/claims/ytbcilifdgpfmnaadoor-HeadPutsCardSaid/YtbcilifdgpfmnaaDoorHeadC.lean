/- read, Get of the program. -/
import Derived.Test.YtbcilifdgpfmnaaDoorHeadB
import Derived.Test.YtbcilifdgpfmnaaDoorSlice
import Derived.Test.YtbcilifdgpfmnaaDoorSliceT
namespace Go.Proofs.YtbcilifdgpfmnaaDoor
open Go.RowKit HeadMath NumMath
set_option linter.unusedVariables false
set_option maxRecDepth 100000

def sizesL : List Int := [2, 2, 2, 4]
theorem take_sizes (L : List UInt8) (h : 10 ≤ L.length) : takeR L sizesL = ([(val (L.take 2) : Int), (val ((L.drop 2).take 2) : Int), (val ((L.drop 4).take 2) : Int), (val ((L.drop 6).take 4) : Int)], 0) := by
  have e : nwidth sizesL = 10 := by decide
  rw [takeR_ok (by decide) (by rw [e]; exact h)]
  simp [nnums, sizesL, List.drop_drop]
theorem take_head (L M : List UInt8) (h : 48 ≤ L.length) (hM : M = L.drop 4 ∨ M = (L.drop 4).take 10) : takeR M sizesL = ([rA L, rB L, rC L, rN L], 0) := by
  rcases hM with rfl | rfl
  · rw [take_sizes _ (by rw [List.length_drop]; omega)]
    simp [rA, rB, rC, rN, List.drop_drop]
  · rw [take_sizes _ (by rw [List.length_take, List.length_drop]; omega)]
    simp [rA, rB, rC, rN, List.drop_drop, List.take_take, List.drop_take]
theorem zero_head : ∀ u, (zeroValue 27).run Tryd.prog u = .ok (.agg (hdv 0 0 0 0 (List.replicate 32 0)).toArray) u := fun u => by kernel_rfl
theorem built_head_zero : Tryd.prog.built 27 [] = some (hdv 0 0 0 0 (List.replicate 32 0)).toArray := by kernel_rfl
theorem built_head_len (n : Int) : Tryd.prog.built 27 [(1, .int .i64 n)] = some (hdv 0 0 0 n (List.replicate 32 0)).toArray := by kernel_rfl
theorem hd_one_int : One Tryd.prog 3 := One.of (by kernel_rfl)
theorem hd_one_byte : One Tryd.prog 5 := One.of (by kernel_rfl)
def buildOf (o : Oper) (a : Act) : Option (TypeId × List (Nat × Value)) := match o.guard, o.op with | none, .build t parts => some (t, (parts.map fun (i, x) => (i, a.eval x)).toList) | _, _ => none
theorem wpBuildK {P : Program} {ops : Array Oper} {rest : List Oper} {o : Oper} {a : Act} {w : World} {Q : Exit → Act → World → Prop} (l : List Value) (ty : TypeId) (ps : List (Nat × Value)) (hb : P.built ty ps = some l.toArray) (ho : buildOf o a = some (ty, ps))
    (k : wpList P ops Q rest (a.put o.dst (.agg l.toArray)) w) : wpList P ops Q (o :: rest) a w := by
  unfold buildOf at ho
  split at ho
  · rename_i t parts hg hop
    obtain ⟨rfl, e⟩ := Prod.mk.inj (Option.some.inj ho)
    refine wpList_build hg t parts hop (by rw [e, hb]; rfl) ?_
    rw [e, hb]
    exact k
  · cases ho
/-- copy(d, s) of the first n of s's elements: d has room for n alone. -/
theorem Lies.short {w : World} {B n : Nat} {a : Option Addr} {xs : List Value} (h : Lies w B a xs) : Lies w B a (xs.take n) := fun h0 => by
  obtain ⟨b, off, e1, e2, e3⟩ := h (by rw [List.length_take] at h0; omega)
  exact ⟨b, off, e1, e2, fun j u hu => e3 j u (by rw [List.getElem?_take] at hu; split at hu; exact hu; cases hu)⟩
section
variable {P : Program}
theorem Row.wpCopyCut {ops : Array Oper} {rest : List Oper} {o : Oper} {a : Act} {w : World} {Q : Exit → Act → World → Prop} {g i m n : Nat} {t T e : TypeId} {x y z news : List Value} {p : Option Addr} (h : Row w g t (x ++ y ++ z)) (hx0 : x.length = i) (T' : TypeId) (dCap sCap : Nat)
    (hT : P.underlying T = some (.slice e)) (he : One P e) (hs : Lies w w.heap.size p news) (hl : news.length = n) (hm : 0 < n) (hd : n ≤ m) (hy : y.length = n) (h1 : news.all (·.oneCell') = true)
    (ho : copyOf o a = some (T, T', .slice (some ⟨g, i, none⟩) n dCap, .slice p m sCap))
    (k : ∀ w', Row w' g t (x ++ news ++ z) → Only g w w' → w'.heap.size = w.heap.size → wpList P ops Q rest (a.put o.dst (.int .i64 (n : Int))) w') : wpList P ops Q (o :: rest) a w := by
  obtain ⟨ie, ze, hi, hz, h2, h3, h4⟩ := he.row
  obtain ⟨b, off, rfl, hb, hc⟩ := hs (by omega)
  obtain ⟨hg, p', q', hop, hp, hq⟩ := copyOf_spec ho
  refine wpList_plain hg fun K hK => ?_
  have hr := run_copy_row (P := P) w T T' o.type e g i n dCap ⟨b, off, none⟩ m sCap (x ++ y ++ z).toArray t news hT (by rw [hi]; simp [h2]) h (by rw [hl]; exact (Nat.min_eq_right hd).symm) (fun j u hj => by rw [Addr.add_mid]; exact hc j u hj)
    (by simp only [List.size_toArray, List.length_append]; omega) (fun v hv => (List.all_eq_true.1 h1) v hv)
  have hcur : ((x ++ y ++ z).toArray.toList.take i ++ news ++ (x ++ y ++ z).toArray.toList.drop (i + news.length)).toArray = (x ++ news ++ z).toArray := by
    congr 1
    have e1 : (x ++ y ++ z).toArray.toList = x ++ (y ++ z) := by simp
    rw [e1, List.take_left' hx0, show i + news.length = i + y.length by omega, ← hx0, ← List.drop_drop, List.drop_left, List.drop_left]
  rw [hcur, hl] at hr
  unfold Oper.wp execOp
  simp only [hop, resolve, invoke, builtin, Sem.run_bind, Sem.run_pure, Result.andThen_ok, List.map_toArray, List.map_cons, List.map_nil, hp, hq, hr]
  exact hK _ _ (k _ (h.put _) ((Only.refl g w).putRow g _ (Or.inl rfl)) (by simp))
end
theorem hdv_one_false : True := trivial

set_option maxHeartbeats 2000000 in
theorem head_read_any (s : ByteArray) (L : List UInt8) (a b c n : Int) (H : List UInt8) (w : World) (hL : s.data.toList = L) (hs : s.size ≤ 140737488355328) (h48 : 48 ≤ s.size) (ea : rA L = a) (eb : rB L = b) (ec : rC L = c) (en : rN L = n) (eH : rH L = H) :
    Calls Tryd.prog 18 #[.string s] w fun e w' => e = .returned (.agg (hdv a b c n H).toArray) ∧ Below w.heap.size w w' := by
  have hlen : s.data.toList.length = s.size := size_list s
  have hTK : takeR (L.drop 4) sizesL = ([a, b, c, n], 0) := by rw [take_head L _ (by rw [← hL, hlen]; exact h48) (Or.inl rfl), ea, eb, ec, en]
  obtain ⟨T, hT⟩ : ∃ T, s.extract 4 s.size = T := ⟨_, rfl⟩
  obtain ⟨T2, hT2⟩ : ∃ T, s.extract 14 s.size = T := ⟨_, rfl⟩
  have hTL : T.data.toList = L.drop 4 := by rw [← hT, num_drop_extract, hL]
  have hTL2 : T2.data.toList = L.drop 14 := by rw [← hT2, num_drop_extract, hL]
  have hTz : T.size ≤ 140737488355328 := by rw [← size_list, hTL, List.length_drop, ← hL, hlen]; omega
  have hT2z : 32 ≤ T2.size := by rw [← size_list, hTL2, List.length_drop, ← hL, hlen]; omega
  have HT2 : Hid (T2.data.toList.take 32 = H) := Lib.hid (by rw [hTL2, ← eH]; rfl)
  have HMN : Hid (Nat.min T2.size 32 = 32) := Lib.hid (Nat.min_eq_right hT2z)
  have lH : H.length = 32 := by rw [← eH]; exact rH_length L (by rw [← hL, hlen]; exact h48)
  have HTK : Hid (∀ u, Calls Tryd.prog 28 #[.string T, .slice (some ⟨u.heap.size, 0, none⟩) 4 4] (u.alloc (.cells #[.int .i64 2, .int .i64 2, .int .i64 2, .int .i64 4] 3)) fun e u' => ∃ p cap, e = .returned (.tuple #[.slice p 4 cap, .int .i64 0]) ∧ Lies u' u'.heap.size p (ints [a, b, c, n]) ∧ Below u.heap.size u u') := Lib.hid fun u =>
    (num_take_at T _ _ 4 4 sizesL [a, b, c, n] 0 (u.alloc (.cells #[.int .i64 2, .int .i64 2, .int .i64 2, .int .i64 4] 3)) hTL hTz rfl hTK (by omega) (Lies.new (ints sizesL) u 3)).mono fun e u' h => by
      obtain ⟨p, cap, h1, h2, h3⟩ := h
      exact ⟨p, cap, h1, h2, (alloc_below u _).next h3⟩
  obtain ⟨Z, hZ⟩ : ∃ Z, hdv 0 0 0 0 (List.replicate 32 0) = Z := ⟨_, rfl⟩
  have HZ : Hid (∀ u, (zeroValue 27).run Tryd.prog u = .ok (.agg Z.toArray) u) := Lib.hid (by rw [← hZ]; exact zero_head)
  have LZ : Hid (Z.length = 36) := Lib.hid (by rw [← hZ]; exact hdv_length _ _ _ _ _ (by simp))
  have LY : Hid ((hdv 0 0 0 n (List.replicate 32 0)).length = 36) := Lib.hid (hdv_length _ _ _ _ _ (by simp))
  have Y1 : Hid ((hdv 0 0 0 n (List.replicate 32 0)).all (·.oneCell') = true) := Lib.hid (hdv_one _ _ _ _ _)
  have LO : Hid ((bytes (List.replicate 32 0)).length = 32) := Lib.hid (by rw [bytes_length]; simp)
  have LV : Hid ((hdv a b c n H).length = 36) := Lib.hid (hdv_length _ _ _ _ _ lH)
  have V1 : Hid ((hdv a b c n H).all (·.oneCell') = true) := Lib.hid (hdv_one _ _ _ _ _)
  have I1 : Hid ((ints [a, b, c]).all (·.oneCell') = true) := Lib.hid rfl
  have h4 : 4 ≤ s.size := by omega
  have h14 : 14 ≤ s.size := by omega
  have h4i : (4 : Int) ≤ (s.size : Int) := by omega
  have h14i : (14 : Int) ≤ (s.size : Int) := by omega
  clear hlen hTK hTL hTL2 hTz hT2z lH hZ ea eb ec en eH hL h48
  go_enter Tryd.func18, Tryd.ntmps18
  go_wp2_with (first
    | ((with_reducible refine wpAllocK (w := w) Z 27 HZ.out ?_ ?_); rfl; intro u1 r1 b1 s1; have R1 := Lib.hid r1; have B1 := Lib.hid b1; clear r1 b1 s1)
    | (go_at_call 28; (with_reducible refine (HTK.out u1).mono ?_); rintro e u2 ⟨p, cap, rfl, l2, b2⟩; obtain ⟨gb, go, rfl, hgb, hgc⟩ := l2 (by show 0 < 4; omega); have L2 : Hid (Lies u2 u2.heap.size (some ⟨gb, go, none⟩) (ints [a, b, c, n])) := Lib.hid l2; have R2 := Lib.hid (R1.out.step b2); have B2 : Hid (Below w.heap.size w u2) := Lib.hid (B1.out.next b2); have cn : u2.cell? ⟨gb, go + 3, none⟩ = some (.int .i64 n) := hgc 3 _ rfl; clear hgc b2 l2)
    | ((with_reducible refine wpAllocK (w := u2) Z 27 HZ.out ?_ ?_); rfl; intro u3 r3 b3 s3; have K3 := Lib.hid r3; have L3 := Lib.hid (L2.out.below b3); have S3 : Hid (u2.heap.size ≤ u3.heap.size) := Lib.hid b3.size; have R3 := Lib.hid (R2.out.step b3); have B3 : Hid (Below w.heap.size w u3) := Lib.hid (B2.out.next b3); clear r3 b3 s3)
    | ((with_reducible refine K3.out.wpStoreK 27 (hdv 0 0 0 n (List.replicate 32 0)) fits_head LZ.out LY.out Y1.out ?_ ?_); rfl; intro u4 r4 o4 s4; have K4 : Hid (Row u4 u2.heap.size 27 ([] ++ [Value.int .i64 0, .int .i64 0, .int .i64 0] ++ (Value.int .i64 n :: bytes (List.replicate 32 0)))) := Lib.hid r4; have L4 : Hid (Lies u4 u4.heap.size (some ⟨gb, go, none⟩) (ints [a, b, c])) := Lib.hid (((L3.out.short (n := 3)).only o4 S3.out (Nat.le_refl _)).mono (Nat.le_trans S3.out o4.size)); have R4 := Lib.hid (R3.out.only o4 (by have := R2.out.lt; omega)); have B4 : Hid (Below w.heap.size w u4) := Lib.hid (B3.out.trans (o4.below B2.out.size B3.out.size)); clear r4 o4 s4)
    | ((with_reducible refine K4.out.wpCopyCut (i := 0) (m := 4) (n := 3) rfl 41 3 cap Tryd.underlying41 hd_one_int L4.out rfl (by decide) (by decide) rfl I1.out ?_ ?_); rfl; intro u5 r5 o5 s5; have K5 := Lib.hid r5; have R5 := Lib.hid (R4.out.only o5 (by have := R2.out.lt; omega)); have B5 : Hid (Below w.heap.size w u5) := Lib.hid (B4.out.trans (o5.below B2.out.size B4.out.size)); clear r5 o5 s5))
  go_still_tail 4, (by kernel_rfl)
  change wpList _ _ _ _ _ u5.drew
  have K6 : Hid (Row u5.drew u2.heap.size 27 ([Value.int .i64 a, .int .i64 b, .int .i64 c, .int .i64 n] ++ bytes (List.replicate 32 0) ++ [])) := Lib.hid (by rw [List.append_nil]; exact K5.out)
  have R6 := Lib.hid R5.out.drew
  have B6 : Hid (Below w.heap.size w u5.drew) := Lib.hid (B5.out.drewN 1)
  generalize u5.drew = u6 at *
  go_wp2_with (first
    | ((with_reducible refine K6.out.wpCopyK (i := 4) (s := T2) rfl 9 32 Tryd.underlying50 hd_one_byte HMN.out LO.out ?_ ?_); rfl; rw [HT2.out, List.append_nil]; intro u7 r7 o7 s7; have K7 : Hid (Row u7 u2.heap.size 27 (hdv a b c n H)) := Lib.hid r7; have R7 := Lib.hid (R6.out.only o7 (by have := R2.out.lt; omega)); have B7 : Hid (Below w.heap.size w u7) := Lib.hid (B6.out.trans (o7.below B2.out.size B6.out.size)); clear r7 o7 s7)
    | ((with_reducible refine K7.out.wpLoadK 27 fits_head LV.out ?_ ?_); rfl)
    | ((with_reducible refine R7.out.wpStoreK 27 (hdv a b c n H) fits_head LZ.out LV.out V1.out ?_ ?_); rfl; intro u8 r8 o8 s8; have R8 := Lib.hid r8; have O8 := Lib.hid o8; clear r8 o8 s8))
  exact bodyPost_ret (R8.out.result rfl _ _ rfl Tryd.underlying27 rfl (by rw [LV.out]; exact fits_head.size)) rfl ⟨rfl, B7.out.trans (O8.out.below (Nat.le_refl _) B7.out.size)⟩

end Go.Proofs.YtbcilifdgpfmnaaDoor
