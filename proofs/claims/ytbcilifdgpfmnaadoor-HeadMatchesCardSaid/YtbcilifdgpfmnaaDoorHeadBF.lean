/- The texts HeadB, HeadC, HeadD, HeadE, HeadF, one behind the other. -/
import Derived.Test.YtbcilifdgpfmnaaDoorHeadA
import Derived.Test.YtbcilifdgpfmnaaDoorShaY
import Derived.Test.YtbcilifdgpfmnaaDoorSlice
import Derived.Test.YtbcilifdgpfmnaaDoorSliceT
import Derived.Test.YtbcilifdgpfmnaaDoorResT
import Derived.Test.YtbcilifdgpfmnaaDoorOpK
import Derived.Test.YtbcilifdgpfmnaaDoorInvT
/- Put of the program. -/
namespace Go.Proofs.YtbcilifdgpfmnaaDoor
open Go.RowKit HeadMath NumMath
set_option linter.unusedVariables false
set_option maxRecDepth 100000

theorem fit_two {x : Int} (h : 0 ≤ x ∧ x ≤ 65535) : fitB 2 x = true := by
  unfold fitB
  rw [decide_eq_true_eq]
  have : (256 : Int) ^ (2 : Int).toNat = 65536 := by decide
  omega
theorem fit_four {x : Int} (h : 0 ≤ x ∧ x ≤ 16777215) : fitB 4 x = true := by
  unfold fitB
  rw [decide_eq_true_eq]
  have : (256 : Int) ^ (4 : Int).toNat = 4294967296 := by decide
  omega
theorem putR_ver {a b c n : Int} (h : hOk a b c n = true) : putR 2 [a, b, c] = (be 2 a.toNat ++ be 2 b.toNat ++ be 2 c.toNat, 0) := by
  obtain ⟨h1, h2, h3, h4⟩ := hOk_is h
  rw [putR_ok (okB_yes (by omega) (by omega)) (by simp [fitAll, fit_two h1, fit_two h2, fit_two h3])]
  simp [putBytes]
theorem putR_len {a b c n : Int} (h : hOk a b c n = true) : putR 4 [n] = (be 4 n.toNat, 0) := by
  obtain ⟨h1, h2, h3, h4⟩ := hOk_is h
  rw [putR_ok (okB_yes (by omega) (by omega)) (by simp [fitAll, fit_four h4])]
  simp [putBytes]
theorem hdv_ver (a b c n : Int) (H : List UInt8) (w : World) (g : Nat) (t : TypeId) (h : Row w g t (hdv a b c n H)) : Lies w w.heap.size (some ⟨g, 0, none⟩) (ints [a, b, c]) := by
  intro _
  refine ⟨g, 0, rfl, h.lt, fun j u hu => ?_⟩
  rw [Nat.zero_add, h.cell]
  have hj : j < 3 := by have := (List.getElem?_eq_some_iff.1 hu).1; simpa [ints] using this
  match j, hj with
  | 0, _ => exact hu
  | 1, _ => exact hu
  | 2, _ => exact hu
theorem hdv_hash (a b c n : Int) (H : List UInt8) (w : World) (g : Nat) (t : TypeId) (h : Row w g t (hdv a b c n H)) (j : Nat) (hj : j < H.length) : w.cell? ⟨g, 4 + j, none⟩ = some (.int .u8 (H[j].toNat : Int)) := by
  rw [h.cell, hdv, List.getElem?_append_right (by simp)]
  simpa using bytes_get H j hj

set_option maxHeartbeats 1000000 in
theorem head_put_yes (a b c n : Int) (H : List UInt8) (w : World) (hok : hOk a b c n = true) (hH : H.length = 32) :
    Calls Tryd.prog 6 #[.agg (hdv a b c n H).toArray] w fun e w' => e = .returned (.tuple #[.string (str (headB a b c n H)), .int .i64 0]) ∧ Below w.heap.size w w' := by
  obtain ⟨TV, hTV⟩ : ∃ T, str (be 2 a.toNat ++ be 2 b.toNat ++ be 2 c.toNat) = T := ⟨_, rfl⟩
  obtain ⟨TN, hTN⟩ : ∃ T, str (be 4 n.toNat) = T := ⟨_, rfl⟩
  obtain ⟨TH, hTH⟩ : ∃ T, str H = T := ⟨_, rfl⟩
  obtain ⟨TR, hTR⟩ : ∃ T, str (headB a b c n H) = T := ⟨_, rfl⟩
  have zV : TV.size = 6 := by rw [← hTV, str_size]; simp [be_length]
  have zN : TN.size = 4 := by rw [← hTN, str_size, be_length]
  have zH : TH.size = 32 := by rw [← hTH, str_size, hH]
  have HRES : Hid (({ data := #[84, 82, 73, 80] } : ByteArray) ++ TV ++ TN ++ TH ++ ({ data := #[0, 0] } : ByteArray) = TR) := Lib.hid (by
    rw [← hTV, ← hTN, ← hTH, ← hTR, show ({ data := #[84, 82, 73, 80] } : ByteArray) = str [84, 82, 73, 80] from rfl, show ({ data := #[0, 0] } : ByteArray) = str [0, 0] from rfl, str_append, str_append, str_append, str_append]
    rfl)
  have s1 : (({ data := #[84, 82, 73, 80] } : ByteArray)).size = 4 := rfl
  have s2 : (({ data := #[84, 82, 73, 80] } : ByteArray) ++ TV).size = 10 := by rw [ByteArray.size_append, zV]; rfl
  have s3 : (({ data := #[84, 82, 73, 80] } : ByteArray) ++ TV ++ TN).size = 14 := by rw [ByteArray.size_append, s2, zN]
  have s4 : (({ data := #[84, 82, 73, 80] } : ByteArray) ++ TV ++ TN ++ TH).size = 46 := by rw [ByteArray.size_append, s3, zH]
  have s5 : (({ data := #[0, 0] } : ByteArray)).size = 2 := rfl
  have HRT : Hid (∀ u, Calls Tryd.prog 8 #[.agg (hdv a b c n H).toArray] u fun e u' => e = .returned (.bool true) ∧ Below u.heap.size u u') := Lib.hid fun u => by rw [← hok]; exact head_right_any a b c n H u
  have HP1 : Hid (∀ u g t, Row u g t (hdv a b c n H) → Calls Tryd.prog 17 #[.int .i64 2, .slice (some ⟨g, 0, none⟩) 3 3] u fun e u' => e = .returned (.tuple #[.string TV, .int .i64 0]) ∧ Below u.heap.size u u') := Lib.hid fun u g t r => by
    rw [← hTV]; exact put_at 2 _ 3 3 [a, b, c] _ 0 u rfl (putR_ver hok) (by omega) (hdv_ver a b c n H u g t r)
  have HP2 : Hid (∀ u, Calls Tryd.prog 17 #[.int .i64 4, .slice (some ⟨u.heap.size, 0, none⟩) 1 1] (u.alloc (.cells #[.int .i64 n] 3)) fun e u' => e = .returned (.tuple #[.string TN, .int .i64 0]) ∧ Below u.heap.size u u') := Lib.hid fun u => by
    rw [← hTN]
    exact (put_at 4 _ 1 1 [n] _ 0 (u.alloc (.cells #[.int .i64 n] 3)) rfl (putR_len hok) (by omega) (Lies.new (ints [n]) u 3)).mono fun e u' h => ⟨h.1, (alloc_below u _).next h.2⟩
  have HC : Hid (∀ u g t, Row u g t (hdv a b c n H) → (convert 50 9 (.slice (some ⟨g, 4, none⟩) 32 32)).run Tryd.prog u = .ok (.string TH) u) := Lib.hid fun u g t r => by
    rw [← hTH]; exact conv_bytes g 4 32 H 32 u hH (hdv_hash a b c n H u g t r)
  have HL : Hid ((hdv a b c n H).length = 36) := Lib.hid (hdv_length a b c n H hH)
  rw [hTR]
  obtain ⟨V, hV⟩ : ∃ V, hdv a b c n H = V := ⟨_, rfl⟩
  have H3 : Hid (V[3]? = some (.int .i64 n)) := Lib.hid (by rw [← hV]; rfl)
  rw [hV] at HRT HP1 HC HL ⊢
  clear hok hH hTV hTN hTH hTR hV
  go_enter Tryd.func6, Tryd.ntmps6
  go_wp2_with (first
    | ((with_reducible refine wpBoxK V 27 ?_ ?_); rfl; intro u1 r1 b1 s1; have R1 := Lib.hid r1; have B1 := Lib.hid b1; clear r1 b1 s1)
    | ((with_reducible refine R1.out.wpLoadK 27 fits_head HL.out ?_ ?_); rfl)
    | (go_at_call 8; (with_reducible refine (HRT.out u1).mono ?_); rintro e u2 ⟨rfl, b2⟩; have R2 := Lib.hid (R1.out.step b2); have B2 : Hid (Below w.heap.size w u2) := Lib.hid (B1.out.next b2); clear b2)
    | (go_at_call 17; (with_reducible refine (HP1.out u2 _ _ R2.out).mono ?_); rintro e u3 ⟨rfl, b3⟩; have R3 := Lib.hid (R2.out.step b3); have B3 : Hid (Below w.heap.size w u3) := Lib.hid (B2.out.next b3); have c3 : u3.cell? ⟨w.heap.size, 3, none⟩ = some (.int .i64 n) := R3.out.cell 3 |>.trans H3.out; clear b3)
    | (go_at_call 17; (with_reducible refine (HP2.out u3).mono ?_); rintro e u4 ⟨rfl, b4⟩; have B4 : Hid (Below w.heap.size w u4) := Lib.hid (B3.out.next b4); have hconv := HC.out u4 _ _ (R3.out.step b4); clear b4))
  go_ret2
  exact ⟨by rw [HRES.out]; rfl, B4.out⟩

set_option maxHeartbeats 1000000 in
theorem head_put_no (a b c n : Int) (H : List UInt8) (w : World) (hok : hOk a b c n = false) (hH : H.length = 32) :
    Calls Tryd.prog 6 #[.agg (hdv a b c n H).toArray] w fun e w' => e = .returned (.tuple #[.string ByteArray.empty, .int .i64 1]) ∧ Below w.heap.size w w' := by
  have HRT : Hid (∀ u, Calls Tryd.prog 8 #[.agg (hdv a b c n H).toArray] u fun e u' => e = .returned (.bool false) ∧ Below u.heap.size u u') := Lib.hid fun u => by rw [← hok]; exact head_right_any a b c n H u
  have HL : Hid ((hdv a b c n H).length = 36) := Lib.hid (hdv_length a b c n H hH)
  obtain ⟨V, hV⟩ : ∃ V, hdv a b c n H = V := ⟨_, rfl⟩
  rw [hV] at HRT HL ⊢
  clear hok hH hV
  go_enter Tryd.func6, Tryd.ntmps6
  go_wp2_with (first
    | ((with_reducible refine wpBoxK V 27 ?_ ?_); rfl; intro u1 r1 b1 s1; have R1 := Lib.hid r1; have B1 := Lib.hid b1; clear r1 b1 s1)
    | ((with_reducible refine R1.out.wpLoadK 27 fits_head HL.out ?_ ?_); rfl)
    | (go_at_call 8; (with_reducible refine (HRT.out u1).mono ?_); rintro e u2 ⟨rfl, b2⟩; have B2 : Hid (Below w.heap.size w u2) := Lib.hid (B1.out.next b2); clear b2))
  go_ret2
  exact ⟨rfl, B2.out⟩

/-- Put, whatever the head. -/
theorem head_put_any (a b c n : Int) (H : List UInt8) (w : World) (hH : H.length = 32) (T : ByteArray) (E : Int) (h : (hOk a b c n = true ∧ T = str (headB a b c n H) ∧ E = 0) ∨ (hOk a b c n = false ∧ T = ByteArray.empty ∧ E = 1)) :
    Calls Tryd.prog 6 #[.agg (hdv a b c n H).toArray] w fun e w' => e = .returned (.tuple #[.string T, .int .i64 E]) ∧ Below w.heap.size w w' := by
  rcases h with ⟨h, rfl, rfl⟩ | ⟨h, rfl, rfl⟩
  · exact head_put_yes a b c n H w h hH
  · exact head_put_no a b c n H w h hH

end Go.Proofs.YtbcilifdgpfmnaaDoor

/- read, Get of the program. -/
namespace Go.Proofs.YtbcilifdgpfmnaaDoor
open Go.RowKit HeadMath NumMath
set_option linter.unusedVariables false
set_option maxRecDepth 100000

def sizesL : List Int := [2, 2, 2, 4]
theorem take_sizes (L : List UInt8) (h : 10 ≤ L.length) : takeR L sizesL = ([(val (L.take 2) : Int), (val ((L.drop 2).take 2) : Int), (val ((L.drop 4).take 2) : Int), (val ((L.drop 6).take 4) : Int)], 0) := by
  have e : nwidth sizesL = 10 := by decide
  rw [takeR_ok (by decide) (by rw [e]; exact h)]
  simp [nnums, sizesL, List.drop_drop]
theorem take_head (L M : List UInt8) (h : 48 ≤ L.length) (hM : M = L.drop 4 ∨ M = (L.drop 4).take 10) : takeR M sizesL = ([rA L, rB L, rC L, rN L], 0) := by
  rcases hM with rfl | rfl
  · rw [take_sizes _ (by rw [List.length_drop]; omega)]
    simp [rA, rB, rC, rN, List.drop_drop]
  · rw [take_sizes _ (by rw [List.length_take, List.length_drop]; omega)]
    simp [rA, rB, rC, rN, List.drop_drop, List.take_take, List.drop_take]
theorem zero_head : ∀ u, (zeroValue 27).run Tryd.prog u = .ok (.agg (hdv 0 0 0 0 (List.replicate 32 0)).toArray) u := fun u => by kernel_rfl
theorem built_head_zero : Tryd.prog.built 27 [] = some (hdv 0 0 0 0 (List.replicate 32 0)).toArray := by kernel_rfl
theorem built_head_len (n : Int) : Tryd.prog.built 27 [(1, .int .i64 n)] = some (hdv 0 0 0 n (List.replicate 32 0)).toArray := by kernel_rfl
theorem hd_one_int : One Tryd.prog 3 := One.of (by kernel_rfl)
theorem hd_one_byte : One Tryd.prog 5 := One.of (by kernel_rfl)
def buildOf (o : Oper) (a : Act) : Option (TypeId × List (Nat × Value)) := match o.guard, o.op with | none, .build t parts => some (t, (parts.map fun (i, x) => (i, a.eval x)).toList) | _, _ => none
theorem wpBuildK {P : Program} {ops : Array Oper} {rest : List Oper} {o : Oper} {a : Act} {w : World} {Q : Exit → Act → World → Prop} (l : List Value) (ty : TypeId) (ps : List (Nat × Value)) (hb : P.built ty ps = some l.toArray) (ho : buildOf o a = some (ty, ps))
    (k : wpList P ops Q rest (a.put o.dst (.agg l.toArray)) w) : wpList P ops Q (o :: rest) a w := by
  unfold buildOf at ho
  split at ho
  · rename_i t parts hg hop
    obtain ⟨rfl, e⟩ := Prod.mk.inj (Option.some.inj ho)
    refine wpList_build hg t parts hop (by rw [e, hb]; rfl) ?_
    rw [e, hb]
    exact k
  · cases ho
/-- copy(d, s) of the first n of s's elements: d has room for n alone. -/
theorem Lies.short {w : World} {B n : Nat} {a : Option Addr} {xs : List Value} (h : Lies w B a xs) : Lies w B a (xs.take n) := fun h0 => by
  obtain ⟨b, off, e1, e2, e3⟩ := h (by rw [List.length_take] at h0; omega)
  exact ⟨b, off, e1, e2, fun j u hu => e3 j u (by rw [List.getElem?_take] at hu; split at hu; exact hu; cases hu)⟩
section
variable {P : Program}
theorem Row.wpCopyCut {ops : Array Oper} {rest : List Oper} {o : Oper} {a : Act} {w : World} {Q : Exit → Act → World → Prop} {g i m n : Nat} {t T e : TypeId} {x y z news : List Value} {p : Option Addr} (h : Row w g t (x ++ y ++ z)) (hx0 : x.length = i) (T' : TypeId) (dCap sCap : Nat)
    (hT : P.underlying T = some (.slice e)) (he : One P e) (hs : Lies w w.heap.size p news) (hl : news.length = n) (hm : 0 < n) (hd : n ≤ m) (hy : y.length = n) (h1 : news.all (·.oneCell') = true)
    (ho : copyOf o a = some (T, T', .slice (some ⟨g, i, none⟩) n dCap, .slice p m sCap))
    (k : ∀ w', Row w' g t (x ++ news ++ z) → Only g w w' → w'.heap.size = w.heap.size → wpList P ops Q rest (a.put o.dst (.int .i64 (n : Int))) w') : wpList P ops Q (o :: rest) a w := by
  obtain ⟨ie, ze, hi, hz, h2, h3, h4⟩ := he.row
  obtain ⟨b, off, rfl, hb, hc⟩ := hs (by omega)
  obtain ⟨hg, p', q', hop, hp, hq⟩ := copyOf_spec ho
  refine wpList_plain hg fun K hK => ?_
  have hr := run_copy_row (P := P) w T T' o.type e g i n dCap ⟨b, off, none⟩ m sCap (x ++ y ++ z).toArray t news hT (by rw [hi]; simp [h2]) h (by rw [hl]; exact (Nat.min_eq_right hd).symm) (fun j u hj => by rw [Addr.add_mid]; exact hc j u hj)
    (by simp only [List.size_toArray, List.length_append]; omega) (fun v hv => (List.all_eq_true.1 h1) v hv)
  have hcur : ((x ++ y ++ z).toArray.toList.take i ++ news ++ (x ++ y ++ z).toArray.toList.drop (i + news.length)).toArray = (x ++ news ++ z).toArray := by
    congr 1
    have e1 : (x ++ y ++ z).toArray.toList = x ++ (y ++ z) := by simp
    rw [e1, List.take_left' hx0, show i + news.length = i + y.length by omega, ← hx0, ← List.drop_drop, List.drop_left, List.drop_left]
  rw [hcur, hl] at hr
  unfold Oper.wp execOp
  simp only [hop, resolve, invoke, builtin, Sem.run_bind, Sem.run_pure, Result.andThen_ok, List.map_toArray, List.map_cons, List.map_nil, hp, hq, hr]
  exact hK _ _ (k _ (h.put _) ((Only.refl g w).putRow g _ (Or.inl rfl)) (by simp))
end
theorem hdv_one_false : True := trivial

set_option maxHeartbeats 2000000 in
theorem head_read_any (s : ByteArray) (L : List UInt8) (a b c n : Int) (H : List UInt8) (w : World) (hL : s.data.toList = L) (hs : s.size ≤ 140737488355328) (h48 : 48 ≤ s.size) (ea : rA L = a) (eb : rB L = b) (ec : rC L = c) (en : rN L = n) (eH : rH L = H) :
    Calls Tryd.prog 18 #[.string s] w fun e w' => e = .returned (.agg (hdv a b c n H).toArray) ∧ Below w.heap.size w w' := by
  have hlen : s.data.toList.length = s.size := size_list s
  have hTK : takeR (L.drop 4) sizesL = ([a, b, c, n], 0) := by rw [take_head L _ (by rw [← hL, hlen]; exact h48) (Or.inl rfl), ea, eb, ec, en]
  obtain ⟨T, hT⟩ : ∃ T, s.extract 4 s.size = T := ⟨_, rfl⟩
  obtain ⟨T2, hT2⟩ : ∃ T, s.extract 14 s.size = T := ⟨_, rfl⟩
  have hTL : T.data.toList = L.drop 4 := by rw [← hT, num_drop_extract, hL]
  have hTL2 : T2.data.toList = L.drop 14 := by rw [← hT2, num_drop_extract, hL]
  have hTz : T.size ≤ 140737488355328 := by rw [← size_list, hTL, List.length_drop, ← hL, hlen]; omega
  have hT2z : 32 ≤ T2.size := by rw [← size_list, hTL2, List.length_drop, ← hL, hlen]; omega
  have HT2 : Hid (T2.data.toList.take 32 = H) := Lib.hid (by rw [hTL2, ← eH]; rfl)
  have HMN : Hid (Nat.min T2.size 32 = 32) := Lib.hid (Nat.min_eq_right hT2z)
  have lH : H.length = 32 := by rw [← eH]; exact rH_length L (by rw [← hL, hlen]; exact h48)
  have HTK : Hid (∀ u, Calls Tryd.prog 28 #[.string T, .slice (some ⟨u.heap.size, 0, none⟩) 4 4] (u.alloc (.cells #[.int .i64 2, .int .i64 2, .int .i64 2, .int .i64 4] 3)) fun e u' => ∃ p cap, e = .returned (.tuple #[.slice p 4 cap, .int .i64 0]) ∧ Lies u' u'.heap.size p (ints [a, b, c, n]) ∧ Below u.heap.size u u') := Lib.hid fun u =>
    (num_take_at T _ _ 4 4 sizesL [a, b, c, n] 0 (u.alloc (.cells #[.int .i64 2, .int .i64 2, .int .i64 2, .int .i64 4] 3)) hTL hTz rfl hTK (by omega) (Lies.new (ints sizesL) u 3)).mono fun e u' h => by
      obtain ⟨p, cap, h1, h2, h3⟩ := h
      exact ⟨p, cap, h1, h2, (alloc_below u _).next h3⟩
  obtain ⟨Z, hZ⟩ : ∃ Z, hdv 0 0 0 0 (List.replicate 32 0) = Z := ⟨_, rfl⟩
  have HZ : Hid (∀ u, (zeroValue 27).run Tryd.prog u = .ok (.agg Z.toArray) u) := Lib.hid (by rw [← hZ]; exact zero_head)
  have LZ : Hid (Z.length = 36) := Lib.hid (by rw [← hZ]; exact hdv_length _ _ _ _ _ (by simp))
  have LY : Hid ((hdv 0 0 0 n (List.replicate 32 0)).length = 36) := Lib.hid (hdv_length _ _ _ _ _ (by simp))
  have Y1 : Hid ((hdv 0 0 0 n (List.replicate 32 0)).all (·.oneCell') = true) := Lib.hid (hdv_one _ _ _ _ _)
  have LO : Hid ((bytes (List.replicate 32 0)).length = 32) := Lib.hid (by rw [bytes_length]; simp)
  have LV : Hid ((hdv a b c n H).length = 36) := Lib.hid (hdv_length _ _ _ _ _ lH)
  have V1 : Hid ((hdv a b c n H).all (·.oneCell') = true) := Lib.hid (hdv_one _ _ _ _ _)
  have I1 : Hid ((ints [a, b, c]).all (·.oneCell') = true) := Lib.hid rfl
  have h4 : 4 ≤ s.size := by omega
  have h14 : 14 ≤ s.size := by omega
  have h4i : (4 : Int) ≤ (s.size : Int) := by omega
  have h14i : (14 : Int) ≤ (s.size : Int) := by omega
  clear hlen hTK hTL hTL2 hTz hT2z lH hZ ea eb ec en eH hL h48
  go_enter Tryd.func18, Tryd.ntmps18
  go_wp2_with (first
    | ((with_reducible refine wpAllocK (w := w) Z 27 HZ.out ?_ ?_); rfl; intro u1 r1 b1 s1; have R1 := Lib.hid r1; have B1 := Lib.hid b1; clear r1 b1 s1)
    | (go_at_call 28; (with_reducible refine (HTK.out u1).mono ?_); rintro e u2 ⟨p, cap, rfl, l2, b2⟩; obtain ⟨gb, go, rfl, hgb, hgc⟩ := l2 (by show 0 < 4; omega); have L2 : Hid (Lies u2 u2.heap.size (some ⟨gb, go, none⟩) (ints [a, b, c, n])) := Lib.hid l2; have R2 := Lib.hid (R1.out.step b2); have B2 : Hid (Below w.heap.size w u2) := Lib.hid (B1.out.next b2); have cn : u2.cell? ⟨gb, go + 3, none⟩ = some (.int .i64 n) := hgc 3 _ rfl; clear hgc b2 l2)
    | ((with_reducible refine wpAllocK (w := u2) Z 27 HZ.out ?_ ?_); rfl; intro u3 r3 b3 s3; have K3 := Lib.hid r3; have L3 := Lib.hid (L2.out.below b3); have S3 : Hid (u2.heap.size ≤ u3.heap.size) := Lib.hid b3.size; have R3 := Lib.hid (R2.out.step b3); have B3 : Hid (Below w.heap.size w u3) := Lib.hid (B2.out.next b3); clear r3 b3 s3)
    | ((with_reducible refine K3.out.wpStoreK 27 (hdv 0 0 0 n (List.replicate 32 0)) fits_head LZ.out LY.out Y1.out ?_ ?_); rfl; intro u4 r4 o4 s4; have K4 : Hid (Row u4 u2.heap.size 27 ([] ++ [Value.int .i64 0, .int .i64 0, .int .i64 0] ++ (Value.int .i64 n :: bytes (List.replicate 32 0)))) := Lib.hid r4; have L4 : Hid (Lies u4 u4.heap.size (some ⟨gb, go, none⟩) (ints [a, b, c])) := Lib.hid (((L3.out.short (n := 3)).only o4 S3.out (Nat.le_refl _)).mono (Nat.le_trans S3.out o4.size)); have R4 := Lib.hid (R3.out.only o4 (by have := R2.out.lt; omega)); have B4 : Hid (Below w.heap.size w u4) := Lib.hid (B3.out.trans (o4.below B2.out.size B3.out.size)); clear r4 o4 s4)
    | ((with_reducible refine K4.out.wpCopyCut (i := 0) (m := 4) (n := 3) rfl 41 3 cap Tryd.underlying41 hd_one_int L4.out rfl (by decide) (by decide) rfl I1.out ?_ ?_); rfl; intro u5 r5 o5 s5; have K5 := Lib.hid r5; have R5 := Lib.hid (R4.out.only o5 (by have := R2.out.lt; omega)); have B5 : Hid (Below w.heap.size w u5) := Lib.hid (B4.out.trans (o5.below B2.out.size B4.out.size)); clear r5 o5 s5))
  go_still_tail 4, (by kernel_rfl)
  change wpList _ _ _ _ _ u5.drew
  have K6 : Hid (Row u5.drew u2.heap.size 27 ([Value.int .i64 a, .int .i64 b, .int .i64 c, .int .i64 n] ++ bytes (List.replicate 32 0) ++ [])) := Lib.hid (by rw [List.append_nil]; exact K5.out)
  have R6 := Lib.hid R5.out.drew
  have B6 : Hid (Below w.heap.size w u5.drew) := Lib.hid (B5.out.drewN 1)
  generalize u5.drew = u6 at *
  go_wp2_with (first
    | ((with_reducible refine K6.out.wpCopyK (i := 4) (s := T2) rfl 9 32 Tryd.underlying50 hd_one_byte HMN.out LO.out ?_ ?_); rfl; rw [HT2.out, List.append_nil]; intro u7 r7 o7 s7; have K7 : Hid (Row u7 u2.heap.size 27 (hdv a b c n H)) := Lib.hid r7; have R7 := Lib.hid (R6.out.only o7 (by have := R2.out.lt; omega)); have B7 : Hid (Below w.heap.size w u7) := Lib.hid (B6.out.trans (o7.below B2.out.size B6.out.size)); clear r7 o7 s7)
    | ((with_reducible refine K7.out.wpLoadK 27 fits_head LV.out ?_ ?_); rfl)
    | ((with_reducible refine R7.out.wpStoreK 27 (hdv a b c n H) fits_head LZ.out LV.out V1.out ?_ ?_); rfl; intro u8 r8 o8 s8; have R8 := Lib.hid r8; have O8 := Lib.hid o8; clear r8 o8 s8))
  exact bodyPost_ret (R8.out.result rfl _ _ rfl Tryd.underlying27 rfl (by rw [LV.out]; exact fits_head.size)) rfl ⟨rfl, B7.out.trans (O8.out.below (Nat.le_refl _) B7.out.size)⟩

end Go.Proofs.YtbcilifdgpfmnaaDoor

/- Get of the program. -/
namespace Go.Proofs.YtbcilifdgpfmnaaDoor
open Go.RowKit HeadMath NumMath
set_option linter.unusedVariables false
set_option maxRecDepth 100000

theorem isH_take {L : List UInt8} (h : isH L = true) : hOk (rA L) (rB L) (rC L) (rN L) = true ∧ headB (rA L) (rB L) (rC L) (rN L) (rH L) = L.take 48 := by
  simpa [isH] using h
theorem isH_no {L : List UInt8} (h : isH L = false) (ho : hOk (rA L) (rB L) (rC L) (rN L) = true) : headB (rA L) (rB L) (rC L) (rN L) (rH L) ≠ L.take 48 := by
  simpa [isH, ho] using h
theorem text_empty : ByteArray.empty = str [] := rfl

/-- Of too few bytes. -/
theorem head_get_short (s : ByteArray) (w : World) (hs : s.size < 48) :
    Calls Tryd.prog 9 #[.string s] w fun e w' => e = .returned (.tuple #[.agg (hdv 0 0 0 0 (List.replicate 32 0)).toArray, .int .i64 13]) ∧ Below w.heap.size w w' := by
  have LY : Hid ((hdv 0 0 0 0 (List.replicate 32 0)).length = 36) := Lib.hid (hdv_length _ _ _ _ _ (by simp))
  have Y1 : Hid ((hdv 0 0 0 0 (List.replicate 32 0)).all (·.oneCell') = true) := Lib.hid (hdv_one _ _ _ _ _)
  have hsi : (s.size : Int) < 48 := by omega
  clear hs
  go_enter Tryd.func9, Tryd.ntmps9
  go_wp2_with (first
    | ((with_reducible refine wpAllocK (w := w) (hdv 0 0 0 0 (List.replicate 32 0)) 27 zero_head ?_ ?_); rfl; intro u1 r1 b1 s1; have R1 := Lib.hid r1; have B1 := Lib.hid b1; clear r1 b1 s1)
    | ((with_reducible refine R1.out.wpStoreK 27 (hdv 0 0 0 0 (List.replicate 32 0)) fits_head LY.out LY.out Y1.out ?_ ?_); rfl; intro u2 r2 o2 s2; have R2 := Lib.hid r2; have O2 := Lib.hid o2; clear r2 o2 s2))
  exact bodyPost_ret (R2.out.resultT rfl _ _ rfl Tryd.underlying27 rfl (by rw [LY.out]; exact fits_head.size)) rfl ⟨rfl, B1.out.trans (O2.out.below (Nat.le_refl _) B1.out.size)⟩

set_option maxHeartbeats 1000000 in
/-- Of bytes enough: F is what the program finds (ok: the head, else none). -/
theorem head_get_long (s : ByteArray) (L : List UInt8) (w : World) (hL : s.data.toList = L) (hs : s.size ≤ 140737488355328) (h48 : 48 ≤ s.size) :
    Calls Tryd.prog 9 #[.string s] w fun e w' => (isH L = true → e = .returned (.tuple #[.agg (hdv (rA L) (rB L) (rC L) (rN L) (rH L)).toArray, .int .i64 0])) ∧ (isH L = false → e = .returned (.tuple #[.agg (hdv 0 0 0 0 (List.replicate 32 0)).toArray, .int .i64 6])) ∧ Below w.heap.size w w' := by
  have lH : (rH L).length = 32 := rH_length L (by rw [← hL, size_list]; exact h48)
  have HRD : Hid (∀ u, Calls Tryd.prog 18 #[.string s] u fun e u' => e = .returned (.agg (hdv (rA L) (rB L) (rC L) (rN L) (rH L)).toArray) ∧ Below u.heap.size u u') := Lib.hid fun u => head_read_any s L _ _ _ _ _ u hL hs h48 rfl rfl rfl rfl rfl
  obtain ⟨T, E, hT⟩ : ∃ (T : ByteArray) (E : Int), (hOk (rA L) (rB L) (rC L) (rN L) = true ∧ T = str (headB (rA L) (rB L) (rC L) (rN L) (rH L)) ∧ E = 0) ∨ (hOk (rA L) (rB L) (rC L) (rN L) = false ∧ T = ByteArray.empty ∧ E = 1) := by
    cases h : hOk (rA L) (rB L) (rC L) (rN L) with
    | true => exact ⟨_, _, .inl ⟨rfl, rfl, rfl⟩⟩
    | false => exact ⟨_, _, .inr ⟨rfl, rfl, rfl⟩⟩
  have HPT : Hid (∀ u, Calls Tryd.prog 6 #[.agg (hdv (rA L) (rB L) (rC L) (rN L) (rH L)).toArray] u fun e u' => e = .returned (.tuple #[.string T, .int .i64 E]) ∧ Below u.heap.size u u') := Lib.hid fun u => head_put_any _ _ _ _ _ u lH T E hT
  obtain ⟨X, hX⟩ : ∃ X, s.extract 0 48 = X := ⟨_, rfl⟩
  have hXL : X.data.toList = L.take 48 := by rw [← hX, num_take_extract, hL]
  have LZ : Hid ((hdv 0 0 0 0 (List.replicate 32 0)).length = 36) := Lib.hid (hdv_length _ _ _ _ _ (by simp))
  have Z1 : Hid ((hdv 0 0 0 0 (List.replicate 32 0)).all (·.oneCell') = true) := Lib.hid (hdv_one _ _ _ _ _)
  have HYES : isH L = true → T = X := fun h => by
    obtain ⟨h1, h2⟩ := isH_take h
    rcases hT with ⟨_, rfl, _⟩ | ⟨h3, _⟩
    · rw [← str_of X, hXL, h2]
    · rw [h1] at h3; cases h3
  have HNO : isH L = false → T ≠ X := fun h hTX => by
    rcases hT with ⟨h1, rfl, _⟩ | ⟨_, rfl, _⟩
    · refine isH_no h h1 ?_
      rw [← hXL, ← hTX, str_list]
    · rw [← hTX] at hXL
      have h0 : L.length = s.size := by rw [← hL, size_list]
      have := congrArg List.length hXL
      rw [List.length_take, h0] at this
      have e : ByteArray.empty.data.toList.length = 0 := rfl
      omega
  obtain ⟨V, hV⟩ : ∃ V, hdv (rA L) (rB L) (rC L) (rN L) (rH L) = V := ⟨_, rfl⟩
  have LV : Hid (V.length = 36) := Lib.hid (by rw [← hV]; exact hdv_length _ _ _ _ _ lH)
  have V1 : Hid (V.all (·.oneCell') = true) := Lib.hid (by rw [← hV]; exact hdv_one _ _ _ _ _)
  rw [hV] at HRD HPT ⊢
  have h48i : (48 : Int) ≤ (s.size : Int) := by omega
  have hlt : decide ((s.size : Int) < 48) = false := by rw [decide_eq_false_iff_not]; omega
  obtain ⟨bb, hbb⟩ : ∃ bb, isH L = bb := ⟨_, rfl⟩
  rw [hbb]
  cases bb with
  | true =>
    have hEQ : (T.toList == X.toList) = true := beq_yes (HYES hbb)
    clear hL hs hT hXL HYES HNO hV lH hbb
    go_enter Tryd.func9, Tryd.ntmps9
    go_wp2_with (first
      | ((with_reducible refine wpAllocK (w := w) (hdv 0 0 0 0 (List.replicate 32 0)) 27 zero_head ?_ ?_); rfl; intro u1 r1 b1 s1; have R1 := Lib.hid r1; have B1 := Lib.hid b1; clear r1 b1 s1)
      | (go_at_call 18; (with_reducible refine (HRD.out u1).mono ?_); rintro e u2 ⟨rfl, b2⟩; have R2 := Lib.hid (R1.out.step b2); have B2 : Hid (Below w.heap.size w u2) := Lib.hid (B1.out.next b2); clear b2)
      | ((with_reducible refine wpAllocK (w := u2) (hdv 0 0 0 0 (List.replicate 32 0)) 27 zero_head ?_ ?_); rfl; intro u3 r3 b3 s3; have K3 := Lib.hid r3; have R3 := Lib.hid (R2.out.step b3); have B3 : Hid (Below w.heap.size w u3) := Lib.hid (B2.out.next b3); clear r3 b3 s3)
      | ((with_reducible refine K3.out.wpStoreK 27 V fits_head LZ.out LV.out V1.out ?_ ?_); rfl; intro u4 r4 o4 s4; have K4 := Lib.hid r4; have R4 := Lib.hid (R3.out.only o4 (by have := R2.out.lt; omega)); have B4 : Hid (Below w.heap.size w u4) := Lib.hid (B3.out.trans (o4.below B2.out.size B3.out.size)); clear r4 o4 s4)
      | ((with_reducible refine K4.out.wpLoadK 27 fits_head LV.out ?_ ?_); rfl)
      | (go_at_call 6; (with_reducible refine (HPT.out u4).mono ?_); rintro e u5 ⟨rfl, b5⟩; have K5 := Lib.hid (K4.out.step b5); have R5 := Lib.hid (R4.out.step b5); have B5 : Hid (Below w.heap.size w u5) := Lib.hid (B4.out.next b5); clear b5)
      | ((with_reducible refine K5.out.wpLoadK 27 fits_head LV.out ?_ ?_); rfl)
      | ((with_reducible refine R5.out.wpStoreK 27 V fits_head LZ.out LV.out V1.out ?_ ?_); rfl; intro u6 r6 o6 s6; have R6 := Lib.hid r6; have O6 := Lib.hid o6; clear r6 o6 s6))
    exact bodyPost_ret (R6.out.resultT rfl _ _ rfl Tryd.underlying27 rfl (by rw [LV.out]; exact fits_head.size)) rfl ⟨fun _ => rfl, fun h => (by simp at h), B5.out.trans (O6.out.below (Nat.le_refl _) B5.out.size)⟩
  | false =>
    have hEQ : (T.toList == X.toList) = false := beq_no (HNO hbb)
    clear hL hs hT hXL HYES HNO hV lH hbb
    go_enter Tryd.func9, Tryd.ntmps9
    go_wp2_with (first
      | ((with_reducible refine wpAllocK (w := w) (hdv 0 0 0 0 (List.replicate 32 0)) 27 zero_head ?_ ?_); rfl; intro u1 r1 b1 s1; have R1 := Lib.hid r1; have B1 := Lib.hid b1; clear r1 b1 s1)
      | (go_at_call 18; (with_reducible refine (HRD.out u1).mono ?_); rintro e u2 ⟨rfl, b2⟩; have R2 := Lib.hid (R1.out.step b2); have B2 : Hid (Below w.heap.size w u2) := Lib.hid (B1.out.next b2); clear b2)
      | ((with_reducible refine wpAllocK (w := u2) (hdv 0 0 0 0 (List.replicate 32 0)) 27 zero_head ?_ ?_); rfl; intro u3 r3 b3 s3; have K3 := Lib.hid r3; have R3 := Lib.hid (R2.out.step b3); have B3 : Hid (Below w.heap.size w u3) := Lib.hid (B2.out.next b3); clear r3 b3 s3)
      | ((with_reducible refine K3.out.wpStoreK 27 V fits_head LZ.out LV.out V1.out ?_ ?_); rfl; intro u4 r4 o4 s4; have K4 := Lib.hid r4; have R4 := Lib.hid (R3.out.only o4 (by have := R2.out.lt; omega)); have B4 : Hid (Below w.heap.size w u4) := Lib.hid (B3.out.trans (o4.below B2.out.size B3.out.size)); clear r4 o4 s4)
      | ((with_reducible refine K4.out.wpLoadK 27 fits_head LV.out ?_ ?_); rfl)
      | (go_at_call 6; (with_reducible refine (HPT.out u4).mono ?_); rintro e u5 ⟨rfl, b5⟩; have K5 := Lib.hid (K4.out.step b5); have R5 := Lib.hid (R4.out.step b5); have B5 : Hid (Below w.heap.size w u5) := Lib.hid (B4.out.next b5); clear b5)
      | ((with_reducible refine R5.out.wpStoreK 27 (hdv 0 0 0 0 (List.replicate 32 0)) fits_head LZ.out LZ.out Z1.out ?_ ?_); rfl; intro u6 r6 o6 s6; have R6 := Lib.hid r6; have O6 := Lib.hid o6; clear r6 o6 s6))
    exact bodyPost_ret (R6.out.resultT rfl _ _ rfl Tryd.underlying27 rfl (by rw [LZ.out]; exact fits_head.size)) rfl ⟨fun h => (by simp at h), fun _ => rfl, B5.out.trans (O6.out.below (Nat.le_refl _) B5.out.size)⟩

/-- Get, whatever the bytes: V, E as said. -/
def GetIs (L : List UInt8) (V : List Value) (E : Int) : Prop :=
  (L.length < 48 ∧ V = hdv 0 0 0 0 (List.replicate 32 0) ∧ E = 13) ∨ (48 ≤ L.length ∧ isH L = true ∧ V = hdv (rA L) (rB L) (rC L) (rN L) (rH L) ∧ E = 0) ∨ (48 ≤ L.length ∧ isH L = false ∧ V = hdv 0 0 0 0 (List.replicate 32 0) ∧ E = 6)
theorem GetIs.one (L : List UInt8) : ∃ V E, GetIs L V E := by
  by_cases h : L.length < 48
  · exact ⟨_, _, .inl ⟨h, rfl, rfl⟩⟩
  · cases hh : isH L with
    | true => exact ⟨_, _, .inr (.inl ⟨by omega, hh, rfl, rfl⟩)⟩
    | false => exact ⟨_, _, .inr (.inr ⟨by omega, hh, rfl, rfl⟩)⟩
theorem head_get_any (s : ByteArray) (L : List UInt8) (V : List Value) (E : Int) (w : World) (hL : s.data.toList = L) (hs : s.size ≤ 140737488355328) (h : GetIs L V E) :
    Calls Tryd.prog 9 #[.string s] w fun e w' => e = .returned (.tuple #[.agg V.toArray, .int .i64 E]) ∧ Below w.heap.size w w' := by
  have hz : L.length = s.size := by rw [← hL, size_list]
  rcases h with ⟨h1, rfl, rfl⟩ | ⟨h1, h2, rfl, rfl⟩ | ⟨h1, h2, rfl, rfl⟩
  · exact head_get_short s w (by omega)
  · exact (head_get_long s L w hL hs (by omega)).mono fun e w' h => ⟨h.1 h2, h.2.2⟩
  · exact (head_get_long s L w hL hs (by omega)).mono fun e w' h => ⟨h.2.1 h2, h.2.2⟩
end Go.Proofs.YtbcilifdgpfmnaaDoor

/- The document's Put, of a right head. -/
namespace Go.Proofs.YtbcilifdgpfmnaaDoor
open Go.RowKit HeadMath NumMath
set_option linter.unusedVariables false
set_option maxRecDepth 100000

set_option maxHeartbeats 1000000 in
theorem rhead_put_any (a b c n : Int) (H : List UInt8) (w : World) (hok : hOk a b c n = true) (hH : H.length = 32) :
    Calls Tryd.prog 10 #[.agg (hdv a b c n H).toArray] w fun e w' => e = .returned (.string (str (headB a b c n H))) ∧ Below w.heap.size w w' := by
  obtain ⟨h1, h2, h3, h4⟩ := hOk_is hok
  obtain ⟨TV, hTV⟩ : ∃ T, str (be 2 a.toNat ++ be 2 b.toNat ++ be 2 c.toNat) = T := ⟨_, rfl⟩
  obtain ⟨TN, hTN⟩ : ∃ T, str (be 4 n.toNat) = T := ⟨_, rfl⟩
  obtain ⟨TH, hTH⟩ : ∃ T, str H = T := ⟨_, rfl⟩
  obtain ⟨TR, hTR⟩ : ∃ T, str (headB a b c n H) = T := ⟨_, rfl⟩
  have zV : TV.size = 6 := by rw [← hTV, str_size]; simp [be_length]
  have zN : TN.size = 4 := by rw [← hTN, str_size, be_length]
  have zH : TH.size = 32 := by rw [← hTH, str_size, hH]
  have HRES : Hid (({ data := #[84, 82, 73, 80] } : ByteArray) ++ TV ++ TN ++ TH ++ str [0, 0] = TR) := Lib.hid (by
    rw [← hTV, ← hTN, ← hTH, ← hTR, show ({ data := #[84, 82, 73, 80] } : ByteArray) = str [84, 82, 73, 80] from rfl, str_append, str_append, str_append, str_append]
    rfl)
  have s1 : (({ data := #[84, 82, 73, 80] } : ByteArray)).size = 4 := rfl
  have s2 : (({ data := #[84, 82, 73, 80] } : ByteArray) ++ TV).size = 10 := by rw [ByteArray.size_append, zV]; rfl
  have s3 : (({ data := #[84, 82, 73, 80] } : ByteArray) ++ TV ++ TN).size = 14 := by rw [ByteArray.size_append, s2, zN]
  have s4 : (({ data := #[84, 82, 73, 80] } : ByteArray) ++ TV ++ TN ++ TH).size = 46 := by rw [ByteArray.size_append, s3, zH]
  have s5 : (str [0, 0]).size = 2 := rfl
  have HP1 : Hid (∀ u, Calls Tryd.prog 19 #[.int .i64 2, .slice (some ⟨u.heap.size, 0, none⟩) 3 3] (u.alloc (.cells #[.int .i64 a, .int .i64 b, .int .i64 c] 3)) fun e u' => e = .returned (.tuple #[.string TV, .int .i64 0]) ∧ Below u.heap.size u u') := Lib.hid fun u => by
    rw [← hTV]
    exact (num_refPut_at 2 _ 3 3 [a, b, c] _ 0 (u.alloc (.cells #[.int .i64 a, .int .i64 b, .int .i64 c] 3)) rfl (putR_ver hok) (by omega) (by intro x hx; simp at hx; omega) (Lies.new (ints [a, b, c]) u 3)).mono fun e u' h => ⟨h.1, (alloc_below u _).next h.2⟩
  have HP2 : Hid (∀ u, Calls Tryd.prog 19 #[.int .i64 4, .slice (some ⟨u.heap.size, 0, none⟩) 1 1] (u.alloc (.cells #[.int .i64 n] 3)) fun e u' => e = .returned (.tuple #[.string TN, .int .i64 0]) ∧ Below u.heap.size u u') := Lib.hid fun u => by
    rw [← hTN]
    exact (num_refPut_at 4 _ 1 1 [n] _ 0 (u.alloc (.cells #[.int .i64 n] 3)) rfl (putR_len hok) (by omega) (by intro x hx; simp at hx; omega) (Lies.new (ints [n]) u 3)).mono fun e u' h => ⟨h.1, (alloc_below u _).next h.2⟩
  have HTH := Lib.hid hTH
  have LH := Lib.hid hH
  rw [hTR]
  obtain ⟨V, hV⟩ : ∃ V, hdv a b c n H = V := ⟨_, rfl⟩
  have H0 : Hid (V[0]? = some (.int .i64 a)) := Lib.hid (by rw [← hV]; rfl)
  have H1 : Hid (V[1]? = some (.int .i64 b)) := Lib.hid (by rw [← hV]; rfl)
  have H2 : Hid (V[2]? = some (.int .i64 c)) := Lib.hid (by rw [← hV]; rfl)
  have H3 : Hid (V[3]? = some (.int .i64 n)) := Lib.hid (by rw [← hV]; rfl)
  have HCC : Hid (∀ u g t, Row u g t V → ∀ (j : Nat) (hj : j < H.length), u.cell? ⟨g, 4 + j, none⟩ = some (.int .u8 (H[j].toNat : Int))) := Lib.hid (by rw [← hV]; exact fun u g t r j hj => hdv_hash a b c n H u g t r j hj)
  rw [hV]
  clear hok hH hTV hTN hTH hTR hV h1 h2 h3 h4
  go_enter Tryd.func10, Tryd.ntmps10
  go_wp2_with (first
    | ((with_reducible refine wpBoxK V 29 ?_ ?_); rfl; intro u1 r1 b1 s1; have R1 := Lib.hid r1; have B1 := Lib.hid b1; have c0 : u1.cell? ⟨w.heap.size, 0, none⟩ = some (.int .i64 a) := (r1.cell 0).trans H0.out; have c1 : u1.cell? ⟨w.heap.size, 1, none⟩ = some (.int .i64 b) := (r1.cell 1).trans H1.out; have c2 : u1.cell? ⟨w.heap.size, 2, none⟩ = some (.int .i64 c) := (r1.cell 2).trans H2.out; have hbs : w.heap.size < u1.heap.size := r1.lt; clear r1 b1 s1)
    | (go_at_call 19; (with_reducible refine (HP1.out u1).mono ?_); rintro e u3 ⟨rfl, b3⟩; have R3 := Lib.hid (R1.out.step b3); have B3 : Hid (Below w.heap.size w u3) := Lib.hid (B1.out.next b3); have c3 : u3.cell? ⟨w.heap.size, 3, none⟩ = some (.int .i64 n) := (R3.out.cell 3).trans H3.out; clear b3)
    | (go_at_call 19; (with_reducible refine (HP2.out u3).mono ?_); rintro e u4 ⟨rfl, b4⟩; have B4 : Hid (Below w.heap.size w u4) := Lib.hid (B3.out.next b4); have R4 := Lib.hid (R3.out.step b4); clear b4))
  have hown0 : (u4.alloc (.cells #[] 5)).ownsRow u4.heap.size 5 1 (.slice (some ⟨u4.heap.size, 0, none⟩) 0 0) 0 (bytes (H.take 0)) := by
    have h1 : Row (u4.alloc (.cells #[] 5)) u4.heap.size 5 ([] ++ []) := Row.new u4 _ []
    have := h1.owns (base := u4.heap.size) (n := 0) (cap := 0) (Nat.le_refl _) rfl rfl (by omega) (by unfold maxLen; omega)
    simpa [bytes] using this
  have hr1 := R4.out.step (alloc_below u4 (.cells #[] 5))
  have hb1 := B4.out.next (alloc_below u4 (.cells #[] 5))
  have hz1 : u4.heap.size ≤ (u4.alloc (.cells #[] 5)).heap.size := (alloc_below u4 (.cells #[] 5)).size
  have HOWN := Lib.hid hown0
  have HR := Lib.hid hr1
  have HB := Lib.hid hb1
  have HZ := Lib.hid hz1
  obtain ⟨M, hM⟩ : ∃ M, M = u4.heap.size := ⟨_, rfl⟩
  have hMw : w.heap.size < M := by have := R4.out.lt; omega
  clear hown0 hr1 hb1 hz1 c0 c1 c2 c3
  go_loopw [7, 8] (fun v i wr => ∃ k : Nat, k ≤ 32 ∧ i = .int .i64 k ∧ wr.ownsRow M 5 1 v k (bytes (H.take k)) ∧ Row wr w.heap.size 29 V ∧ M ≤ wr.heap.size ∧ Below w.heap.size w wr) (fun _ i _ => 32 - (intOf i).toNat)
  case atStart => exact ⟨0, by omega, rfl, by rw [hM]; exact HOWN.out, HR.out, by rw [hM]; exact HZ.out, HB.out⟩
  case round =>
    clear HOWN HR HB HZ hM
    obtain ⟨k, hk, rfl, hown, hr, hmw, hbw⟩ := hrel
    by_cases hlt : k < 32
    · have hkA : k < H.length := by rw [LH.out]; exact hlt
      obtain ⟨x, hb⟩ : ∃ b, H[k] = b := ⟨_, rfl⟩
      have hcell : wr.cell? ⟨w.heap.size, 4 + k, none⟩ = some (.int .u8 (x.toNat : Int)) := by rw [HCC.out wr _ _ hr k hkA, hb]
      have HT : Hid (bytes (H.take (k + 1)) = bytes (H.take k) ++ [.int .u8 (x.toNat : Int)]) := Lib.hid (by rw [List.take_succ_eq_append_getElem hkA, hb, bytes_append]; rfl)
      have HOWN := Lib.hid (hown.alloc (.cells #[.int .u8 (x.toNat : Int)] 5))
      have HL : Hid (Lies (wr.alloc (.cells #[.int .u8 (x.toNat : Int)] 5)) (wr.alloc (.cells #[.int .u8 (x.toNat : Int)] 5)).heap.size (some ⟨wr.heap.size, 0, none⟩) [.int .u8 (x.toNat : Int)]) := Lib.hid (Lies.new [_] _ _)
      have HBW := Lib.hid (hbw.alloc hbw.size (.cells #[.int .u8 (x.toNat : Int)] 5))
      have HR := Lib.hid (hr.alloc (.cells #[.int .u8 (x.toNat : Int)] 5))
      have HZZ : Hid (M ≤ (wr.alloc (.cells #[.int .u8 (x.toNat : Int)] 5)).heap.size) := Lib.hid (by simp; omega)
      have HO1 : Hid ((Value.int .u8 (x.toNat : Int)).oneCell' = true) := Lib.hid rfl
      have HPK : Big (k + 1 ≤ 1099511627776) := ⟨by omega⟩
      have HOWB : Hid (∀ j, u7.ownBlock = some j → M ≤ j) := Lib.hid fun j hj => (hown.lt j hj).1
      have hk1 : (k : Int) < 32 := by omega
      clear hown hr hmw hbw hb hkA
      go_wp2_with (first
        | ((with_reducible refine wpAppend1K HOWN.out Tryd.underlying50 hd_one_byte HL.out HO1.out HPK HZZ.out ?_ ?_); rfl; intro v1 w1 g1 g2 g3; have HV1 := Lib.hid g1; have HG1 := Lib.hid g2; clear g1 g2 g3))
      go_roundw
      case rel =>
        have hb1 := HBW.out.grown HG1.out HBW.out.size (fun j hj => by have := HOWB.out j hj; omega)
        refine ⟨k + 1, by omega, by go_num, by rw [HT.out]; exact HV1.out, (HG1.out.block w.heap.size HR.out.lt (fun e => by have := HOWB.out _ e.symm; omega)).trans HR.out, Nat.le_trans HZZ.out HG1.out.size, hb1⟩
      case measure => simp [intOf]; omega
    · have ek : k = 32 := by omega
      rw [ek, List.take_of_length_le (by rw [LH.out]; omega)] at hown
      have hconv := own_string hown
      rw [HTH.out] at hconv
      have hconv2 := conv_bytes wr.heap.size 0 2 [0, 0] 2 (wr.alloc (.cells #[.int .u8 0, .int .u8 0] 5)) rfl (fun j hj => by have h := (Row.new wr 5 (bytes [0, 0])).cell j; rw [Nat.zero_add]; exact h.trans (bytes_get _ _ hj))
      have HB : Hid (Below w.heap.size w (wr.alloc (.cells #[.int .u8 0, .int .u8 0] 5))) := Lib.hid (hbw.next (alloc_below _ _))
      clear hown hr hmw hbw ek
      go_wp2
      go_ret
      exact ⟨by rw [HRES.out]; rfl, HB.out⟩

end Go.Proofs.YtbcilifdgpfmnaaDoor

/- The document's Get (gen_head_f.py). -/
namespace Go.Proofs.YtbcilifdgpfmnaaDoor
open Go.RowKit HeadMath NumMath
set_option linter.unusedVariables false
set_option maxRecDepth 100000

theorem zero_rhead : ∀ u, (zeroValue 29).run Tryd.prog u = .ok (.agg (hdv 0 0 0 0 (List.replicate 32 0)).toArray) u := fun u => by kernel_rfl
/-- The digest while it is read: k of its bytes are there. -/
def hk (H : List UInt8) (k : Nat) : List UInt8 := H.take k ++ List.replicate (32 - k) 0
theorem hk_length (H : List UInt8) (k : Nat) (hH : H.length = 32) (hk' : k ≤ 32) : (hk H k).length = 32 := by simp [hk]; omega
theorem hk_next (a b c n : Int) (H : List UInt8) (k : Nat) (hH : H.length = 32) (h : k < 32) (x : UInt8) (hx : H[k]? = some x) : (hdv a b c n (hk H k)).set (4 + k) (.int .u8 (x.toNat : Int)) = hdv a b c n (hk H (k + 1)) := by
  have hx' : H[k]'(by omega) = x := by rw [List.getElem?_eq_getElem (by omega)] at hx; exact Option.some.inj hx
  have e : hk H (k + 1) = (hk H k).set k x := by
    rw [hk, hk, List.set_append_right _ _ (by simp; omega)]
    have e1 : 32 - k = (32 - (k + 1)) + 1 := by omega
    have e2 : k - (H.take k).length = 0 := by simp; omega
    rw [e1, List.replicate_succ, e2, List.set_cons_zero, List.take_succ_eq_append_getElem (by omega), hx', List.append_assoc]
    rfl
  rw [e, hdv, hdv, List.set_append_right _ _ (by simp)]
  congr 1
  simp [bytes, List.map_set]
theorem hk_all (H : List UInt8) (hH : H.length = 32) : hk H 32 = H := by simp [hk, List.take_of_length_le (Nat.le_of_eq hH)]

theorem rhead_get_short (s : ByteArray) (w : World) (hs : s.size < 48) :
    Calls Tryd.prog 11 #[.string s] w fun e w' => e = .returned (.tuple #[.agg (hdv 0 0 0 0 (List.replicate 32 0)).toArray, .int .i64 13]) ∧ Below w.heap.size w w' := by
  have LY : Hid ((hdv 0 0 0 0 (List.replicate 32 0)).length = 36) := Lib.hid (hdv_length _ _ _ _ _ (by simp))
  have Y1 : Hid ((hdv 0 0 0 0 (List.replicate 32 0)).all (·.oneCell') = true) := Lib.hid (hdv_one _ _ _ _ _)
  have hsi : (s.size : Int) < 48 := by omega
  clear hs
  go_enter Tryd.func11, Tryd.ntmps11
  go_wp2_with (first
    | ((with_reducible refine wpAllocK (w := w) (hdv 0 0 0 0 (List.replicate 32 0)) 29 zero_rhead ?_ ?_); rfl; intro u1 r1 b1 s1; have R1 := Lib.hid r1; have B1 := Lib.hid b1; clear r1 b1 s1)
    | ((with_reducible refine R1.out.wpStoreK 29 (hdv 0 0 0 0 (List.replicate 32 0)) fits_rhead LY.out LY.out Y1.out ?_ ?_); rfl; intro u2 r2 o2 s2; have R2 := Lib.hid r2; have O2 := Lib.hid o2; clear r2 o2 s2))
  exact bodyPost_ret (R2.out.resultT rfl _ _ rfl Tryd.underlying29 rfl (by rw [LY.out]; exact fits_rhead.size)) rfl ⟨rfl, B1.out.trans (O2.out.below (Nat.le_refl _) B1.out.size)⟩

set_option maxHeartbeats 4000000 in
theorem rhead_get_long (s : ByteArray) (L : List UInt8) (a b c n : Int) (H : List UInt8) (w : World) (hL : s.data.toList = L) (hs : s.size ≤ 140737488355328) (h48 : 48 ≤ s.size) (ea : rA L = a) (eb : rB L = b) (ec : rC L = c) (en : rN L = n) (eH : rH L = H) :
    Calls Tryd.prog 11 #[.string s] w fun e w' => (isH L = true → e = .returned (.tuple #[.agg (hdv a b c n H).toArray, .int .i64 0])) ∧ (isH L = false → e = .returned (.tuple #[.agg (hdv 0 0 0 0 (List.replicate 32 0)).toArray, .int .i64 6])) ∧ Below w.heap.size w w' := by
  have lH : H.length = 32 := by rw [← eH]; exact rH_length L (by rw [← hL, size_list]; exact h48)
  have hlen : s.data.toList.length = s.size := size_list s
  obtain ⟨T, hT⟩ : ∃ T, s.extract 4 14 = T := ⟨_, rfl⟩
  have hTL : T.data.toList = (L.drop 4).take 10 := by rw [← hT, Lib.extract_data, hL]
  have hTz : T.size ≤ 140737488355328 := by rw [← size_list, hTL, List.length_take, List.length_drop]; omega
  have hTK : takeR ((L.drop 4).take 10) sizesL = ([a, b, c, n], 0) := by rw [take_head L _ (by rw [← hL, hlen]; exact h48) (Or.inr rfl), ea, eb, ec, en]
  have HTK : Hid (∀ u, Calls Tryd.prog 20 #[.string T, .slice (some ⟨u.heap.size, 0, none⟩) 4 4] (u.alloc (.cells #[.int .i64 2, .int .i64 2, .int .i64 2, .int .i64 4] 3)) fun e u' => ∃ g cap ys, e = .returned (.tuple #[.slice (some ⟨g, 0, none⟩) 4 cap, .int .i64 0]) ∧ u.heap.size ≤ g ∧ Row u' g 3 (ints [a, b, c, n] ++ ys) ∧ Below u.heap.size u u') := Lib.hid fun u =>
    (num_refTake_new T _ _ 4 4 sizesL [a, b, c, n] 0 (u.alloc (.cells #[.int .i64 2, .int .i64 2, .int .i64 2, .int .i64 4] 3)) hTL hTz rfl hTK (by show 0 < 4; omega) (by omega) (Lies.new (ints sizesL) u 3)).mono fun e u' h => by
      obtain ⟨g, cap, ys, h1, h2, h3, h4, h5⟩ := h
      exact ⟨g, cap, ys, h1, Nat.le_trans (alloc_below u _).size h2, h4, (alloc_below u _).next h5⟩
  have HBT : Hid (∀ k (x : UInt8), k < 32 → H[k]? = some x → ∃ hs' : 14 + k < s.size, s[14 + k] = x) := Lib.hid fun k x h hx => by
    have h2 : 14 + k < s.size := by omega
    have hx' : H[k]'(by omega) = x := by rw [List.getElem?_eq_getElem (by omega)] at hx; exact Option.some.inj hx
    refine ⟨h2, ?_⟩
    have e1 : s[14 + k] = s.data.toList[14 + k]'(by rw [hlen]; exact h2) := by simp [ByteArray.getElem_eq_getElem_data]
    rw [e1, ← hx']
    simp only [hL, ← eH, rH, List.getElem_take, List.getElem_drop]
  have HRT : Hid (∀ u, Calls Tryd.prog 7 #[.agg (hdv a b c n H).toArray] u fun e u' => e = .returned (.bool (hOk a b c n)) ∧ Below u.heap.size u u') := Lib.hid fun u => rhead_right_any a b c n H u
  obtain ⟨X, hX⟩ : ∃ X, s.extract 0 48 = X := ⟨_, rfl⟩
  have hXL : X.data.toList = L.take 48 := by rw [← hX, num_take_extract, hL]
  obtain ⟨T2, hT2⟩ : ∃ T, str (headB a b c n H) = T := ⟨_, rfl⟩
  have HPT : Hid (hOk a b c n = true → ∀ u, Calls Tryd.prog 10 #[.agg (hdv a b c n H).toArray] u fun e u' => e = .returned (.string T2) ∧ Below u.heap.size u u') := Lib.hid fun ho u => by rw [← hT2]; exact rhead_put_any a b c n H u ho lH
  have HIS : Hid (isH L = (hOk a b c n && (T2.toList == X.toList))) := Lib.hid (by
    rw [isH, ea, eb, ec, en, eH]
    congr 1
    by_cases h : headB a b c n H = L.take 48
    · have : T2 = X := by rw [← hT2, h, ← hXL, str_of]
      rw [this]; simp [h]
    · have : ¬ T2 = X := fun hh => h (by rw [← hXL, ← hh, ← hT2, str_list])
      rw [beq_no this]; simp [h])
  have LZ : Hid ((hdv 0 0 0 0 (List.replicate 32 0)).length = 36) := Lib.hid (hdv_length _ _ _ _ _ (by simp))
  have Z1 : Hid ((hdv 0 0 0 0 (List.replicate 32 0)).all (·.oneCell') = true) := Lib.hid (hdv_one _ _ _ _ _)
  have LV : Hid ((hdv a b c n H).length = 36) := Lib.hid (hdv_length _ _ _ _ _ lH)
  have V1 : Hid ((hdv a b c n H).all (·.oneCell') = true) := Lib.hid (hdv_one _ _ _ _ _)
  have HI3 : Hid (3 < ([] ++ ints [a, b, c] ++ (Value.int .i64 0 :: bytes (List.replicate 32 0))).length) := Lib.hid (by simp [ints, bytes_length])
  have I3 : Hid ((ints [a, b, c]).all (·.oneCell') = true) := Lib.hid rfl
  have HHK : Hid (∀ k (x : UInt8), k < 32 → H[k]? = some x → (hdv a b c n (hk H k)).set (4 + k) (.int .u8 (x.toNat : Int)) = hdv a b c n (hk H (k + 1))) := Lib.hid fun k x h hx => hk_next a b c n H k lH h x hx
  have HKA : Hid (hk H 32 = H) := Lib.hid (hk_all H lH)
  have HKL : Hid (∀ k, k < 32 → 4 + k < (hdv a b c n (hk H k)).length) := Lib.hid fun k h => by rw [hdv_length _ _ _ _ _ (hk_length H k lH (by omega))]; omega
  have LH := Lib.hid lH
  have h4 : 4 ≤ s.size := by omega
  have h14 : 14 ≤ s.size := by omega
  have h48i : (48 : Int) ≤ (s.size : Int) := by omega
  have h14i : (14 : Int) ≤ (s.size : Int) := by omega
  have hlt : decide ((s.size : Int) < 48) = false := by rw [decide_eq_false_iff_not]; omega
  have HSZ : Hid (48 ≤ s.size ∧ s.size ≤ 140737488355328) := Lib.hid ⟨h48, hs⟩
  have hsB : (s.size : Int) ≤ 140737488355328 := by omega
  clear hTL hTz hTK hXL hT2 hlen ea eb ec en eH hL lH hs
  go_enter Tryd.func11, Tryd.ntmps11
  go_wp2_with (first
    | ((with_reducible refine wpAllocK (w := w) (hdv 0 0 0 0 (List.replicate 32 0)) 29 zero_rhead ?_ ?_); rfl; intro u1 r1 b1 s1; have R1 := Lib.hid r1; have B1 := Lib.hid b1; clear r1 b1 s1)
    | ((with_reducible refine wpAllocK (w := u1) (hdv 0 0 0 0 (List.replicate 32 0)) 29 zero_rhead ?_ ?_); rfl; intro u2 r2 b2 s2; have K2 := Lib.hid r2; have R2 := Lib.hid (R1.out.step b2); have B2 : Hid (Below w.heap.size w u2) := Lib.hid (B1.out.next b2); clear r2 b2 s2)
    | ((with_reducible refine K2.out.wpStoreK 29 (hdv 0 0 0 0 (List.replicate 32 0)) fits_rhead LZ.out LZ.out Z1.out ?_ ?_); rfl; intro u3 r3 o3 s3; have K3 := Lib.hid r3; have R3 := Lib.hid (R2.out.only o3 (by have := R1.out.lt; omega)); have B3 : Hid (Below w.heap.size w u3) := Lib.hid (B2.out.trans (o3.below B1.out.size B2.out.size)); clear r3 o3 s3)
    | (go_at_call 20; (with_reducible refine (HTK.out u3).mono ?_); rintro e u4 ⟨gb, cap, ys, rfl, hgb, r4, b4⟩; have Q4 := Lib.hid r4; have R4 := Lib.hid (R3.out.step b4); have K4 := Lib.hid (K3.out.step b4); have B4 : Hid (Below w.heap.size w u4) := Lib.hid (B3.out.next b4); have HNE : Hid (gb ≠ u1.heap.size) := Lib.hid (by have := K3.out.lt; omega); have ca : u4.cell? ⟨gb, 0, none⟩ = some (.int .i64 a) := r4.cell 0; have cb : u4.cell? ⟨gb, 1, none⟩ = some (.int .i64 b) := r4.cell 1; have cc : u4.cell? ⟨gb, 2, none⟩ = some (.int .i64 c) := r4.cell 2; have hgl : gb < u4.heap.size := r4.lt; clear b4 r4 hgb))
  go_still_tail 11, (by kernel_rfl)
  change wpList _ _ _ _ _ u4.drew
  clear ca cb cc hgl
  have K5 : Hid (Row u4.drew u1.heap.size 29 ([] ++ [Value.int .i64 0, .int .i64 0, .int .i64 0] ++ (Value.int .i64 0 :: bytes (List.replicate 32 0)))) := Lib.hid K4.out.drew
  have R5 := Lib.hid R4.out.drew
  have Q5 := Lib.hid Q4.out.drew
  have B5 : Hid (Below w.heap.size w u4.drew) := Lib.hid (B4.out.drewN 1)
  generalize u4.drew = u5 at *
  go_wp2_with (first
    | ((with_reducible refine K5.out.wpStoreMidK 0 rfl 23 (ints [a, b, c]) fits_ver rfl rfl I3.out ?_ ?_); rfl; intro u6 r6 o6 s6; have K6 := Lib.hid r6; have R6 := Lib.hid (R5.out.only o6 (by have := R1.out.lt; omega)); have Q6 := Lib.hid (Q5.out.only o6 HNE.out); have B6 : Hid (Below w.heap.size w u6) := Lib.hid (B5.out.trans (o6.below B1.out.size B5.out.size)); have cn : u6.cell? ⟨gb, 3, none⟩ = some (.int .i64 n) := Q6.out.cell 3; have hgl : gb < u6.heap.size := Q6.out.lt; clear r6 o6 s6)
    | ((with_reducible refine K6.out.wpStore1K 3 3 (.int .i64 n) (by kernel_rfl) HI3.out rfl rfl ?_ ?_); rfl; intro u7 r7 o7 s7; have K7 : Hid (Row u7 u1.heap.size 29 (hdv a b c n (hk H 0))) := Lib.hid r7; have R7 := Lib.hid (R6.out.only o7 (by have := R1.out.lt; omega)); have B7 : Hid (Below w.heap.size w u7) := Lib.hid (B6.out.trans (o7.below B1.out.size B6.out.size)); clear r7 o7 s7))
  clear cn hgl
  go_loopw [7] (fun i wr => ∃ k : Nat, k ≤ 32 ∧ i = .int .i64 k ∧ Row wr u1.heap.size 29 (hdv a b c n (hk H k)) ∧ Only u1.heap.size u7 wr) (fun i _ => 32 - (intOf i).toNat)
  case atStart => exact ⟨0, by omega, rfl, K7.out, Only.refl _ _⟩
  case round =>
    obtain ⟨k, hk32, rfl, hr, ho⟩ := hrel
    by_cases hlt2 : k < 32
    · obtain ⟨x, hx⟩ : ∃ x, H[k]? = some x := ⟨_, List.getElem?_eq_getElem (by have := LH.out; omega)⟩
      obtain ⟨hin, hxx⟩ := HBT.out k x hlt2 hx
      have HR := Lib.hid hr
      have HO := Lib.hid ho
      have HSET := Lib.hid (HHK.out k x hlt2 hx)
      have HIX := Lib.hid (HKL.out k hlt2)
      have hk1 : (k : Int) < 32 := by omega
      have hin2 : ((14 + k : Nat) : Int) < (s.size : Int) := by omega
      clear hx hr ho
      go_wp2_with (first
        | ((with_reducible refine HR.out.wpStore1K (4 + k) 5 (.int .u8 (x.toNat : Int)) (by kernel_rfl) HIX.out rfl rfl ?_ ?_); rfl; intro u8 r8 o8 s8; rw [HSET.out] at r8; have K8 := Lib.hid r8; have O8 := Lib.hid (HO.out.trans o8); clear r8 o8 s8))
      go_roundw
      case rel => exact ⟨k + 1, by omega, by go_num, K8.out, O8.out⟩
      case measure => simp [intOf]; omega
    · have ek : k = 32 := by omega
      obtain ⟨v7, rfl⟩ : ∃ v7, v7 = wr := ⟨_, rfl⟩
      rw [ek, HKA.out] at hr
      have K9 := Lib.hid hr
      have R9 := Lib.hid (R7.out.only ho (by have := R1.out.lt; omega))
      have B9 : Hid (Below w.heap.size w v7) := Lib.hid (B7.out.trans (ho.below B1.out.size B7.out.size))
      have LK : Hid (u1.heap.size < v7.heap.size) := Lib.hid hr.lt
      have hk1 : ¬ (k : Int) < 32 := by omega
      have hk2 : decide ((k : Int) < 32) = false := by simpa using hk1
      clear hr ho ek
      go_wp2
      clear hk1 hk2 h14 h14i h4 hlt HBT HHK HKA HKL HTK
      by_cases ho : hOk a b c n = true
      · have HRQ : Hid (∀ u, Calls Tryd.prog 7 #[.agg (hdv a b c n H).toArray] u fun e u' => e = .returned (.bool true) ∧ Below u.heap.size u u') := Lib.hid (by rw [← ho]; exact HRT.out)
        have HPQ := Lib.hid (HPT.out ho)
        by_cases hq : (T2.toList == X.toList) = true
        · have HISQ : Hid (isH L = true) := Lib.hid (by rw [HIS.out, ho, hq]; rfl)
          clear HRT HPT HIS ho
          refine region_invX [(0, 46), (1, 47), (2, 48), (3, 49), (4, 50), (5, 51), (6, 52), (7, 53), (8, 54), (9, 55)]
            (fun ii => [Is (.agg (hdv a b c n H).toArray), Is (.bool true), Is (.bool false), Is (.bool false), Is (.agg (hdv a b c n H).toArray), Is (.string T2), Is (.string s), Is (.string X), Is (.bool false), Is (.bool false)].getD ii (Is undef))
            (fun w' => Below v7.heap.size v7 w') (by kernel_rfl) (by kernel_rfl) (by decide) (by decide) (by kernel_rfl) rfl ?monoF ((Below.refl _ _).drew) ?stepF ?finF
          case monoF =>
            intro i
            match i with
            | 0 | 1 | 2 | 3 | 4 | 5 | 6 | 7 | 8 | 9 => exact Is.monot _
            | _ + 10 => exact Is.monot _
          case stepF =>
            refine List.forall_mem_cons.2 ⟨?Fs0, List.forall_mem_cons.2 ⟨?Fs1, List.forall_mem_cons.2 ⟨?Fs2, List.forall_mem_cons.2 ⟨?Fs3, List.forall_mem_cons.2 ⟨?Fs4, List.forall_mem_cons.2 ⟨?Fs5, List.forall_mem_cons.2 ⟨?Fs6, List.forall_mem_cons.2 ⟨?Fs7, List.forall_mem_cons.2 ⟨?Fs8, List.forall_mem_cons.2 ⟨?Fs9, List.forall_mem_nil _⟩⟩⟩⟩⟩⟩⟩⟩⟩⟩
            case Fs0 =>
              intro u wx hg hC
              clear hC
              generalize hA : puts [(0, 46), (1, 47), (2, 48), (3, 49), (4, 50), (5, 51), (6, 52), (7, 53), (8, 54), (9, 55)] _ u = A
              have hp : A.tmps.getD 4 undef = (.pointer (some ⟨u1.heap.size, 0, none⟩)) := by rw [← hA]; exact (puts_get_out u _ _ 4 (by decide)).trans (by rfl)
              have hsz : 46 < A.tmps.size := by rw [← hA]; exact puts_room u (by kernel_rfl)
              refine wpOp_step rfl (fun K hK => ?_)
              clear hA
              exact opLoadK (φ := Is (.agg (hdv a b c n H).toArray)) (K9.out.step hg) _ (fits_rhead) (LV.out) 46 rfl hsz hK (.tmp 4) rfl hp rfl hg
            case Fs1 =>
              intro u wx hg hC
              have hJ0 : u 0 = (.agg (hdv a b c n H).toArray) := hC.at 0 (by kernel_rfl)
              clear hC
              refine wpOp_step rfl (fun K hK => ?_)
              simp only [puts, List.foldl]
              go_simp
              refine (HRQ.out wx).mono ?_
              rintro e w' ⟨rfl, hb'⟩
              exact hK _ _ ⟨rfl, rfl, hg.next hb', hb'⟩
            case Fs2 =>
              intro u wx hg hC
              have hJ1 : u 1 = (.bool true) := hC.at 1 (by kernel_rfl)
              clear hC
              refine wpOp_step rfl (fun K hK => ?_)
              simp only [puts, List.foldl]
              go_simp
              exact hK _ _ ⟨rfl, rfl, hg, Below.refl _ _⟩
            case Fs3 =>
              intro u wx hg hC
              have hJ2 : u 2 = (.bool false) := hC.at 2 (by kernel_rfl)
              clear hC
              refine wpOp_step rfl (fun K hK => ?_)
              simp only [puts, List.foldl]
              go_simp
              exact hK _ _ ⟨rfl, rfl, hg, Below.refl _ _⟩
            case Fs4 =>
              intro u wx hg hC
              have hJ3 : u 3 = (.bool false) := hC.at 3 (by kernel_rfl)
              clear hC
              generalize hA : puts [(0, 46), (1, 47), (2, 48), (3, 49), (4, 50), (5, 51), (6, 52), (7, 53), (8, 54), (9, 55)] _ u = A
              have hgv : A.tmps.getD 49 undef = .bool false := by rw [← hA]; exact (puts_get u 3 49 _ _ (by decide) (by decide) (by kernel_rfl)).trans hJ3
              have hgs : 49 < A.tmps.size := by rw [← hA]; exact puts_room u (by kernel_rfl)
              have hp : A.tmps.getD 4 undef = (.pointer (some ⟨u1.heap.size, 0, none⟩)) := by rw [← hA]; exact (puts_get_out u _ _ 4 (by decide)).trans (by rfl)
              have hsz : 50 < A.tmps.size := by rw [← hA]; exact puts_room u (by kernel_rfl)
              refine wpOp_guard rfl 3 49 false rfl rfl hgs hgv (fun K hK => ?_)
              clear hA
              exact opLoadK (φ := Is (.agg (hdv a b c n H).toArray)) (K9.out.step hg) _ (fits_rhead) (LV.out) 50 rfl hsz hK (.tmp 4) rfl hp rfl hg
            case Fs5 =>
              intro u wx hg hC
              have hJ3 : u 3 = (.bool false) := hC.at 3 (by kernel_rfl)
              have hJ4 : u 4 = (.agg (hdv a b c n H).toArray) := hC.at 4 (by kernel_rfl)
              clear hC
              generalize hA : puts [(0, 46), (1, 47), (2, 48), (3, 49), (4, 50), (5, 51), (6, 52), (7, 53), (8, 54), (9, 55)] _ u = A
              have hgv : A.tmps.getD 49 undef = .bool false := by rw [← hA]; exact (puts_get u 3 49 _ _ (by decide) (by decide) (by kernel_rfl)).trans hJ3
              have hgs : 49 < A.tmps.size := by rw [← hA]; exact puts_room u (by kernel_rfl)
              refine wpOp_guard rfl 3 49 false rfl rfl hgs hgv (fun K hK => ?_)
              subst hA
              simp only [puts, List.foldl]
              go_simp
              refine (HPQ.out wx).mono ?_
              rintro e w' ⟨rfl, hb'⟩
              exact hK _ _ ⟨rfl, rfl, hg.next hb', hb'⟩
            case Fs6 =>
              intro u wx hg hC
              have hJ3 : u 3 = (.bool false) := hC.at 3 (by kernel_rfl)
              clear hC
              generalize hA : puts [(0, 46), (1, 47), (2, 48), (3, 49), (4, 50), (5, 51), (6, 52), (7, 53), (8, 54), (9, 55)] _ u = A
              have hgv : A.tmps.getD 49 undef = .bool false := by rw [← hA]; exact (puts_get u 3 49 _ _ (by decide) (by decide) (by kernel_rfl)).trans hJ3
              have hgs : 49 < A.tmps.size := by rw [← hA]; exact puts_room u (by kernel_rfl)
              refine wpOp_guard rfl 3 49 false rfl rfl hgs hgv (fun K hK => ?_)
              subst hA
              simp only [puts, List.foldl]
              go_simp
              exact hK _ _ ⟨rfl, rfl, hg, Below.refl _ _⟩
            case Fs7 =>
              intro u wx hg hC
              have hJ3 : u 3 = (.bool false) := hC.at 3 (by kernel_rfl)
              have hJ6 : u 6 = (.string s) := hC.at 6 (by kernel_rfl)
              clear hC
              generalize hA : puts [(0, 46), (1, 47), (2, 48), (3, 49), (4, 50), (5, 51), (6, 52), (7, 53), (8, 54), (9, 55)] _ u = A
              have hgv : A.tmps.getD 49 undef = .bool false := by rw [← hA]; exact (puts_get u 3 49 _ _ (by decide) (by decide) (by kernel_rfl)).trans hJ3
              have hgs : 49 < A.tmps.size := by rw [← hA]; exact puts_room u (by kernel_rfl)
              refine wpOp_guard rfl 3 49 false rfl rfl hgs hgv (fun K hK => ?_)
              subst hA
              simp only [puts, List.foldl]
              go_simp
              exact hK _ _ ⟨rfl, rfl, hg, Below.refl _ _⟩
            case Fs8 =>
              intro u wx hg hC
              have hJ3 : u 3 = (.bool false) := hC.at 3 (by kernel_rfl)
              have hJ5 : u 5 = (.string T2) := hC.at 5 (by kernel_rfl)
              have hJ7 : u 7 = (.string X) := hC.at 7 (by kernel_rfl)
              clear hC
              generalize hA : puts [(0, 46), (1, 47), (2, 48), (3, 49), (4, 50), (5, 51), (6, 52), (7, 53), (8, 54), (9, 55)] _ u = A
              have hgv : A.tmps.getD 49 undef = .bool false := by rw [← hA]; exact (puts_get u 3 49 _ _ (by decide) (by decide) (by kernel_rfl)).trans hJ3
              have hgs : 49 < A.tmps.size := by rw [← hA]; exact puts_room u (by kernel_rfl)
              refine wpOp_guard rfl 3 49 false rfl rfl hgs hgv (fun K hK => ?_)
              subst hA
              simp only [puts, List.foldl]
              go_simp
              exact hK _ _ ⟨rfl, rfl, hg, Below.refl _ _⟩
            case Fs9 =>
              intro u wx hg hC
              have hJ3 : u 3 = (.bool false) := hC.at 3 (by kernel_rfl)
              have hJ8 : u 8 = (.bool false) := hC.at 8 (by kernel_rfl)
              clear hC
              refine wpOp_step rfl (fun K hK => ?_)
              simp only [puts, List.foldl]
              go_simp
              exact hK _ _ ⟨rfl, rfl, hg, Below.refl _ _⟩
          case finF =>
            intro u wx hg hC
            have hC9 : u 9 = .bool false := hC (9, 55) (by decide)
            have R10 := Lib.hid (R9.out.step hg)
            have K10 := Lib.hid (K9.out.step hg)
            have B10 : Hid (Below w.heap.size w wx) := Lib.hid (B9.out.next hg)
            clear hg
            simp only [puts, List.foldl]
            rw [hC9]
            go_simp
            clear hC hC9
            go_wp2_with (first | ((with_reducible refine R10.out.wpStoreK 29 (hdv a b c n H) fits_rhead LZ.out LV.out V1.out ?_ ?_); rfl; intro u11 r11 o11 s11; have R11 := Lib.hid r11; have O11 := Lib.hid o11; clear r11 o11 s11) | ((with_reducible refine K10.out.wpLoadK 29 fits_rhead LV.out ?_ ?_); rfl))
            exact bodyPost_ret (R11.out.resultT rfl _ _ rfl Tryd.underlying29 rfl (by rw [LV.out]; exact fits_rhead.size)) rfl ⟨fun h => rfl, fun h => absurd h (by rw [HISQ.out]; simp), B10.out.trans (O11.out.below (Nat.le_refl _) B10.out.size)⟩
        · have hq : (T2.toList == X.toList) = false := by simpa using hq
          have HISQ : Hid (isH L = false) := Lib.hid (by rw [HIS.out, ho, hq]; rfl)
          clear HRT HPT HIS ho
          refine region_invX [(0, 46), (1, 47), (2, 48), (3, 49), (4, 50), (5, 51), (6, 52), (7, 53), (8, 54), (9, 55)]
            (fun ii => [Is (.agg (hdv a b c n H).toArray), Is (.bool true), Is (.bool false), Is (.bool false), Is (.agg (hdv a b c n H).toArray), Is (.string T2), Is (.string s), Is (.string X), Is (.bool true), Is (.bool true)].getD ii (Is undef))
            (fun w' => Below v7.heap.size v7 w') (by kernel_rfl) (by kernel_rfl) (by decide) (by decide) (by kernel_rfl) rfl ?monoG ((Below.refl _ _).drew) ?stepG ?finG
          case monoG =>
            intro i
            match i with
            | 0 | 1 | 2 | 3 | 4 | 5 | 6 | 7 | 8 | 9 => exact Is.monot _
            | _ + 10 => exact Is.monot _
          case stepG =>
            refine List.forall_mem_cons.2 ⟨?Gs0, List.forall_mem_cons.2 ⟨?Gs1, List.forall_mem_cons.2 ⟨?Gs2, List.forall_mem_cons.2 ⟨?Gs3, List.forall_mem_cons.2 ⟨?Gs4, List.forall_mem_cons.2 ⟨?Gs5, List.forall_mem_cons.2 ⟨?Gs6, List.forall_mem_cons.2 ⟨?Gs7, List.forall_mem_cons.2 ⟨?Gs8, List.forall_mem_cons.2 ⟨?Gs9, List.forall_mem_nil _⟩⟩⟩⟩⟩⟩⟩⟩⟩⟩
            case Gs0 =>
              intro u wx hg hC
              clear hC
              generalize hA : puts [(0, 46), (1, 47), (2, 48), (3, 49), (4, 50), (5, 51), (6, 52), (7, 53), (8, 54), (9, 55)] _ u = A
              have hp : A.tmps.getD 4 undef = (.pointer (some ⟨u1.heap.size, 0, none⟩)) := by rw [← hA]; exact (puts_get_out u _ _ 4 (by decide)).trans (by rfl)
              have hsz : 46 < A.tmps.size := by rw [← hA]; exact puts_room u (by kernel_rfl)
              refine wpOp_step rfl (fun K hK => ?_)
              clear hA
              exact opLoadK (φ := Is (.agg (hdv a b c n H).toArray)) (K9.out.step hg) _ (fits_rhead) (LV.out) 46 rfl hsz hK (.tmp 4) rfl hp rfl hg
            case Gs1 =>
              intro u wx hg hC
              have hJ0 : u 0 = (.agg (hdv a b c n H).toArray) := hC.at 0 (by kernel_rfl)
              clear hC
              refine wpOp_step rfl (fun K hK => ?_)
              simp only [puts, List.foldl]
              go_simp
              refine (HRQ.out wx).mono ?_
              rintro e w' ⟨rfl, hb'⟩
              exact hK _ _ ⟨rfl, rfl, hg.next hb', hb'⟩
            case Gs2 =>
              intro u wx hg hC
              have hJ1 : u 1 = (.bool true) := hC.at 1 (by kernel_rfl)
              clear hC
              refine wpOp_step rfl (fun K hK => ?_)
              simp only [puts, List.foldl]
              go_simp
              exact hK _ _ ⟨rfl, rfl, hg, Below.refl _ _⟩
            case Gs3 =>
              intro u wx hg hC
              have hJ2 : u 2 = (.bool false) := hC.at 2 (by kernel_rfl)
              clear hC
              refine wpOp_step rfl (fun K hK => ?_)
              simp only [puts, List.foldl]
              go_simp
              exact hK _ _ ⟨rfl, rfl, hg, Below.refl _ _⟩
            case Gs4 =>
              intro u wx hg hC
              have hJ3 : u 3 = (.bool false) := hC.at 3 (by kernel_rfl)
              clear hC
              generalize hA : puts [(0, 46), (1, 47), (2, 48), (3, 49), (4, 50), (5, 51), (6, 52), (7, 53), (8, 54), (9, 55)] _ u = A
              have hgv : A.tmps.getD 49 undef = .bool false := by rw [← hA]; exact (puts_get u 3 49 _ _ (by decide) (by decide) (by kernel_rfl)).trans hJ3
              have hgs : 49 < A.tmps.size := by rw [← hA]; exact puts_room u (by kernel_rfl)
              have hp : A.tmps.getD 4 undef = (.pointer (some ⟨u1.heap.size, 0, none⟩)) := by rw [← hA]; exact (puts_get_out u _ _ 4 (by decide)).trans (by rfl)
              have hsz : 50 < A.tmps.size := by rw [← hA]; exact puts_room u (by kernel_rfl)
              refine wpOp_guard rfl 3 49 false rfl rfl hgs hgv (fun K hK => ?_)
              clear hA
              exact opLoadK (φ := Is (.agg (hdv a b c n H).toArray)) (K9.out.step hg) _ (fits_rhead) (LV.out) 50 rfl hsz hK (.tmp 4) rfl hp rfl hg
            case Gs5 =>
              intro u wx hg hC
              have hJ3 : u 3 = (.bool false) := hC.at 3 (by kernel_rfl)
              have hJ4 : u 4 = (.agg (hdv a b c n H).toArray) := hC.at 4 (by kernel_rfl)
              clear hC
              generalize hA : puts [(0, 46), (1, 47), (2, 48), (3, 49), (4, 50), (5, 51), (6, 52), (7, 53), (8, 54), (9, 55)] _ u = A
              have hgv : A.tmps.getD 49 undef = .bool false := by rw [← hA]; exact (puts_get u 3 49 _ _ (by decide) (by decide) (by kernel_rfl)).trans hJ3
              have hgs : 49 < A.tmps.size := by rw [← hA]; exact puts_room u (by kernel_rfl)
              refine wpOp_guard rfl 3 49 false rfl rfl hgs hgv (fun K hK => ?_)
              subst hA
              simp only [puts, List.foldl]
              go_simp
              refine (HPQ.out wx).mono ?_
              rintro e w' ⟨rfl, hb'⟩
              exact hK _ _ ⟨rfl, rfl, hg.next hb', hb'⟩
            case Gs6 =>
              intro u wx hg hC
              have hJ3 : u 3 = (.bool false) := hC.at 3 (by kernel_rfl)
              clear hC
              generalize hA : puts [(0, 46), (1, 47), (2, 48), (3, 49), (4, 50), (5, 51), (6, 52), (7, 53), (8, 54), (9, 55)] _ u = A
              have hgv : A.tmps.getD 49 undef = .bool false := by rw [← hA]; exact (puts_get u 3 49 _ _ (by decide) (by decide) (by kernel_rfl)).trans hJ3
              have hgs : 49 < A.tmps.size := by rw [← hA]; exact puts_room u (by kernel_rfl)
              refine wpOp_guard rfl 3 49 false rfl rfl hgs hgv (fun K hK => ?_)
              subst hA
              simp only [puts, List.foldl]
              go_simp
              exact hK _ _ ⟨rfl, rfl, hg, Below.refl _ _⟩
            case Gs7 =>
              intro u wx hg hC
              have hJ3 : u 3 = (.bool false) := hC.at 3 (by kernel_rfl)
              have hJ6 : u 6 = (.string s) := hC.at 6 (by kernel_rfl)
              clear hC
              generalize hA : puts [(0, 46), (1, 47), (2, 48), (3, 49), (4, 50), (5, 51), (6, 52), (7, 53), (8, 54), (9, 55)] _ u = A
              have hgv : A.tmps.getD 49 undef = .bool false := by rw [← hA]; exact (puts_get u 3 49 _ _ (by decide) (by decide) (by kernel_rfl)).trans hJ3
              have hgs : 49 < A.tmps.size := by rw [← hA]; exact puts_room u (by kernel_rfl)
              refine wpOp_guard rfl 3 49 false rfl rfl hgs hgv (fun K hK => ?_)
              subst hA
              simp only [puts, List.foldl]
              go_simp
              exact hK _ _ ⟨rfl, rfl, hg, Below.refl _ _⟩
            case Gs8 =>
              intro u wx hg hC
              have hJ3 : u 3 = (.bool false) := hC.at 3 (by kernel_rfl)
              have hJ5 : u 5 = (.string T2) := hC.at 5 (by kernel_rfl)
              have hJ7 : u 7 = (.string X) := hC.at 7 (by kernel_rfl)
              clear hC
              generalize hA : puts [(0, 46), (1, 47), (2, 48), (3, 49), (4, 50), (5, 51), (6, 52), (7, 53), (8, 54), (9, 55)] _ u = A
              have hgv : A.tmps.getD 49 undef = .bool false := by rw [← hA]; exact (puts_get u 3 49 _ _ (by decide) (by decide) (by kernel_rfl)).trans hJ3
              have hgs : 49 < A.tmps.size := by rw [← hA]; exact puts_room u (by kernel_rfl)
              refine wpOp_guard rfl 3 49 false rfl rfl hgs hgv (fun K hK => ?_)
              subst hA
              simp only [puts, List.foldl]
              go_simp
              exact hK _ _ ⟨rfl, rfl, hg, Below.refl _ _⟩
            case Gs9 =>
              intro u wx hg hC
              have hJ3 : u 3 = (.bool false) := hC.at 3 (by kernel_rfl)
              have hJ8 : u 8 = (.bool true) := hC.at 8 (by kernel_rfl)
              clear hC
              refine wpOp_step rfl (fun K hK => ?_)
              simp only [puts, List.foldl]
              go_simp
              exact hK _ _ ⟨rfl, rfl, hg, Below.refl _ _⟩
          case finG =>
            intro u wx hg hC
            have hC9 : u 9 = .bool true := hC (9, 55) (by decide)
            have R10 := Lib.hid (R9.out.step hg)
            have K10 := Lib.hid (K9.out.step hg)
            have B10 : Hid (Below w.heap.size w wx) := Lib.hid (B9.out.next hg)
            clear hg
            simp only [puts, List.foldl]
            rw [hC9]
            go_simp
            clear hC hC9
            go_wp2_with (first | ((with_reducible refine R10.out.wpStoreK 29 (hdv 0 0 0 0 (List.replicate 32 0)) fits_rhead LZ.out LZ.out Z1.out ?_ ?_); rfl; intro u11 r11 o11 s11; have R11 := Lib.hid r11; have O11 := Lib.hid o11; clear r11 o11 s11))
            exact bodyPost_ret (R11.out.resultT rfl _ _ rfl Tryd.underlying29 rfl (by rw [LZ.out]; exact fits_rhead.size)) rfl ⟨fun h => absurd h (by rw [HISQ.out]; simp), fun h => rfl, B10.out.trans (O11.out.below (Nat.le_refl _) B10.out.size)⟩
      · have ho : hOk a b c n = false := by simpa using ho
        have HRQ : Hid (∀ u, Calls Tryd.prog 7 #[.agg (hdv a b c n H).toArray] u fun e u' => e = .returned (.bool false) ∧ Below u.heap.size u u') := Lib.hid (by rw [← ho]; exact HRT.out)
        have HISQ : Hid (isH L = false) := Lib.hid (by rw [HIS.out, ho]; rfl)
        clear HRT HPT HIS ho
        refine region_invX [(0, 46), (1, 47), (2, 48), (3, 49), (4, 50), (5, 51), (6, 52), (7, 53), (8, 54), (9, 55)]
          (fun ii => [Is (.agg (hdv a b c n H).toArray), Is (.bool false), Is (.bool true), Is (.bool true), Is undef, Is undef, Is undef, Is undef, Is undef, Is (.bool true)].getD ii (Is undef))
          (fun w' => Below v7.heap.size v7 w') (by kernel_rfl) (by kernel_rfl) (by decide) (by decide) (by kernel_rfl) rfl ?monoH ((Below.refl _ _).drew) ?stepH ?finH
        case monoH =>
          intro i
          match i with
          | 0 | 1 | 2 | 3 | 4 | 5 | 6 | 7 | 8 | 9 => exact Is.monot _
          | _ + 10 => exact Is.monot _
        case stepH =>
          refine List.forall_mem_cons.2 ⟨?Hs0, List.forall_mem_cons.2 ⟨?Hs1, List.forall_mem_cons.2 ⟨?Hs2, List.forall_mem_cons.2 ⟨?Hs3, List.forall_mem_cons.2 ⟨?Hs4, List.forall_mem_cons.2 ⟨?Hs5, List.forall_mem_cons.2 ⟨?Hs6, List.forall_mem_cons.2 ⟨?Hs7, List.forall_mem_cons.2 ⟨?Hs8, List.forall_mem_cons.2 ⟨?Hs9, List.forall_mem_nil _⟩⟩⟩⟩⟩⟩⟩⟩⟩⟩
          case Hs0 =>
            intro u wx hg hC
            clear hC
            generalize hA : puts [(0, 46), (1, 47), (2, 48), (3, 49), (4, 50), (5, 51), (6, 52), (7, 53), (8, 54), (9, 55)] _ u = A
            have hp : A.tmps.getD 4 undef = (.pointer (some ⟨u1.heap.size, 0, none⟩)) := by rw [← hA]; exact (puts_get_out u _ _ 4 (by decide)).trans (by rfl)
            have hsz : 46 < A.tmps.size := by rw [← hA]; exact puts_room u (by kernel_rfl)
            refine wpOp_step rfl (fun K hK => ?_)
            clear hA
            exact opLoadK (φ := Is (.agg (hdv a b c n H).toArray)) (K9.out.step hg) _ (fits_rhead) (LV.out) 46 rfl hsz hK (.tmp 4) rfl hp rfl hg
          case Hs1 =>
            intro u wx hg hC
            have hJ0 : u 0 = (.agg (hdv a b c n H).toArray) := hC.at 0 (by kernel_rfl)
            clear hC
            refine wpOp_step rfl (fun K hK => ?_)
            simp only [puts, List.foldl]
            go_simp
            refine (HRQ.out wx).mono ?_
            rintro e w' ⟨rfl, hb'⟩
            exact hK _ _ ⟨rfl, rfl, hg.next hb', hb'⟩
          case Hs2 =>
            intro u wx hg hC
            have hJ1 : u 1 = (.bool false) := hC.at 1 (by kernel_rfl)
            clear hC
            refine wpOp_step rfl (fun K hK => ?_)
            simp only [puts, List.foldl]
            go_simp
            exact hK _ _ ⟨rfl, rfl, hg, Below.refl _ _⟩
          case Hs3 =>
            intro u wx hg hC
            have hJ2 : u 2 = (.bool true) := hC.at 2 (by kernel_rfl)
            clear hC
            refine wpOp_step rfl (fun K hK => ?_)
            simp only [puts, List.foldl]
            go_simp
            exact hK _ _ ⟨rfl, rfl, hg, Below.refl _ _⟩
          case Hs4 =>
            intro u wx hg hC
            have hJ3 : u 3 = (.bool true) := hC.at 3 (by kernel_rfl)
            clear hC
            generalize hA : puts [(0, 46), (1, 47), (2, 48), (3, 49), (4, 50), (5, 51), (6, 52), (7, 53), (8, 54), (9, 55)] _ u = A
            have hgv : A.tmps.getD 49 undef = .bool true := by rw [← hA]; exact (puts_get u 3 49 _ _ (by decide) (by decide) (by kernel_rfl)).trans hJ3
            have hgs : 49 < A.tmps.size := by rw [← hA]; exact puts_room u (by kernel_rfl)
            refine wpOp_skip rfl 3 49 false rfl rfl hgs hgv ?_
            subst hA
            simp only [puts, List.foldl]
            go_simp
            first | exact ⟨rfl, hg, Below.refl _ _⟩ | exact ⟨rfl, hg⟩ | exact ⟨rfl, Below.refl _ _⟩ | exact ⟨rfl, rfl, hg, Below.refl _ _⟩ | exact ⟨hg, Below.refl _ _⟩
          case Hs5 =>
            intro u wx hg hC
            have hJ3 : u 3 = (.bool true) := hC.at 3 (by kernel_rfl)
            clear hC
            generalize hA : puts [(0, 46), (1, 47), (2, 48), (3, 49), (4, 50), (5, 51), (6, 52), (7, 53), (8, 54), (9, 55)] _ u = A
            have hgv : A.tmps.getD 49 undef = .bool true := by rw [← hA]; exact (puts_get u 3 49 _ _ (by decide) (by decide) (by kernel_rfl)).trans hJ3
            have hgs : 49 < A.tmps.size := by rw [← hA]; exact puts_room u (by kernel_rfl)
            refine wpOp_skip rfl 3 49 false rfl rfl hgs hgv ?_
            subst hA
            simp only [puts, List.foldl]
            go_simp
            first | exact ⟨rfl, hg, Below.refl _ _⟩ | exact ⟨rfl, hg⟩ | exact ⟨rfl, Below.refl _ _⟩ | exact ⟨rfl, rfl, hg, Below.refl _ _⟩ | exact ⟨hg, Below.refl _ _⟩
          case Hs6 =>
            intro u wx hg hC
            have hJ3 : u 3 = (.bool true) := hC.at 3 (by kernel_rfl)
            clear hC
            generalize hA : puts [(0, 46), (1, 47), (2, 48), (3, 49), (4, 50), (5, 51), (6, 52), (7, 53), (8, 54), (9, 55)] _ u = A
            have hgv : A.tmps.getD 49 undef = .bool true := by rw [← hA]; exact (puts_get u 3 49 _ _ (by decide) (by decide) (by kernel_rfl)).trans hJ3
            have hgs : 49 < A.tmps.size := by rw [← hA]; exact puts_room u (by kernel_rfl)
            refine wpOp_skip rfl 3 49 false rfl rfl hgs hgv ?_
            subst hA
            simp only [puts, List.foldl]
            go_simp
            first | exact ⟨rfl, hg, Below.refl _ _⟩ | exact ⟨rfl, hg⟩ | exact ⟨rfl, Below.refl _ _⟩ | exact ⟨rfl, rfl, hg, Below.refl _ _⟩ | exact ⟨hg, Below.refl _ _⟩
          case Hs7 =>
            intro u wx hg hC
            have hJ3 : u 3 = (.bool true) := hC.at 3 (by kernel_rfl)
            clear hC
            generalize hA : puts [(0, 46), (1, 47), (2, 48), (3, 49), (4, 50), (5, 51), (6, 52), (7, 53), (8, 54), (9, 55)] _ u = A
            have hgv : A.tmps.getD 49 undef = .bool true := by rw [← hA]; exact (puts_get u 3 49 _ _ (by decide) (by decide) (by kernel_rfl)).trans hJ3
            have hgs : 49 < A.tmps.size := by rw [← hA]; exact puts_room u (by kernel_rfl)
            refine wpOp_skip rfl 3 49 false rfl rfl hgs hgv ?_
            subst hA
            simp only [puts, List.foldl]
            go_simp
            first | exact ⟨rfl, hg, Below.refl _ _⟩ | exact ⟨rfl, hg⟩ | exact ⟨rfl, Below.refl _ _⟩ | exact ⟨rfl, rfl, hg, Below.refl _ _⟩ | exact ⟨hg, Below.refl _ _⟩
          case Hs8 =>
            intro u wx hg hC
            have hJ3 : u 3 = (.bool true) := hC.at 3 (by kernel_rfl)
            clear hC
            generalize hA : puts [(0, 46), (1, 47), (2, 48), (3, 49), (4, 50), (5, 51), (6, 52), (7, 53), (8, 54), (9, 55)] _ u = A
            have hgv : A.tmps.getD 49 undef = .bool true := by rw [← hA]; exact (puts_get u 3 49 _ _ (by decide) (by decide) (by kernel_rfl)).trans hJ3
            have hgs : 49 < A.tmps.size := by rw [← hA]; exact puts_room u (by kernel_rfl)
            refine wpOp_skip rfl 3 49 false rfl rfl hgs hgv ?_
            subst hA
            simp only [puts, List.foldl]
            go_simp
            first | exact ⟨rfl, hg, Below.refl _ _⟩ | exact ⟨rfl, hg⟩ | exact ⟨rfl, Below.refl _ _⟩ | exact ⟨rfl, rfl, hg, Below.refl _ _⟩ | exact ⟨hg, Below.refl _ _⟩
          case Hs9 =>
            intro u wx hg hC
            have hJ3 : u 3 = (.bool true) := hC.at 3 (by kernel_rfl)
            have hJ8 : u 8 = undef := hC.at 8 (by kernel_rfl)
            clear hC
            refine wpOp_step rfl (fun K hK => ?_)
            simp only [puts, List.foldl]
            go_simp
            exact hK _ _ ⟨rfl, rfl, hg, Below.refl _ _⟩
        case finH =>
          intro u wx hg hC
          have hC9 : u 9 = .bool true := hC (9, 55) (by decide)
          have R10 := Lib.hid (R9.out.step hg)
          have K10 := Lib.hid (K9.out.step hg)
          have B10 : Hid (Below w.heap.size w wx) := Lib.hid (B9.out.next hg)
          clear hg
          simp only [puts, List.foldl]
          rw [hC9]
          go_simp
          clear hC hC9
          go_wp2_with (first | ((with_reducible refine R10.out.wpStoreK 29 (hdv 0 0 0 0 (List.replicate 32 0)) fits_rhead LZ.out LZ.out Z1.out ?_ ?_); rfl; intro u11 r11 o11 s11; have R11 := Lib.hid r11; have O11 := Lib.hid o11; clear r11 o11 s11))
          exact bodyPost_ret (R11.out.resultT rfl _ _ rfl Tryd.underlying29 rfl (by rw [LZ.out]; exact fits_rhead.size)) rfl ⟨fun h => absurd h (by rw [HISQ.out]; simp), fun h => rfl, B10.out.trans (O11.out.below (Nat.le_refl _) B10.out.size)⟩

/-- The document's Get, whatever the bytes. -/
theorem rhead_get_any (s : ByteArray) (L : List UInt8) (V : List Value) (E : Int) (w : World) (hL : s.data.toList = L) (hs : s.size ≤ 140737488355328) (h : GetIs L V E) :
    Calls Tryd.prog 11 #[.string s] w fun e w' => e = .returned (.tuple #[.agg V.toArray, .int .i64 E]) ∧ Below w.heap.size w w' := by
  have hz : L.length = s.size := by rw [← hL, size_list]
  rcases h with ⟨h1, rfl, rfl⟩ | ⟨h1, h2, rfl, rfl⟩ | ⟨h1, h2, rfl, rfl⟩
  · exact rhead_get_short s w (by omega)
  · exact (rhead_get_long s L _ _ _ _ _ w hL hs (by omega) rfl rfl rfl rfl rfl).mono fun e w' h => ⟨h.1 h2, h.2.2⟩
  · exact (rhead_get_long s L _ _ _ _ _ w hL hs (by omega) rfl rfl rfl rfl rfl).mono fun e w' h => ⟨h.2.1 h2, h.2.2⟩
end Go.Proofs.YtbcilifdgpfmnaaDoor
