/- The document's Get (gen_head_f.py). -/
import Derived.Test.YtbcilifdgpfmnaaDoorHeadE
import Derived.Test.YtbcilifdgpfmnaaDoorOpK
import Derived.Test.YtbcilifdgpfmnaaDoorInvT
namespace Go.Proofs.YtbcilifdgpfmnaaDoor
open Go.RowKit HeadMath NumMath
set_option linter.unusedVariables false
set_option maxRecDepth 100000

theorem zero_rhead : ∀ u, (zeroValue 29).run Tryd.prog u = .ok (.agg (hdv 0 0 0 0 (List.replicate 32 0)).toArray) u := fun u => by kernel_rfl
/-- The digest while it is read: k of its bytes are there. -/
def hk (H : List UInt8) (k : Nat) : List UInt8 := H.take k ++ List.replicate (32 - k) 0
theorem hk_length (H : List UInt8) (k : Nat) (hH : H.length = 32) (hk' : k ≤ 32) : (hk H k).length = 32 := by simp [hk]; omega
theorem hk_next (a b c n : Int) (H : List UInt8) (k : Nat) (hH : H.length = 32) (h : k < 32) (x : UInt8) (hx : H[k]? = some x) : (hdv a b c n (hk H k)).set (4 + k) (.int .u8 (x.toNat : Int)) = hdv a b c n (hk H (k + 1)) := by
  have hx' : H[k]'(by omega) = x := by rw [List.getElem?_eq_getElem (by omega)] at hx; exact Option.some.inj hx
  have e : hk H (k + 1) = (hk H k).set k x := by
    rw [hk, hk, List.set_append_right _ _ (by simp; omega)]
    have e1 : 32 - k = (32 - (k + 1)) + 1 := by omega
    have e2 : k - (H.take k).length = 0 := by simp; omega
    rw [e1, List.replicate_succ, e2, List.set_cons_zero, List.take_succ_eq_append_getElem (by omega), hx', List.append_assoc]
    rfl
  rw [e, hdv, hdv, List.set_append_right _ _ (by simp)]
  congr 1
  simp [bytes, List.map_set]
theorem hk_all (H : List UInt8) (hH : H.length = 32) : hk H 32 = H := by simp [hk, List.take_of_length_le (Nat.le_of_eq hH)]

theorem rhead_get_short (s : ByteArray) (w : World) (hs : s.size < 48) :
    Calls Tryd.prog 11 #[.string s] w fun e w' => e = .returned (.tuple #[.agg (hdv 0 0 0 0 (List.replicate 32 0)).toArray, .int .i64 13]) ∧ Below w.heap.size w w' := by
  have LY : Hid ((hdv 0 0 0 0 (List.replicate 32 0)).length = 36) := Lib.hid (hdv_length _ _ _ _ _ (by simp))
  have Y1 : Hid ((hdv 0 0 0 0 (List.replicate 32 0)).all (·.oneCell') = true) := Lib.hid (hdv_one _ _ _ _ _)
  have hsi : (s.size : Int) < 48 := by omega
  clear hs
  go_enter Tryd.func11, Tryd.ntmps11
  go_wp2_with (first
    | ((with_reducible refine wpAllocK (w := w) (hdv 0 0 0 0 (List.replicate 32 0)) 29 zero_rhead ?_ ?_); rfl; intro u1 r1 b1 s1; have R1 := Lib.hid r1; have B1 := Lib.hid b1; clear r1 b1 s1)
    | ((with_reducible refine R1.out.wpStoreK 29 (hdv 0 0 0 0 (List.replicate 32 0)) fits_rhead LY.out LY.out Y1.out ?_ ?_); rfl; intro u2 r2 o2 s2; have R2 := Lib.hid r2; have O2 := Lib.hid o2; clear r2 o2 s2))
  exact bodyPost_ret (R2.out.resultT rfl _ _ rfl Tryd.underlying29 rfl (by rw [LY.out]; exact fits_rhead.size)) rfl ⟨rfl, B1.out.trans (O2.out.below (Nat.le_refl _) B1.out.size)⟩

set_option maxHeartbeats 4000000 in
theorem rhead_get_long (s : ByteArray) (L : List UInt8) (a b c n : Int) (H : List UInt8) (w : World) (hL : s.data.toList = L) (hs : s.size ≤ 140737488355328) (h48 : 48 ≤ s.size) (ea : rA L = a) (eb : rB L = b) (ec : rC L = c) (en : rN L = n) (eH : rH L = H) :
    Calls Tryd.prog 11 #[.string s] w fun e w' => (isH L = true → e = .returned (.tuple #[.agg (hdv a b c n H).toArray, .int .i64 0])) ∧ (isH L = false → e = .returned (.tuple #[.agg (hdv 0 0 0 0 (List.replicate 32 0)).toArray, .int .i64 6])) ∧ Below w.heap.size w w' := by
  have lH : H.length = 32 := by rw [← eH]; exact rH_length L (by rw [← hL, size_list]; exact h48)
  have hlen : s.data.toList.length = s.size := size_list s
  obtain ⟨T, hT⟩ : ∃ T, s.extract 4 14 = T := ⟨_, rfl⟩
  have hTL : T.data.toList = (L.drop 4).take 10 := by rw [← hT, Lib.extract_data, hL]
  have hTz : T.size ≤ 140737488355328 := by rw [← size_list, hTL, List.length_take, List.length_drop]; omega
  have hTK : takeR ((L.drop 4).take 10) sizesL = ([a, b, c, n], 0) := by rw [take_head L _ (by rw [← hL, hlen]; exact h48) (Or.inr rfl), ea, eb, ec, en]
  have HTK : Hid (∀ u, Calls Tryd.prog 20 #[.string T, .slice (some ⟨u.heap.size, 0, none⟩) 4 4] (u.alloc (.cells #[.int .i64 2, .int .i64 2, .int .i64 2, .int .i64 4] 3)) fun e u' => ∃ g cap ys, e = .returned (.tuple #[.slice (some ⟨g, 0, none⟩) 4 cap, .int .i64 0]) ∧ u.heap.size ≤ g ∧ Row u' g 3 (ints [a, b, c, n] ++ ys) ∧ Below u.heap.size u u') := Lib.hid fun u =>
    (num_refTake_new T _ _ 4 4 sizesL [a, b, c, n] 0 (u.alloc (.cells #[.int .i64 2, .int .i64 2, .int .i64 2, .int .i64 4] 3)) hTL hTz rfl hTK (by show 0 < 4; omega) (by omega) (Lies.new (ints sizesL) u 3)).mono fun e u' h => by
      obtain ⟨g, cap, ys, h1, h2, h3, h4, h5⟩ := h
      exact ⟨g, cap, ys, h1, Nat.le_trans (alloc_below u _).size h2, h4, (alloc_below u _).next h5⟩
  have HBT : Hid (∀ k (x : UInt8), k < 32 → H[k]? = some x → ∃ hs' : 14 + k < s.size, s[14 + k] = x) := Lib.hid fun k x h hx => by
    have h2 : 14 + k < s.size := by omega
    have hx' : H[k]'(by omega) = x := by rw [List.getElem?_eq_getElem (by omega)] at hx; exact Option.some.inj hx
    refine ⟨h2, ?_⟩
    have e1 : s[14 + k] = s.data.toList[14 + k]'(by rw [hlen]; exact h2) := by simp [ByteArray.getElem_eq_getElem_data]
    rw [e1, ← hx']
    simp only [hL, ← eH, rH, List.getElem_take, List.getElem_drop]
  have HRT : Hid (∀ u, Calls Tryd.prog 7 #[.agg (hdv a b c n H).toArray] u fun e u' => e = .returned (.bool (hOk a b c n)) ∧ Below u.heap.size u u') := Lib.hid fun u => rhead_right_any a b c n H u
  obtain ⟨X, hX⟩ : ∃ X, s.extract 0 48 = X := ⟨_, rfl⟩
  have hXL : X.data.toList = L.take 48 := by rw [← hX, num_take_extract, hL]
  obtain ⟨T2, hT2⟩ : ∃ T, str (headB a b c n H) = T := ⟨_, rfl⟩
  have HPT : Hid (hOk a b c n = true → ∀ u, Calls Tryd.prog 10 #[.agg (hdv a b c n H).toArray] u fun e u' => e = .returned (.string T2) ∧ Below u.heap.size u u') := Lib.hid fun ho u => by rw [← hT2]; exact rhead_put_any a b c n H u ho lH
  have HIS : Hid (isH L = (hOk a b c n && (T2.toList == X.toList))) := Lib.hid (by
    rw [isH, ea, eb, ec, en, eH]
    congr 1
    by_cases h : headB a b c n H = L.take 48
    · have : T2 = X := by rw [← hT2, h, ← hXL, str_of]
      rw [this]; simp [h]
    · have : ¬ T2 = X := fun hh => h (by rw [← hXL, ← hh, ← hT2, str_list])
      rw [beq_no this]; simp [h])
  have LZ : Hid ((hdv 0 0 0 0 (List.replicate 32 0)).length = 36) := Lib.hid (hdv_length _ _ _ _ _ (by simp))
  have Z1 : Hid ((hdv 0 0 0 0 (List.replicate 32 0)).all (·.oneCell') = true) := Lib.hid (hdv_one _ _ _ _ _)
  have LV : Hid ((hdv a b c n H).length = 36) := Lib.hid (hdv_length _ _ _ _ _ lH)
  have V1 : Hid ((hdv a b c n H).all (·.oneCell') = true) := Lib.hid (hdv_one _ _ _ _ _)
  have HI3 : Hid (3 < ([] ++ ints [a, b, c] ++ (Value.int .i64 0 :: bytes (List.replicate 32 0))).length) := Lib.hid (by simp [ints, bytes_length])
  have I3 : Hid ((ints [a, b, c]).all (·.oneCell') = true) := Lib.hid rfl
  have HHK : Hid (∀ k (x : UInt8), k < 32 → H[k]? = some x → (hdv a b c n (hk H k)).set (4 + k) (.int .u8 (x.toNat : Int)) = hdv a b c n (hk H (k + 1))) := Lib.hid fun k x h hx => hk_next a b c n H k lH h x hx
  have HKA : Hid (hk H 32 = H) := Lib.hid (hk_all H lH)
  have HKL : Hid (∀ k, k < 32 → 4 + k < (hdv a b c n (hk H k)).length) := Lib.hid fun k h => by rw [hdv_length _ _ _ _ _ (hk_length H k lH (by omega))]; omega
  have LH := Lib.hid lH
  have h4 : 4 ≤ s.size := by omega
  have h14 : 14 ≤ s.size := by omega
  have h48i : (48 : Int) ≤ (s.size : Int) := by omega
  have h14i : (14 : Int) ≤ (s.size : Int) := by omega
  have hlt : decide ((s.size : Int) < 48) = false := by rw [decide_eq_false_iff_not]; omega
  have HSZ : Hid (48 ≤ s.size ∧ s.size ≤ 140737488355328) := Lib.hid ⟨h48, hs⟩
  have hsB : (s.size : Int) ≤ 140737488355328 := by omega
  clear hTL hTz hTK hXL hT2 hlen ea eb ec en eH hL lH hs
  go_enter Tryd.func11, Tryd.ntmps11
  go_wp2_with (first
    | ((with_reducible refine wpAllocK (w := w) (hdv 0 0 0 0 (List.replicate 32 0)) 29 zero_rhead ?_ ?_); rfl; intro u1 r1 b1 s1; have R1 := Lib.hid r1; have B1 := Lib.hid b1; clear r1 b1 s1)
    | ((with_reducible refine wpAllocK (w := u1) (hdv 0 0 0 0 (List.replicate 32 0)) 29 zero_rhead ?_ ?_); rfl; intro u2 r2 b2 s2; have K2 := Lib.hid r2; have R2 := Lib.hid (R1.out.step b2); have B2 : Hid (Below w.heap.size w u2) := Lib.hid (B1.out.next b2); clear r2 b2 s2)
    | ((with_reducible refine K2.out.wpStoreK 29 (hdv 0 0 0 0 (List.replicate 32 0)) fits_rhead LZ.out LZ.out Z1.out ?_ ?_); rfl; intro u3 r3 o3 s3; have K3 := Lib.hid r3; have R3 := Lib.hid (R2.out.only o3 (by have := R1.out.lt; omega)); have B3 : Hid (Below w.heap.size w u3) := Lib.hid (B2.out.trans (o3.below B1.out.size B2.out.size)); clear r3 o3 s3)
    | (go_at_call 20; (with_reducible refine (HTK.out u3).mono ?_); rintro e u4 ⟨gb, cap, ys, rfl, hgb, r4, b4⟩; have Q4 := Lib.hid r4; have R4 := Lib.hid (R3.out.step b4); have K4 := Lib.hid (K3.out.step b4); have B4 : Hid (Below w.heap.size w u4) := Lib.hid (B3.out.next b4); have HNE : Hid (gb ≠ u1.heap.size) := Lib.hid (by have := K3.out.lt; omega); have ca : u4.cell? ⟨gb, 0, none⟩ = some (.int .i64 a) := r4.cell 0; have cb : u4.cell? ⟨gb, 1, none⟩ = some (.int .i64 b) := r4.cell 1; have cc : u4.cell? ⟨gb, 2, none⟩ = some (.int .i64 c) := r4.cell 2; have hgl : gb < u4.heap.size := r4.lt; clear b4 r4 hgb))
  go_still_tail 11, (by kernel_rfl)
  change wpList _ _ _ _ _ u4.drew
  clear ca cb cc hgl
  have K5 : Hid (Row u4.drew u1.heap.size 29 ([] ++ [Value.int .i64 0, .int .i64 0, .int .i64 0] ++ (Value.int .i64 0 :: bytes (List.replicate 32 0)))) := Lib.hid K4.out.drew
  have R5 := Lib.hid R4.out.drew
  have Q5 := Lib.hid Q4.out.drew
  have B5 : Hid (Below w.heap.size w u4.drew) := Lib.hid (B4.out.drewN 1)
  generalize u4.drew = u5 at *
  go_wp2_with (first
    | ((with_reducible refine K5.out.wpStoreMidK 0 rfl 23 (ints [a, b, c]) fits_ver rfl rfl I3.out ?_ ?_); rfl; intro u6 r6 o6 s6; have K6 := Lib.hid r6; have R6 := Lib.hid (R5.out.only o6 (by have := R1.out.lt; omega)); have Q6 := Lib.hid (Q5.out.only o6 HNE.out); have B6 : Hid (Below w.heap.size w u6) := Lib.hid (B5.out.trans (o6.below B1.out.size B5.out.size)); have cn : u6.cell? ⟨gb, 3, none⟩ = some (.int .i64 n) := Q6.out.cell 3; have hgl : gb < u6.heap.size := Q6.out.lt; clear r6 o6 s6)
    | ((with_reducible refine K6.out.wpStore1K 3 3 (.int .i64 n) (by kernel_rfl) HI3.out rfl rfl ?_ ?_); rfl; intro u7 r7 o7 s7; have K7 : Hid (Row u7 u1.heap.size 29 (hdv a b c n (hk H 0))) := Lib.hid r7; have R7 := Lib.hid (R6.out.only o7 (by have := R1.out.lt; omega)); have B7 : Hid (Below w.heap.size w u7) := Lib.hid (B6.out.trans (o7.below B1.out.size B6.out.size)); clear r7 o7 s7))
  clear cn hgl
  go_loopw [7] (fun i wr => ∃ k : Nat, k ≤ 32 ∧ i = .int .i64 k ∧ Row wr u1.heap.size 29 (hdv a b c n (hk H k)) ∧ Only u1.heap.size u7 wr) (fun i _ => 32 - (intOf i).toNat)
  case atStart => exact ⟨0, by omega, rfl, K7.out, Only.refl _ _⟩
  case round =>
    obtain ⟨k, hk32, rfl, hr, ho⟩ := hrel
    by_cases hlt2 : k < 32
    · obtain ⟨x, hx⟩ : ∃ x, H[k]? = some x := ⟨_, List.getElem?_eq_getElem (by have := LH.out; omega)⟩
      obtain ⟨hin, hxx⟩ := HBT.out k x hlt2 hx
      have HR := Lib.hid hr
      have HO := Lib.hid ho
      have HSET := Lib.hid (HHK.out k x hlt2 hx)
      have HIX := Lib.hid (HKL.out k hlt2)
      have hk1 : (k : Int) < 32 := by omega
      have hin2 : ((14 + k : Nat) : Int) < (s.size : Int) := by omega
      clear hx hr ho
      go_wp2_with (first
        | ((with_reducible refine HR.out.wpStore1K (4 + k) 5 (.int .u8 (x.toNat : Int)) (by kernel_rfl) HIX.out rfl rfl ?_ ?_); rfl; intro u8 r8 o8 s8; rw [HSET.out] at r8; have K8 := Lib.hid r8; have O8 := Lib.hid (HO.out.trans o8); clear r8 o8 s8))
      go_roundw
      case rel => exact ⟨k + 1, by omega, by go_num, K8.out, O8.out⟩
      case measure => simp [intOf]; omega
    · have ek : k = 32 := by omega
      obtain ⟨v7, rfl⟩ : ∃ v7, v7 = wr := ⟨_, rfl⟩
      rw [ek, HKA.out] at hr
      have K9 := Lib.hid hr
      have R9 := Lib.hid (R7.out.only ho (by have := R1.out.lt; omega))
      have B9 : Hid (Below w.heap.size w v7) := Lib.hid (B7.out.trans (ho.below B1.out.size B7.out.size))
      have LK : Hid (u1.heap.size < v7.heap.size) := Lib.hid hr.lt
      have hk1 : ¬ (k : Int) < 32 := by omega
      have hk2 : decide ((k : Int) < 32) = false := by simpa using hk1
      clear hr ho ek
      go_wp2
      clear hk1 hk2 h14 h14i h4 hlt HBT HHK HKA HKL HTK
      by_cases ho : hOk a b c n = true
      · have HRQ : Hid (∀ u, Calls Tryd.prog 7 #[.agg (hdv a b c n H).toArray] u fun e u' => e = .returned (.bool true) ∧ Below u.heap.size u u') := Lib.hid (by rw [← ho]; exact HRT.out)
        have HPQ := Lib.hid (HPT.out ho)
        by_cases hq : (T2.toList == X.toList) = true
        · have HISQ : Hid (isH L = true) := Lib.hid (by rw [HIS.out, ho, hq]; rfl)
          clear HRT HPT HIS ho
          refine region_invX [(0, 46), (1, 47), (2, 48), (3, 49), (4, 50), (5, 51), (6, 52), (7, 53), (8, 54), (9, 55)]
            (fun ii => [Is (.agg (hdv a b c n H).toArray), Is (.bool true), Is (.bool false), Is (.bool false), Is (.agg (hdv a b c n H).toArray), Is (.string T2), Is (.string s), Is (.string X), Is (.bool false), Is (.bool false)].getD ii (Is undef))
            (fun w' => Below v7.heap.size v7 w') (by kernel_rfl) (by kernel_rfl) (by decide) (by decide) (by kernel_rfl) rfl ?monoF ((Below.refl _ _).drew) ?stepF ?finF
          case monoF =>
            intro i
            match i with
            | 0 | 1 | 2 | 3 | 4 | 5 | 6 | 7 | 8 | 9 => exact Is.monot _
            | _ + 10 => exact Is.monot _
          case stepF =>
            refine List.forall_mem_cons.2 ⟨?Fs0, List.forall_mem_cons.2 ⟨?Fs1, List.forall_mem_cons.2 ⟨?Fs2, List.forall_mem_cons.2 ⟨?Fs3, List.forall_mem_cons.2 ⟨?Fs4, List.forall_mem_cons.2 ⟨?Fs5, List.forall_mem_cons.2 ⟨?Fs6, List.forall_mem_cons.2 ⟨?Fs7, List.forall_mem_cons.2 ⟨?Fs8, List.forall_mem_cons.2 ⟨?Fs9, List.forall_mem_nil _⟩⟩⟩⟩⟩⟩⟩⟩⟩⟩
            case Fs0 =>
              intro u wx hg hC
              clear hC
              generalize hA : puts [(0, 46), (1, 47), (2, 48), (3, 49), (4, 50), (5, 51), (6, 52), (7, 53), (8, 54), (9, 55)] _ u = A
              have hp : A.tmps.getD 4 undef = (.pointer (some ⟨u1.heap.size, 0, none⟩)) := by rw [← hA]; exact (puts_get_out u _ _ 4 (by decide)).trans (by rfl)
              have hsz : 46 < A.tmps.size := by rw [← hA]; exact puts_room u (by kernel_rfl)
              refine wpOp_step rfl (fun K hK => ?_)
              clear hA
              exact opLoadK (φ := Is (.agg (hdv a b c n H).toArray)) (K9.out.step hg) _ (fits_rhead) (LV.out) 46 rfl hsz hK (.tmp 4) rfl hp rfl hg
            case Fs1 =>
              intro u wx hg hC
              have hJ0 : u 0 = (.agg (hdv a b c n H).toArray) := hC.at 0 (by kernel_rfl)
              clear hC
              refine wpOp_step rfl (fun K hK => ?_)
              simp only [puts, List.foldl]
              go_simp
              refine (HRQ.out wx).mono ?_
              rintro e w' ⟨rfl, hb'⟩
              exact hK _ _ ⟨rfl, rfl, hg.next hb', hb'⟩
            case Fs2 =>
              intro u wx hg hC
              have hJ1 : u 1 = (.bool true) := hC.at 1 (by kernel_rfl)
              clear hC
              refine wpOp_step rfl (fun K hK => ?_)
              simp only [puts, List.foldl]
              go_simp
              exact hK _ _ ⟨rfl, rfl, hg, Below.refl _ _⟩
            case Fs3 =>
              intro u wx hg hC
              have hJ2 : u 2 = (.bool false) := hC.at 2 (by kernel_rfl)
              clear hC
              refine wpOp_step rfl (fun K hK => ?_)
              simp only [puts, List.foldl]
              go_simp
              exact hK _ _ ⟨rfl, rfl, hg, Below.refl _ _⟩
            case Fs4 =>
              intro u wx hg hC
              have hJ3 : u 3 = (.bool false) := hC.at 3 (by kernel_rfl)
              clear hC
              generalize hA : puts [(0, 46), (1, 47), (2, 48), (3, 49), (4, 50), (5, 51), (6, 52), (7, 53), (8, 54), (9, 55)] _ u = A
              have hgv : A.tmps.getD 49 undef = .bool false := by rw [← hA]; exact (puts_get u 3 49 _ _ (by decide) (by decide) (by kernel_rfl)).trans hJ3
              have hgs : 49 < A.tmps.size := by rw [← hA]; exact puts_room u (by kernel_rfl)
              have hp : A.tmps.getD 4 undef = (.pointer (some ⟨u1.heap.size, 0, none⟩)) := by rw [← hA]; exact (puts_get_out u _ _ 4 (by decide)).trans (by rfl)
              have hsz : 50 < A.tmps.size := by rw [← hA]; exact puts_room u (by kernel_rfl)
              refine wpOp_guard rfl 3 49 false rfl rfl hgs hgv (fun K hK => ?_)
              clear hA
              exact opLoadK (φ := Is (.agg (hdv a b c n H).toArray)) (K9.out.step hg) _ (fits_rhead) (LV.out) 50 rfl hsz hK (.tmp 4) rfl hp rfl hg
            case Fs5 =>
              intro u wx hg hC
              have hJ3 : u 3 = (.bool false) := hC.at 3 (by kernel_rfl)
              have hJ4 : u 4 = (.agg (hdv a b c n H).toArray) := hC.at 4 (by kernel_rfl)
              clear hC
              generalize hA : puts [(0, 46), (1, 47), (2, 48), (3, 49), (4, 50), (5, 51), (6, 52), (7, 53), (8, 54), (9, 55)] _ u = A
              have hgv : A.tmps.getD 49 undef = .bool false := by rw [← hA]; exact (puts_get u 3 49 _ _ (by decide) (by decide) (by kernel_rfl)).trans hJ3
              have hgs : 49 < A.tmps.size := by rw [← hA]; exact puts_room u (by kernel_rfl)
              refine wpOp_guard rfl 3 49 false rfl rfl hgs hgv (fun K hK => ?_)
              subst hA
              simp only [puts, List.foldl]
              go_simp
              refine (HPQ.out wx).mono ?_
              rintro e w' ⟨rfl, hb'⟩
              exact hK _ _ ⟨rfl, rfl, hg.next hb', hb'⟩
            case Fs6 =>
              intro u wx hg hC
              have hJ3 : u 3 = (.bool false) := hC.at 3 (by kernel_rfl)
              clear hC
              generalize hA : puts [(0, 46), (1, 47), (2, 48), (3, 49), (4, 50), (5, 51), (6, 52), (7, 53), (8, 54), (9, 55)] _ u = A
              have hgv : A.tmps.getD 49 undef = .bool false := by rw [← hA]; exact (puts_get u 3 49 _ _ (by decide) (by decide) (by kernel_rfl)).trans hJ3
              have hgs : 49 < A.tmps.size := by rw [← hA]; exact puts_room u (by kernel_rfl)
              refine wpOp_guard rfl 3 49 false rfl rfl hgs hgv (fun K hK => ?_)
              subst hA
              simp only [puts, List.foldl]
              go_simp
              exact hK _ _ ⟨rfl, rfl, hg, Below.refl _ _⟩
            case Fs7 =>
              intro u wx hg hC
              have hJ3 : u 3 = (.bool false) := hC.at 3 (by kernel_rfl)
              have hJ6 : u 6 = (.string s) := hC.at 6 (by kernel_rfl)
              clear hC
              generalize hA : puts [(0, 46), (1, 47), (2, 48), (3, 49), (4, 50), (5, 51), (6, 52), (7, 53), (8, 54), (9, 55)] _ u = A
              have hgv : A.tmps.getD 49 undef = .bool false := by rw [← hA]; exact (puts_get u 3 49 _ _ (by decide) (by decide) (by kernel_rfl)).trans hJ3
              have hgs : 49 < A.tmps.size := by rw [← hA]; exact puts_room u (by kernel_rfl)
              refine wpOp_guard rfl 3 49 false rfl rfl hgs hgv (fun K hK => ?_)
              subst hA
              simp only [puts, List.foldl]
              go_simp
              exact hK _ _ ⟨rfl, rfl, hg, Below.refl _ _⟩
            case Fs8 =>
              intro u wx hg hC
              have hJ3 : u 3 = (.bool false) := hC.at 3 (by kernel_rfl)
              have hJ5 : u 5 = (.string T2) := hC.at 5 (by kernel_rfl)
              have hJ7 : u 7 = (.string X) := hC.at 7 (by kernel_rfl)
              clear hC
              generalize hA : puts [(0, 46), (1, 47), (2, 48), (3, 49), (4, 50), (5, 51), (6, 52), (7, 53), (8, 54), (9, 55)] _ u = A
              have hgv : A.tmps.getD 49 undef = .bool false := by rw [← hA]; exact (puts_get u 3 49 _ _ (by decide) (by decide) (by kernel_rfl)).trans hJ3
              have hgs : 49 < A.tmps.size := by rw [← hA]; exact puts_room u (by kernel_rfl)
              refine wpOp_guard rfl 3 49 false rfl rfl hgs hgv (fun K hK => ?_)
              subst hA
              simp only [puts, List.foldl]
              go_simp
              exact hK _ _ ⟨rfl, rfl, hg, Below.refl _ _⟩
            case Fs9 =>
              intro u wx hg hC
              have hJ3 : u 3 = (.bool false) := hC.at 3 (by kernel_rfl)
              have hJ8 : u 8 = (.bool false) := hC.at 8 (by kernel_rfl)
              clear hC
              refine wpOp_step rfl (fun K hK => ?_)
              simp only [puts, List.foldl]
              go_simp
              exact hK _ _ ⟨rfl, rfl, hg, Below.refl _ _⟩
          case finF =>
            intro u wx hg hC
            have hC9 : u 9 = .bool false := hC (9, 55) (by decide)
            have R10 := Lib.hid (R9.out.step hg)
            have K10 := Lib.hid (K9.out.step hg)
            have B10 : Hid (Below w.heap.size w wx) := Lib.hid (B9.out.next hg)
            clear hg
            simp only [puts, List.foldl]
            rw [hC9]
            go_simp
            clear hC hC9
            go_wp2_with (first | ((with_reducible refine R10.out.wpStoreK 29 (hdv a b c n H) fits_rhead LZ.out LV.out V1.out ?_ ?_); rfl; intro u11 r11 o11 s11; have R11 := Lib.hid r11; have O11 := Lib.hid o11; clear r11 o11 s11) | ((with_reducible refine K10.out.wpLoadK 29 fits_rhead LV.out ?_ ?_); rfl))
            exact bodyPost_ret (R11.out.resultT rfl _ _ rfl Tryd.underlying29 rfl (by rw [LV.out]; exact fits_rhead.size)) rfl ⟨fun h => rfl, fun h => absurd h (by rw [HISQ.out]; simp), B10.out.trans (O11.out.below (Nat.le_refl _) B10.out.size)⟩
        · have hq : (T2.toList == X.toList) = false := by simpa using hq
          have HISQ : Hid (isH L = false) := Lib.hid (by rw [HIS.out, ho, hq]; rfl)
          clear HRT HPT HIS ho
          refine region_invX [(0, 46), (1, 47), (2, 48), (3, 49), (4, 50), (5, 51), (6, 52), (7, 53), (8, 54), (9, 55)]
            (fun ii => [Is (.agg (hdv a b c n H).toArray), Is (.bool true), Is (.bool false), Is (.bool false), Is (.agg (hdv a b c n H).toArray), Is (.string T2), Is (.string s), Is (.string X), Is (.bool true), Is (.bool true)].getD ii (Is undef))
            (fun w' => Below v7.heap.size v7 w') (by kernel_rfl) (by kernel_rfl) (by decide) (by decide) (by kernel_rfl) rfl ?monoG ((Below.refl _ _).drew) ?stepG ?finG
          case monoG =>
            intro i
            match i with
            | 0 | 1 | 2 | 3 | 4 | 5 | 6 | 7 | 8 | 9 => exact Is.monot _
            | _ + 10 => exact Is.monot _
          case stepG =>
            refine List.forall_mem_cons.2 ⟨?Gs0, List.forall_mem_cons.2 ⟨?Gs1, List.forall_mem_cons.2 ⟨?Gs2, List.forall_mem_cons.2 ⟨?Gs3, List.forall_mem_cons.2 ⟨?Gs4, List.forall_mem_cons.2 ⟨?Gs5, List.forall_mem_cons.2 ⟨?Gs6, List.forall_mem_cons.2 ⟨?Gs7, List.forall_mem_cons.2 ⟨?Gs8, List.forall_mem_cons.2 ⟨?Gs9, List.forall_mem_nil _⟩⟩⟩⟩⟩⟩⟩⟩⟩⟩
            case Gs0 =>
              intro u wx hg hC
              clear hC
              generalize hA : puts [(0, 46), (1, 47), (2, 48), (3, 49), (4, 50), (5, 51), (6, 52), (7, 53), (8, 54), (9, 55)] _ u = A
              have hp : A.tmps.getD 4 undef = (.pointer (some ⟨u1.heap.size, 0, none⟩)) := by rw [← hA]; exact (puts_get_out u _ _ 4 (by decide)).trans (by rfl)
              have hsz : 46 < A.tmps.size := by rw [← hA]; exact puts_room u (by kernel_rfl)
              refine wpOp_step rfl (fun K hK => ?_)
              clear hA
              exact opLoadK (φ := Is (.agg (hdv a b c n H).toArray)) (K9.out.step hg) _ (fits_rhead) (LV.out) 46 rfl hsz hK (.tmp 4) rfl hp rfl hg
            case Gs1 =>
              intro u wx hg hC
              have hJ0 : u 0 = (.agg (hdv a b c n H).toArray) := hC.at 0 (by kernel_rfl)
              clear hC
              refine wpOp_step rfl (fun K hK => ?_)
              simp only [puts, List.foldl]
              go_simp
              refine (HRQ.out wx).mono ?_
              rintro e w' ⟨rfl, hb'⟩
              exact hK _ _ ⟨rfl, rfl, hg.next hb', hb'⟩
            case Gs2 =>
              intro u wx hg hC
              have hJ1 : u 1 = (.bool true) := hC.at 1 (by kernel_rfl)
              clear hC
              refine wpOp_step rfl (fun K hK => ?_)
              simp only [puts, List.foldl]
              go_simp
              exact hK _ _ ⟨rfl, rfl, hg, Below.refl _ _⟩
            case Gs3 =>
              intro u wx hg hC
              have hJ2 : u 2 = (.bool false) := hC.at 2 (by kernel_rfl)
              clear hC
              refine wpOp_step rfl (fun K hK => ?_)
              simp only [puts, List.foldl]
              go_simp
              exact hK _ _ ⟨rfl, rfl, hg, Below.refl _ _⟩
            case Gs4 =>
              intro u wx hg hC
              have hJ3 : u 3 = (.bool false) := hC.at 3 (by kernel_rfl)
              clear hC
              generalize hA : puts [(0, 46), (1, 47), (2, 48), (3, 49), (4, 50), (5, 51), (6, 52), (7, 53), (8, 54), (9, 55)] _ u = A
              have hgv : A.tmps.getD 49 undef = .bool false := by rw [← hA]; exact (puts_get u 3 49 _ _ (by decide) (by decide) (by kernel_rfl)).trans hJ3
              have hgs : 49 < A.tmps.size := by rw [← hA]; exact puts_room u (by kernel_rfl)
              have hp : A.tmps.getD 4 undef = (.pointer (some ⟨u1.heap.size, 0, none⟩)) := by rw [← hA]; exact (puts_get_out u _ _ 4 (by decide)).trans (by rfl)
              have hsz : 50 < A.tmps.size := by rw [← hA]; exact puts_room u (by kernel_rfl)
              refine wpOp_guard rfl 3 49 false rfl rfl hgs hgv (fun K hK => ?_)
              clear hA
              exact opLoadK (φ := Is (.agg (hdv a b c n H).toArray)) (K9.out.step hg) _ (fits_rhead) (LV.out) 50 rfl hsz hK (.tmp 4) rfl hp rfl hg
            case Gs5 =>
              intro u wx hg hC
              have hJ3 : u 3 = (.bool false) := hC.at 3 (by kernel_rfl)
              have hJ4 : u 4 = (.agg (hdv a b c n H).toArray) := hC.at 4 (by kernel_rfl)
              clear hC
              generalize hA : puts [(0, 46), (1, 47), (2, 48), (3, 49), (4, 50), (5, 51), (6, 52), (7, 53), (8, 54), (9, 55)] _ u = A
              have hgv : A.tmps.getD 49 undef = .bool false := by rw [← hA]; exact (puts_get u 3 49 _ _ (by decide) (by decide) (by kernel_rfl)).trans hJ3
              have hgs : 49 < A.tmps.size := by rw [← hA]; exact puts_room u (by kernel_rfl)
              refine wpOp_guard rfl 3 49 false rfl rfl hgs hgv (fun K hK => ?_)
              subst hA
              simp only [puts, List.foldl]
              go_simp
              refine (HPQ.out wx).mono ?_
              rintro e w' ⟨rfl, hb'⟩
              exact hK _ _ ⟨rfl, rfl, hg.next hb', hb'⟩
            case Gs6 =>
              intro u wx hg hC
              have hJ3 : u 3 = (.bool false) := hC.at 3 (by kernel_rfl)
              clear hC
              generalize hA : puts [(0, 46), (1, 47), (2, 48), (3, 49), (4, 50), (5, 51), (6, 52), (7, 53), (8, 54), (9, 55)] _ u = A
              have hgv : A.tmps.getD 49 undef = .bool false := by rw [← hA]; exact (puts_get u 3 49 _ _ (by decide) (by decide) (by kernel_rfl)).trans hJ3
              have hgs : 49 < A.tmps.size := by rw [← hA]; exact puts_room u (by kernel_rfl)
              refine wpOp_guard rfl 3 49 false rfl rfl hgs hgv (fun K hK => ?_)
              subst hA
              simp only [puts, List.foldl]
              go_simp
              exact hK _ _ ⟨rfl, rfl, hg, Below.refl _ _⟩
            case Gs7 =>
              intro u wx hg hC
              have hJ3 : u 3 = (.bool false) := hC.at 3 (by kernel_rfl)
              have hJ6 : u 6 = (.string s) := hC.at 6 (by kernel_rfl)
              clear hC
              generalize hA : puts [(0, 46), (1, 47), (2, 48), (3, 49), (4, 50), (5, 51), (6, 52), (7, 53), (8, 54), (9, 55)] _ u = A
              have hgv : A.tmps.getD 49 undef = .bool false := by rw [← hA]; exact (puts_get u 3 49 _ _ (by decide) (by decide) (by kernel_rfl)).trans hJ3
              have hgs : 49 < A.tmps.size := by rw [← hA]; exact puts_room u (by kernel_rfl)
              refine wpOp_guard rfl 3 49 false rfl rfl hgs hgv (fun K hK => ?_)
              subst hA
              simp only [puts, List.foldl]
              go_simp
              exact hK _ _ ⟨rfl, rfl, hg, Below.refl _ _⟩
            case Gs8 =>
              intro u wx hg hC
              have hJ3 : u 3 = (.bool false) := hC.at 3 (by kernel_rfl)
              have hJ5 : u 5 = (.string T2) := hC.at 5 (by kernel_rfl)
              have hJ7 : u 7 = (.string X) := hC.at 7 (by kernel_rfl)
              clear hC
              generalize hA : puts [(0, 46), (1, 47), (2, 48), (3, 49), (4, 50), (5, 51), (6, 52), (7, 53), (8, 54), (9, 55)] _ u = A
              have hgv : A.tmps.getD 49 undef = .bool false := by rw [← hA]; exact (puts_get u 3 49 _ _ (by decide) (by decide) (by kernel_rfl)).trans hJ3
              have hgs : 49 < A.tmps.size := by rw [← hA]; exact puts_room u (by kernel_rfl)
              refine wpOp_guard rfl 3 49 false rfl rfl hgs hgv (fun K hK => ?_)
              subst hA
              simp only [puts, List.foldl]
              go_simp
              exact hK _ _ ⟨rfl, rfl, hg, Below.refl _ _⟩
            case Gs9 =>
              intro u wx hg hC
              have hJ3 : u 3 = (.bool false) := hC.at 3 (by kernel_rfl)
              have hJ8 : u 8 = (.bool true) := hC.at 8 (by kernel_rfl)
              clear hC
              refine wpOp_step rfl (fun K hK => ?_)
              simp only [puts, List.foldl]
              go_simp
              exact hK _ _ ⟨rfl, rfl, hg, Below.refl _ _⟩
          case finG =>
            intro u wx hg hC
            have hC9 : u 9 = .bool true := hC (9, 55) (by decide)
            have R10 := Lib.hid (R9.out.step hg)
            have K10 := Lib.hid (K9.out.step hg)
            have B10 : Hid (Below w.heap.size w wx) := Lib.hid (B9.out.next hg)
            clear hg
            simp only [puts, List.foldl]
            rw [hC9]
            go_simp
            clear hC hC9
            go_wp2_with (first | ((with_reducible refine R10.out.wpStoreK 29 (hdv 0 0 0 0 (List.replicate 32 0)) fits_rhead LZ.out LZ.out Z1.out ?_ ?_); rfl; intro u11 r11 o11 s11; have R11 := Lib.hid r11; have O11 := Lib.hid o11; clear r11 o11 s11))
            exact bodyPost_ret (R11.out.resultT rfl _ _ rfl Tryd.underlying29 rfl (by rw [LZ.out]; exact fits_rhead.size)) rfl ⟨fun h => absurd h (by rw [HISQ.out]; simp), fun h => rfl, B10.out.trans (O11.out.below (Nat.le_refl _) B10.out.size)⟩
      · have ho : hOk a b c n = false := by simpa using ho
        have HRQ : Hid (∀ u, Calls Tryd.prog 7 #[.agg (hdv a b c n H).toArray] u fun e u' => e = .returned (.bool false) ∧ Below u.heap.size u u') := Lib.hid (by rw [← ho]; exact HRT.out)
        have HISQ : Hid (isH L = false) := Lib.hid (by rw [HIS.out, ho]; rfl)
        clear HRT HPT HIS ho
        refine region_invX [(0, 46), (1, 47), (2, 48), (3, 49), (4, 50), (5, 51), (6, 52), (7, 53), (8, 54), (9, 55)]
          (fun ii => [Is (.agg (hdv a b c n H).toArray), Is (.bool false), Is (.bool true), Is (.bool true), Is undef, Is undef, Is undef, Is undef, Is undef, Is (.bool true)].getD ii (Is undef))
          (fun w' => Below v7.heap.size v7 w') (by kernel_rfl) (by kernel_rfl) (by decide) (by decide) (by kernel_rfl) rfl ?monoH ((Below.refl _ _).drew) ?stepH ?finH
        case monoH =>
          intro i
          match i with
          | 0 | 1 | 2 | 3 | 4 | 5 | 6 | 7 | 8 | 9 => exact Is.monot _
          | _ + 10 => exact Is.monot _
        case stepH =>
          refine List.forall_mem_cons.2 ⟨?Hs0, List.forall_mem_cons.2 ⟨?Hs1, List.forall_mem_cons.2 ⟨?Hs2, List.forall_mem_cons.2 ⟨?Hs3, List.forall_mem_cons.2 ⟨?Hs4, List.forall_mem_cons.2 ⟨?Hs5, List.forall_mem_cons.2 ⟨?Hs6, List.forall_mem_cons.2 ⟨?Hs7, List.forall_mem_cons.2 ⟨?Hs8, List.forall_mem_cons.2 ⟨?Hs9, List.forall_mem_nil _⟩⟩⟩⟩⟩⟩⟩⟩⟩⟩
          case Hs0 =>
            intro u wx hg hC
            clear hC
            generalize hA : puts [(0, 46), (1, 47), (2, 48), (3, 49), (4, 50), (5, 51), (6, 52), (7, 53), (8, 54), (9, 55)] _ u = A
            have hp : A.tmps.getD 4 undef = (.pointer (some ⟨u1.heap.size, 0, none⟩)) := by rw [← hA]; exact (puts_get_out u _ _ 4 (by decide)).trans (by rfl)
            have hsz : 46 < A.tmps.size := by rw [← hA]; exact puts_room u (by kernel_rfl)
            refine wpOp_step rfl (fun K hK => ?_)
            clear hA
            exact opLoadK (φ := Is (.agg (hdv a b c n H).toArray)) (K9.out.step hg) _ (fits_rhead) (LV.out) 46 rfl hsz hK (.tmp 4) rfl hp rfl hg
          case Hs1 =>
            intro u wx hg hC
            have hJ0 : u 0 = (.agg (hdv a b c n H).toArray) := hC.at 0 (by kernel_rfl)
            clear hC
            refine wpOp_step rfl (fun K hK => ?_)
            simp only [puts, List.foldl]
            go_simp
            refine (HRQ.out wx).mono ?_
            rintro e w' ⟨rfl, hb'⟩
            exact hK _ _ ⟨rfl, rfl, hg.next hb', hb'⟩
          case Hs2 =>
            intro u wx hg hC
            have hJ1 : u 1 = (.bool false) := hC.at 1 (by kernel_rfl)
            clear hC
            refine wpOp_step rfl (fun K hK => ?_)
            simp only [puts, List.foldl]
            go_simp
            exact hK _ _ ⟨rfl, rfl, hg, Below.refl _ _⟩
          case Hs3 =>
            intro u wx hg hC
            have hJ2 : u 2 = (.bool true) := hC.at 2 (by kernel_rfl)
            clear hC
            refine wpOp_step rfl (fun K hK => ?_)
            simp only [puts, List.foldl]
            go_simp
            exact hK _ _ ⟨rfl, rfl, hg, Below.refl _ _⟩
          case Hs4 =>
            intro u wx hg hC
            have hJ3 : u 3 = (.bool true) := hC.at 3 (by kernel_rfl)
            clear hC
            generalize hA : puts [(0, 46), (1, 47), (2, 48), (3, 49), (4, 50), (5, 51), (6, 52), (7, 53), (8, 54), (9, 55)] _ u = A
            have hgv : A.tmps.getD 49 undef = .bool true := by rw [← hA]; exact (puts_get u 3 49 _ _ (by decide) (by decide) (by kernel_rfl)).trans hJ3
            have hgs : 49 < A.tmps.size := by rw [← hA]; exact puts_room u (by kernel_rfl)
            refine wpOp_skip rfl 3 49 false rfl rfl hgs hgv ?_
            subst hA
            simp only [puts, List.foldl]
            go_simp
            first | exact ⟨rfl, hg, Below.refl _ _⟩ | exact ⟨rfl, hg⟩ | exact ⟨rfl, Below.refl _ _⟩ | exact ⟨rfl, rfl, hg, Below.refl _ _⟩ | exact ⟨hg, Below.refl _ _⟩
          case Hs5 =>
            intro u wx hg hC
            have hJ3 : u 3 = (.bool true) := hC.at 3 (by kernel_rfl)
            clear hC
            generalize hA : puts [(0, 46), (1, 47), (2, 48), (3, 49), (4, 50), (5, 51), (6, 52), (7, 53), (8, 54), (9, 55)] _ u = A
            have hgv : A.tmps.getD 49 undef = .bool true := by rw [← hA]; exact (puts_get u 3 49 _ _ (by decide) (by decide) (by kernel_rfl)).trans hJ3
            have hgs : 49 < A.tmps.size := by rw [← hA]; exact puts_room u (by kernel_rfl)
            refine wpOp_skip rfl 3 49 false rfl rfl hgs hgv ?_
            subst hA
            simp only [puts, List.foldl]
            go_simp
            first | exact ⟨rfl, hg, Below.refl _ _⟩ | exact ⟨rfl, hg⟩ | exact ⟨rfl, Below.refl _ _⟩ | exact ⟨rfl, rfl, hg, Below.refl _ _⟩ | exact ⟨hg, Below.refl _ _⟩
          case Hs6 =>
            intro u wx hg hC
            have hJ3 : u 3 = (.bool true) := hC.at 3 (by kernel_rfl)
            clear hC
            generalize hA : puts [(0, 46), (1, 47), (2, 48), (3, 49), (4, 50), (5, 51), (6, 52), (7, 53), (8, 54), (9, 55)] _ u = A
            have hgv : A.tmps.getD 49 undef = .bool true := by rw [← hA]; exact (puts_get u 3 49 _ _ (by decide) (by decide) (by kernel_rfl)).trans hJ3
            have hgs : 49 < A.tmps.size := by rw [← hA]; exact puts_room u (by kernel_rfl)
            refine wpOp_skip rfl 3 49 false rfl rfl hgs hgv ?_
            subst hA
            simp only [puts, List.foldl]
            go_simp
            first | exact ⟨rfl, hg, Below.refl _ _⟩ | exact ⟨rfl, hg⟩ | exact ⟨rfl, Below.refl _ _⟩ | exact ⟨rfl, rfl, hg, Below.refl _ _⟩ | exact ⟨hg, Below.refl _ _⟩
          case Hs7 =>
            intro u wx hg hC
            have hJ3 : u 3 = (.bool true) := hC.at 3 (by kernel_rfl)
            clear hC
            generalize hA : puts [(0, 46), (1, 47), (2, 48), (3, 49), (4, 50), (5, 51), (6, 52), (7, 53), (8, 54), (9, 55)] _ u = A
            have hgv : A.tmps.getD 49 undef = .bool true := by rw [← hA]; exact (puts_get u 3 49 _ _ (by decide) (by decide) (by kernel_rfl)).trans hJ3
            have hgs : 49 < A.tmps.size := by rw [← hA]; exact puts_room u (by kernel_rfl)
            refine wpOp_skip rfl 3 49 false rfl rfl hgs hgv ?_
            subst hA
            simp only [puts, List.foldl]
            go_simp
            first | exact ⟨rfl, hg, Below.refl _ _⟩ | exact ⟨rfl, hg⟩ | exact ⟨rfl, Below.refl _ _⟩ | exact ⟨rfl, rfl, hg, Below.refl _ _⟩ | exact ⟨hg, Below.refl _ _⟩
          case Hs8 =>
            intro u wx hg hC
            have hJ3 : u 3 = (.bool true) := hC.at 3 (by kernel_rfl)
            clear hC
            generalize hA : puts [(0, 46), (1, 47), (2, 48), (3, 49), (4, 50), (5, 51), (6, 52), (7, 53), (8, 54), (9, 55)] _ u = A
            have hgv : A.tmps.getD 49 undef = .bool true := by rw [← hA]; exact (puts_get u 3 49 _ _ (by decide) (by decide) (by kernel_rfl)).trans hJ3
            have hgs : 49 < A.tmps.size := by rw [← hA]; exact puts_room u (by kernel_rfl)
            refine wpOp_skip rfl 3 49 false rfl rfl hgs hgv ?_
            subst hA
            simp only [puts, List.foldl]
            go_simp
            first | exact ⟨rfl, hg, Below.refl _ _⟩ | exact ⟨rfl, hg⟩ | exact ⟨rfl, Below.refl _ _⟩ | exact ⟨rfl, rfl, hg, Below.refl _ _⟩ | exact ⟨hg, Below.refl _ _⟩
          case Hs9 =>
            intro u wx hg hC
            have hJ3 : u 3 = (.bool true) := hC.at 3 (by kernel_rfl)
            have hJ8 : u 8 = undef := hC.at 8 (by kernel_rfl)
            clear hC
            refine wpOp_step rfl (fun K hK => ?_)
            simp only [puts, List.foldl]
            go_simp
            exact hK _ _ ⟨rfl, rfl, hg, Below.refl _ _⟩
        case finH =>
          intro u wx hg hC
          have hC9 : u 9 = .bool true := hC (9, 55) (by decide)
          have R10 := Lib.hid (R9.out.step hg)
          have K10 := Lib.hid (K9.out.step hg)
          have B10 : Hid (Below w.heap.size w wx) := Lib.hid (B9.out.next hg)
          clear hg
          simp only [puts, List.foldl]
          rw [hC9]
          go_simp
          clear hC hC9
          go_wp2_with (first | ((with_reducible refine R10.out.wpStoreK 29 (hdv 0 0 0 0 (List.replicate 32 0)) fits_rhead LZ.out LZ.out Z1.out ?_ ?_); rfl; intro u11 r11 o11 s11; have R11 := Lib.hid r11; have O11 := Lib.hid o11; clear r11 o11 s11))
          exact bodyPost_ret (R11.out.resultT rfl _ _ rfl Tryd.underlying29 rfl (by rw [LZ.out]; exact fits_rhead.size)) rfl ⟨fun h => absurd h (by rw [HISQ.out]; simp), fun h => rfl, B10.out.trans (O11.out.below (Nat.le_refl _) B10.out.size)⟩

/-- The document's Get, whatever the bytes. -/
theorem rhead_get_any (s : ByteArray) (L : List UInt8) (V : List Value) (E : Int) (w : World) (hL : s.data.toList = L) (hs : s.size ≤ 140737488355328) (h : GetIs L V E) :
    Calls Tryd.prog 11 #[.string s] w fun e w' => e = .returned (.tuple #[.agg V.toArray, .int .i64 E]) ∧ Below w.heap.size w w' := by
  have hz : L.length = s.size := by rw [← hL, size_list]
  rcases h with ⟨h1, rfl, rfl⟩ | ⟨h1, h2, rfl, rfl⟩ | ⟨h1, h2, rfl, rfl⟩
  · exact rhead_get_short s w (by omega)
  · exact (rhead_get_long s L _ _ _ _ _ w hL hs (by omega) rfl rfl rfl rfl rfl).mono fun e w' h => ⟨h.1 h2, h.2.2⟩
  · exact (rhead_get_long s L _ _ _ _ _ w hL hs (by omega) rfl rfl rfl rfl rfl).mono fun e w' h => ⟨h.2.1 h2, h.2.2⟩
end Go.Proofs.YtbcilifdgpfmnaaDoor
