/- The document's Mac (gen_sha_macr.py). -/
import Derived.Test.YtmphjmbnfaimiaaDoorShaSA
import Derived.Test.YtmphjmbnfaimiaaDoorShaT
import Derived.Test.YtmphjmbnfaimiaaDoorShaW
namespace Go.Proofs.YtmphjmbnfaimiaaDoor
open Go.RowKit ShaMath
set_option linter.unusedVariables false
set_option maxRecDepth 100000

/-- Two lists of bytes that grow, side by side. -/
structure TwoS (U w : World) (v u : Value) (n m : Nat) (xs ys : List Value) : Prop where
  own1 : w.ownsRow U.heap.size 5 1 v n xs
  own2 : w.ownsRow U.heap.size 5 1 u m ys
  ne : ∀ x, v.ownBlock = some x → u.ownBlock ≠ some x
  below : Below U.heap.size U w
theorem TwoS.alloc {U w : World} {v u : Value} {n m : Nat} {xs ys : List Value} (h : TwoS U w v u n m xs ys) (o : Obj) : TwoS U (w.alloc o) v u n m xs ys := ⟨h.own1.alloc o, h.own2.alloc o, h.ne, h.below.alloc h.below.size o⟩
theorem TwoS.grow1 {U w w1 : World} {v u v' : Value} {n m : Nat} {xs ys : List Value} {x : Value} (h : TwoS U w v u n m xs ys)
    (g1 : w1.ownsRow U.heap.size 5 1 v' (n + 1) (xs ++ [x])) (g2 : w.grownBy w1 v.ownBlock) (g3 : v'.ownBlock = v.ownBlock ∨ v'.ownBlock = some w.heap.size) : TwoS U w1 v' u (n + 1) m (xs ++ [x]) ys := by
  have hk : w1.ownsRow U.heap.size 5 1 u m ys := h.own2.kept g2 (by
    cases hv : v.ownBlock with
    | none => cases hu : u.ownBlock with
      | none => exact .inl rfl
      | some y => exact .inr (fun e => by cases e)
    | some y => exact .inr (h.ne y hv))
  refine ⟨g1, hk, fun y hy => ?_, h.below.grown g2 h.below.size (fun j hj => (h.own1.lt j hj).1)⟩
  rcases g3 with e | e
  · exact h.ne y (e ▸ hy)
  · intro hu
    have := (h.own2.lt y hu).2
    rw [e] at hy
    cases hy
    omega
theorem TwoS.grow2 {U w w1 : World} {v u u' : Value} {n m : Nat} {xs ys : List Value} {x : Value} (h : TwoS U w v u n m xs ys)
    (g1 : w1.ownsRow U.heap.size 5 1 u' (m + 1) (ys ++ [x])) (g2 : w.grownBy w1 u.ownBlock) (g3 : u'.ownBlock = u.ownBlock ∨ u'.ownBlock = some w.heap.size) : TwoS U w1 v u' n (m + 1) xs (ys ++ [x]) := by
  have hk : w1.ownsRow U.heap.size 5 1 v n xs := h.own1.kept g2 (by
    cases hv : v.ownBlock with
    | none => cases hu : u.ownBlock with
      | none => exact .inl rfl
      | some y => exact .inr (fun e => by cases e)
    | some y => exact .inr (fun e => h.ne y hv e.symm))
  refine ⟨hk, g1, fun y hy => ?_, h.below.grown g2 h.below.size (fun j hj => (h.own2.lt j hj).1)⟩
  rcases g3 with e | e
  · rw [e]; exact h.ne y hy
  · intro hu
    have := (h.own1.lt y hy).2
    rw [e] at hu
    cases hu
    omega
theorem two_start (U : World) : TwoS U ((U.alloc (.cells #[] 5)).alloc (.cells #[] 5)) (.slice (some ⟨U.heap.size, 0, none⟩) 0 0) (.slice (some ⟨U.heap.size + 1, 0, none⟩) 0 0) 0 0 [] [] := by
  have hs : (U.alloc (.cells #[] 5)).heap.size = U.heap.size + 1 := by simp
  refine ⟨?_, ?_, ?_, ?_⟩
  · have h1 : Row (U.alloc (.cells #[] 5)) U.heap.size 5 ([] ++ []) := Row.new U _ []
    exact (h1.owns (base := U.heap.size) (n := 0) (cap := 0) (Nat.le_refl _) rfl rfl (by omega) (by unfold maxLen; omega)).alloc _
  · have h1 : Row ((U.alloc (.cells #[] 5)).alloc (.cells #[] 5)) (U.alloc (.cells #[] 5)).heap.size 5 ([] ++ []) := Row.new (U.alloc (.cells #[] 5)) _ []
    rw [hs] at h1
    exact h1.owns (base := U.heap.size) (n := 0) (cap := 0) (by omega) rfl rfl (by omega) (by unfold maxLen; omega)
  · intro x hx hy
    simp only [Value.ownBlock, Option.some.injEq] at hx hy
    omega
  · exact ((Below.refl _ _).alloc (Nat.le_refl _) _).alloc (by simp) _
theorem agn_get (T : List UInt8) (x : UInt8) (k : Nat) (hT : T.length ≤ 64) (hk : k < 64) (b : UInt8) (hb : b = if h : k < T.length then T[k] else 0) : (agn T x)[k]? = some (b ^^^ x) := by
  rw [agn, List.getElem?_map]
  by_cases h : k < T.length
  · rw [List.getElem?_append_left h, List.getElem?_eq_getElem h, hb, dif_pos h]; rfl
  · rw [List.getElem?_append_right (by omega), List.getElem?_replicate, if_pos (by omega), hb, dif_neg h]; rfl
theorem agn_next (T : List UInt8) (x : UInt8) (k : Nat) (hT : T.length ≤ 64) (hk : k < 64) (b : UInt8) (hb : b = if h : k < T.length then T[k] else 0) : bytes ((agn T x).take (k + 1)) = bytes ((agn T x).take k) ++ [.int .u8 ((b ^^^ x).toNat : Int)] := by
  rw [List.take_add_one, agn_get T x k hT hk b hb, bytes_append]
  rfl

set_option maxHeartbeats 8000000 in
theorem refMac_any (x y : Value) (key s : ByteArray) (M : List UInt8) (w : World) (hM : mac key.data.toList s.data.toList = M) (hw : Wds w (.agg #[x, y])) (hk : key.size ≤ 300) (hs : s.size ≤ 3000) :
    Calls Tryd.prog 17 #[.agg #[x, y], .string key, .string s] w fun e w' => e = .returned (.agg (bytes M).toArray) ∧ Below w.heap.size w w' := by
  obtain ⟨D0, hD0⟩ : ∃ D, sha key.data.toList = D := ⟨_, rfl⟩
  have lD0 : D0.length = 32 := by rw [← hD0, sha_length]
  obtain ⟨T, hT⟩ : ∃ T : ByteArray, T = if 64 < key.size then str D0 else key := ⟨_, rfl⟩
  have hTs : T.size ≤ 64 := by
    rw [hT]
    split
    · rw [str_size, lD0]; omega
    · omega
  obtain ⟨TL, hTL⟩ : ∃ L, T.data.toList = L := ⟨_, rfl⟩
  have hTLl : TL.length = T.size := by rw [← hTL, size_list]
  obtain ⟨A1, hA1⟩ : ∃ A, agn TL 54 = A := ⟨_, rfl⟩
  obtain ⟨A2, hA2⟩ : ∃ A, agn TL 92 = A := ⟨_, rfl⟩
  have lA1 : A1.length = 64 := by rw [← hA1, agn_length _ _ (by omega)]
  have lA2 : A2.length = 64 := by rw [← hA2, agn_length _ _ (by omega)]
  obtain ⟨E, hE⟩ : ∃ E, sha (A1 ++ s.data.toList) = E := ⟨_, rfl⟩
  have lE : E.length = 32 := by rw [← hE, sha_length]
  have hmac : sha (A2 ++ E) = M := by
    have hk2 : (if 64 < key.data.toList.length then sha key.data.toList else key.data.toList) = TL := by
      rw [size_list, ← hTL, hT, hD0]
      split
      · rw [str_list]
      · rfl
    rw [← hM, mac, hk2, ← hE, ← hA1, ← hA2]
  have lM : M.length = 32 := by rw [← hmac, sha_length]
  have HS0 : Hid (∀ u, Wds u (.agg #[x, y]) → Calls Tryd.prog 9 #[.agg #[x, y], .string key] u fun e w' => e = .returned (.agg (bytes D0).toArray) ∧ Below u.heap.size u w') := Lib.hid fun u h => sx_refSum _ key D0 u hD0 (by omega) h
  have HB0 : Hid (∀ u, Calls Tryd.prog 27 #[.agg (bytes D0).toArray] u fun e w' => e = .returned (.string (str D0)) ∧ Below u.heap.size u w') := Lib.hid fun u => refBytes_any D0 u lD0
  have HBE : Hid (∀ u, Calls Tryd.prog 27 #[.agg (bytes E).toArray] u fun e w' => e = .returned (.string (str E)) ∧ Below u.heap.size u w') := Lib.hid fun u => refBytes_any E u lE
  have HS1 : Hid (∀ u, Wds u (.agg #[x, y]) → Calls Tryd.prog 9 #[.agg #[x, y], .string (str A1 ++ s)] u fun e w' => e = .returned (.agg (bytes E).toArray) ∧ Below u.heap.size u w') := Lib.hid fun u h => sx_refSum _ _ E u (by rw [← hE]; simp [str]) (by rw [ByteArray.size_append, str_size, lA1]; omega) h
  have HS2 : Hid (∀ u, Wds u (.agg #[x, y]) → Calls Tryd.prog 9 #[.agg #[x, y], .string (str A2 ++ str E)] u fun e w' => e = .returned (.agg (bytes M).toArray) ∧ Below u.heap.size u w') := Lib.hid fun u h => sx_refSum _ _ M u (by rw [← hmac]; simp [str]) (by rw [ByteArray.size_append, str_size, str_size, lA2, lE]; omega) h
  have HNX : Hid (∀ (k : Nat) (b : UInt8), k < 64 → (b = if h : k < TL.length then TL[k] else 0) → bytes (A1.take (k + 1)) = bytes (A1.take k) ++ [.int .u8 ((b ^^^ 54).toNat : Int)] ∧ bytes (A2.take (k + 1)) = bytes (A2.take k) ++ [.int .u8 ((b ^^^ 92).toNat : Int)]) := Lib.hid fun k b h hb => ⟨by rw [← hA1]; exact agn_next TL 54 k (by omega) h b hb, by rw [← hA2]; exact agn_next TL 92 k (by omega) h b hb⟩
  have HTL := Lib.hid hTL
  have HTLL := Lib.hid hTLl
  have LA1 := Lib.hid lA1
  have LA2 := Lib.hid lA2
  have LO : Hid ((bytes (List.replicate 32 0)).length = 32) := Lib.hid (by rw [bytes_length]; simp)
  have LM : Hid ((bytes M).length = 32) := Lib.hid (by rw [bytes_length, lM])
  have LM1 : Hid ((bytes M).all (·.oneCell') = true) := Lib.hid (bytes_one _)
  obtain ⟨V1, hV1⟩ : ∃ V, str A1 = V := ⟨_, rfl⟩
  obtain ⟨V2, hV2⟩ : ∃ V, str A2 = V := ⟨_, rfl⟩
  obtain ⟨VE, hVE⟩ : ∃ V, str E = V := ⟨_, rfl⟩
  have z1 : V1.size = 64 := by rw [← hV1, str_size, lA1]
  have z2 : V2.size = 64 := by rw [← hV2, str_size, lA2]
  have z3 : VE.size = 32 := by rw [← hVE, str_size, lE]
  obtain ⟨X1, hX1⟩ : ∃ X, V1 ++ s = X := ⟨_, rfl⟩
  obtain ⟨X2, hX2⟩ : ∃ X, V2 ++ VE = X := ⟨_, rfl⟩
  rw [hVE] at HBE
  rw [hV1, hX1] at HS1
  rw [hV2, hVE, hX2] at HS2
  have HV1 := Lib.hid hV1
  have HV2 := Lib.hid hV2
  have HX1 := Lib.hid hX1
  have HX2 := Lib.hid hX2
  clear hV1 hV2 hVE hX1 hX2
  have hszi : (s.size : Int) ≤ 3000 := by omega
  have HW := Lib.hid hw
  by_cases hbig : 64 < key.size
  · have hT' : Hid (str D0 = T) := Lib.hid (by rw [hT, if_pos hbig])
    have hki : 64 < (key.size : Int) := by omega
    clear hD0 lD0 hT hTL hTLl hA1 hA2 lA1 lA2 hE lE hmac hM lM hw hbig
    go_enter Tryd.func17, Tryd.ntmps17
    go_wp2_with (first
      | ((with_reducible refine wpBoxK (w := w) [x, y] 27 ?_ ?_); rfl; intro u1 r1 b1 s1; have C1 := Lib.hid r1; have W1 := Lib.hid (sx_wds_step HW.out b1); have B1 := Lib.hid b1; clear r1 b1 s1)
      | ((with_reducible refine wpAllocK (w := u1) (bytes (List.replicate 32 0)) 31 zero32 ?_ ?_); rfl; intro u2 r2 b2 s2; have Q2 := Lib.hid r2; have C2 := Lib.hid (C1.out.step b2); have W2 := Lib.hid (sx_wds_step W1.out b2); have B2 : Hid (Below w.heap.size w u2) := Lib.hid (B1.out.next b2); clear r2 b2 s2)
      | ((with_reducible refine C2.out.wpLoadK 27 sx_fits_words rfl ?_ ?_); rfl)
      | (go_at_call 9; (with_reducible refine (HS0.out u2 W2.out).mono ?_); rintro e u3 ⟨rfl, b3⟩; have C3 := Lib.hid (C2.out.step b3); have Q3 := Lib.hid (Q2.out.step b3); have W3 := Lib.hid (sx_wds_step W2.out b3); have B3 : Hid (Below w.heap.size w u3) := Lib.hid (B2.out.next b3); clear b3)
      | (go_at_call 27; (with_reducible refine (HB0.out u3).mono ?_); rw [hT'.out]; rintro e u4 ⟨rfl, b4⟩; have C4 := Lib.hid (C3.out.step b4); have Q4 := Lib.hid (Q3.out.step b4); have W4 := Lib.hid (sx_wds_step W3.out b4); have B4 : Hid (Below w.heap.size w u4) := Lib.hid (B3.out.next b4); clear b4))
    have HTW := Lib.hid (two_start u4)
    clear hki
    go_loopw [7, 8, 9, 10] (fun v u i c wr => ∃ k : Nat, k ≤ 64 ∧ i = .int .i64 k ∧ TwoS u4 wr v u k k (bytes (A1.take k)) (bytes (A2.take k))) (fun _ _ i _ _ => 64 - (intOf i).toNat)
    case atStart => exact ⟨0, Nat.zero_le _, rfl, HTW.out⟩
    case round =>
      clear HTW
      obtain ⟨k, hk64, rfl, htw⟩ := hrel
      have HT2 := Lib.hid htw
      clear htw
      by_cases hlt : k < 64
      · obtain ⟨b, hb⟩ : ∃ b : UInt8, b = if h : k < TL.length then TL[k] else 0 := ⟨_, rfl⟩
        obtain ⟨n1, n2⟩ := HNX.out k b hlt hb
        have HN1 := Lib.hid n1
        have HN2 := Lib.hid n2
        have x1 : bits .xor .u8 (b.toNat : Int) 54 = ((b ^^^ 54).toNat : Int) := xor_u8 b 54
        have x2 : bits .xor .u8 (b.toNat : Int) 92 = ((b ^^^ 92).toNat : Int) := xor_u8 b 92
        obtain ⟨c1, hc1⟩ : ∃ c : UInt8, b ^^^ 54 = c := ⟨_, rfl⟩
        obtain ⟨c2, hc2⟩ : ∃ c : UInt8, b ^^^ 92 = c := ⟨_, rfl⟩
        rw [hc1] at x1 HN1
        rw [hc2] at x2 HN2
        have T1 := Lib.hid (HT2.out.alloc (.cells #[.int .u8 (c1.toNat : Int)] 5))
        have L1 : Hid (Lies (wr.alloc (.cells #[.int .u8 (c1.toNat : Int)] 5)) (wr.alloc (.cells #[.int .u8 (c1.toNat : Int)] 5)).heap.size (some ⟨wr.heap.size, 0, none⟩) [.int .u8 (c1.toNat : Int)]) := Lib.hid (Lies.new [_] _ _)
        have Z1 := Lib.hid T1.out.below.size
        have O1 : Hid ((Value.int .u8 (c1.toNat : Int)).oneCell' = true) := Lib.hid rfl
        have O2 : Hid ((Value.int .u8 (c2.toNat : Int)).oneCell' = true) := Lib.hid rfl
        have L2 : Hid (∀ u : World, Lies (u.alloc (.cells #[.int .u8 (c2.toNat : Int)] 5)) (u.alloc (.cells #[.int .u8 (c2.toNat : Int)] 5)).heap.size (some ⟨u.heap.size, 0, none⟩) [.int .u8 (c2.toNat : Int)]) := Lib.hid fun u => Lies.new [_] _ _
        have HPK : Big (k + 1 ≤ 1099511627776) := ⟨by omega⟩
        have hk1 : (k : Int) < 64 := by omega
        have hb8 : (b.toNat : Int) < 256 := by have := b.toNat_lt; omega
        have hbw : IntKind.u8.wrap (b.toNat : Int) = (b.toNat : Int) := by
          have := b.toNat_lt
          rw [IntKind.wrap_u8]
          omega
        by_cases hin : k < T.size
        · have hbe : T[k] = b := by
            have h1 : k < TL.length := by rw [HTLL.out]; exact hin
            rw [hb, dif_pos h1]
            simp only [← HTL.out]
            simp [ByteArray.getElem_eq_getElem_data]
          have hini : (k : Int) < (T.size : Int) := by omega
          have hind : decide ((k : Int) < (T.size : Int)) = true := by simpa using hini
          clear hb n1 n2 hc1 hc2
          go_wp2_with (first
            | ((with_reducible refine wpAppend1K T1.out.own1 Tryd.underlying47 sha_one_byte L1.out O1.out HPK Z1.out ?_ ?_); rfl; intro v1 w1 g1 g2 g3; have T2 := Lib.hid ((T1.out.grow1 g1 g2 g3).alloc (.cells #[.int .u8 (c2.toNat : Int)] 5)); have Z2 := Lib.hid T2.out.below.size; clear g1 g2 g3)
            | ((with_reducible refine wpAppend1K T2.out.own2 Tryd.underlying47 sha_one_byte (L2.out w1) O2.out HPK Z2.out ?_ ?_); rfl; intro v2 w2 g1 g2 g3; have T3 := Lib.hid (T2.out.grow2 g1 g2 g3); clear g1 g2 g3))
          go_roundw
          case rel => exact ⟨k + 1, by omega, by go_num, by rw [HN1.out, HN2.out]; exact T3.out⟩
          case measure => simp [intOf]; omega
        · have hb0 : b = 0 := by rw [hb, dif_neg (by rw [HTLL.out]; exact hin)]
          have hini : ¬ (k : Int) < (T.size : Int) := by omega
          have hind : decide ((k : Int) < (T.size : Int)) = false := by simpa using hini
          have x1' : bits .xor .u8 0 54 = (c1.toNat : Int) := by rw [← x1, hb0]; rfl
          have x2' : bits .xor .u8 0 92 = (c2.toNat : Int) := by rw [← x2, hb0]; rfl
          clear hb n1 n2 hc1 hc2 x1 x2 hb8 hbw hb0
          go_wp2_with (first
            | ((with_reducible refine wpAppend1K T1.out.own1 Tryd.underlying47 sha_one_byte L1.out O1.out HPK Z1.out ?_ ?_); rfl; intro v1 w1 g1 g2 g3; have T2 := Lib.hid ((T1.out.grow1 g1 g2 g3).alloc (.cells #[.int .u8 (c2.toNat : Int)] 5)); have Z2 := Lib.hid T2.out.below.size; clear g1 g2 g3)
            | ((with_reducible refine wpAppend1K T2.out.own2 Tryd.underlying47 sha_one_byte (L2.out w1) O2.out HPK Z2.out ?_ ?_); rfl; intro v2 w2 g1 g2 g3; have T3 := Lib.hid (T2.out.grow2 g1 g2 g3); clear g1 g2 g3))
          go_roundw
          case rel => exact ⟨k + 1, by omega, by go_num, by rw [HN1.out, HN2.out]; exact T3.out⟩
          case measure => simp [intOf]; omega
      · have ek : k = 64 := by omega
        obtain ⟨v9, rfl⟩ : ∃ v9, v9 = wr := ⟨_, rfl⟩
        have HF : Hid (TwoS u4 v9 u7 u8 k k (bytes A1) (bytes A2)) := Lib.hid (by
          have h := HT2.out
          rwa [ek, List.take_of_length_le (by rw [LA1.out]; omega), List.take_of_length_le (by rw [LA2.out]; omega), ← ek] at h)
        have C9 := Lib.hid (C4.out.step HF.out.below)
        have Q9 := Lib.hid (Q4.out.step HF.out.below)
        have W9 := Lib.hid (sx_wds_step W4.out HF.out.below)
        have B9 : Hid (Below w.heap.size w v9) := Lib.hid (B4.out.next HF.out.below)
        have hk1 : ¬ (k : Int) < 64 := by omega
        have hkd : decide ((k : Int) < 64) = false := by simpa using hk1
        clear HT2 ek hlt hk64
        go_wp2
        refine region_storeT 12 0 [] (by decide) [(0, 41), (1, 42), (2, 43), (3, 44), (4, 45), (5, 46), (6, 47), (7, 48), (8, 49), (9, 50), (10, 51), (11, 52)]
          (fun ii => [Is (.agg ([x, y]).toArray), Is u8, Is (.string V2), Is (.agg ([x, y]).toArray), Is u7, Is (.string V1), Is (.string s), Is (.string X1), Is (.agg (bytes E).toArray), Is (.string VE), Is (.string X2), Is (.agg (bytes M).toArray), Is undef].getD ii (Is undef))
          (fun w' => Below v9.heap.size v9 w') (fun v w' => Row w' u1.heap.size 31 (bytes M) ∧ Below w.heap.size w w') (by kernel_rfl) (by decide) (by kernel_rfl) (by kernel_rfl) (by decide) (by decide) (by kernel_rfl) rfl (by kernel_rfl) ?monoA ((Below.refl _ _).drew) ?stepA ?stepXA ?stepSA ?finA
        case monoA =>
          intro i
          match i with
          | 0 | 1 | 2 | 3 | 4 | 5 | 6 | 7 | 8 | 9 | 10 | 11 | 12 => exact Is.monot _
          | _ + 13 => exact Is.monot _
        case stepA =>
          refine List.forall_mem_cons.2 ⟨?As0, List.forall_mem_cons.2 ⟨?As1, List.forall_mem_cons.2 ⟨?As2, List.forall_mem_cons.2 ⟨?As3, List.forall_mem_cons.2 ⟨?As4, List.forall_mem_cons.2 ⟨?As5, List.forall_mem_cons.2 ⟨?As6, List.forall_mem_cons.2 ⟨?As7, List.forall_mem_cons.2 ⟨?As8, List.forall_mem_cons.2 ⟨?As9, List.forall_mem_cons.2 ⟨?As10, List.forall_mem_cons.2 ⟨?As11, List.forall_mem_nil _⟩⟩⟩⟩⟩⟩⟩⟩⟩⟩⟩⟩
          case As0 =>
            intro _
            intro u wx hg hC
            clear hC
            generalize hA : puts [(0, 41), (1, 42), (2, 43), (3, 44), (4, 45), (5, 46), (6, 47), (7, 48), (8, 49), (9, 50), (10, 51), (11, 52)] _ u = A
            have hp : A.tmps.getD 3 undef = (.pointer (some ⟨w.heap.size, 0, none⟩)) := by rw [← hA]; exact (puts_get_out u _ _ 3 (by decide)).trans (by rfl)
            have hsz : 41 < A.tmps.size := by rw [← hA]; exact puts_room u (by kernel_rfl)
            refine wpOp_step rfl (fun K hK => ?_)
            clear hA
            exact opLoadK (φ := Is (.agg ([x, y]).toArray)) (C9.out.step hg) _ (sx_fits_words) (rfl) 41 rfl hsz hK (.tmp 3) rfl hp rfl hg
          case As1 =>
            intro _
            intro u wx hg hC
            clear hC
            refine wpOp_step rfl (fun K hK => ?_)
            simp only [puts, List.foldl]
            go_simp
            exact hK _ _ ⟨rfl, rfl, hg, Below.refl _ _⟩
          case As2 =>
            intro _
            intro u wx hg hC
            have hJ1 : u 1 = u8 := hC.at 1 (by kernel_rfl)
            clear hC
            have hconv := own_string (own_below HF.out.own2 hg)
            rw [HV2.out] at hconv
            refine wpOp_step rfl (fun K hK => ?_)
            simp only [puts, List.foldl]
            go_simp
            exact hK _ _ ⟨rfl, rfl, hg, Below.refl _ _⟩
          case As3 =>
            intro _
            intro u wx hg hC
            clear hC
            generalize hA : puts [(0, 41), (1, 42), (2, 43), (3, 44), (4, 45), (5, 46), (6, 47), (7, 48), (8, 49), (9, 50), (10, 51), (11, 52)] _ u = A
            have hp : A.tmps.getD 3 undef = (.pointer (some ⟨w.heap.size, 0, none⟩)) := by rw [← hA]; exact (puts_get_out u _ _ 3 (by decide)).trans (by rfl)
            have hsz : 44 < A.tmps.size := by rw [← hA]; exact puts_room u (by kernel_rfl)
            refine wpOp_step rfl (fun K hK => ?_)
            clear hA
            exact opLoadK (φ := Is (.agg ([x, y]).toArray)) (C9.out.step hg) _ (sx_fits_words) (rfl) 44 rfl hsz hK (.tmp 3) rfl hp rfl hg
          case As4 =>
            intro _
            intro u wx hg hC
            clear hC
            refine wpOp_step rfl (fun K hK => ?_)
            simp only [puts, List.foldl]
            go_simp
            exact hK _ _ ⟨rfl, rfl, hg, Below.refl _ _⟩
          case As5 =>
            intro _
            intro u wx hg hC
            have hJ4 : u 4 = u7 := hC.at 4 (by kernel_rfl)
            clear hC
            have hconv := own_string (own_below HF.out.own1 hg)
            rw [HV1.out] at hconv
            refine wpOp_step rfl (fun K hK => ?_)
            simp only [puts, List.foldl]
            go_simp
            exact hK _ _ ⟨rfl, rfl, hg, Below.refl _ _⟩
          case As6 =>
            intro _
            intro u wx hg hC
            clear hC
            refine wpOp_step rfl (fun K hK => ?_)
            simp only [puts, List.foldl]
            go_simp
            exact hK _ _ ⟨rfl, rfl, hg, Below.refl _ _⟩
          case As7 =>
            intro _
            intro u wx hg hC
            have hJ5 : u 5 = (.string V1) := hC.at 5 (by kernel_rfl)
            have hJ6 : u 6 = (.string s) := hC.at 6 (by kernel_rfl)
            clear hC
            have hxx := HX1.out
            refine wpOp_step rfl (fun K hK => ?_)
            simp only [puts, List.foldl]
            go_simp
            rw [if_neg (by omega)]
            go_simp
            exact hK _ _ ⟨rfl, rfl, hg, Below.refl _ _⟩
          case As8 =>
            intro _
            intro u wx hg hC
            have hJ3 : u 3 = (.agg ([x, y]).toArray) := hC.at 3 (by kernel_rfl)
            have hJ7 : u 7 = (.string X1) := hC.at 7 (by kernel_rfl)
            clear hC
            refine wpOp_step rfl (fun K hK => ?_)
            simp only [puts, List.foldl]
            go_simp
            refine (HS1.out wx (sx_wds_step W9.out hg)).mono ?_
            rintro e w' ⟨rfl, hb'⟩
            exact hK _ _ ⟨rfl, rfl, hg.next hb', hb'⟩
          case As9 =>
            intro _
            intro u wx hg hC
            have hJ8 : u 8 = (.agg (bytes E).toArray) := hC.at 8 (by kernel_rfl)
            clear hC
            refine wpOp_step rfl (fun K hK => ?_)
            simp only [puts, List.foldl]
            go_simp
            refine (HBE.out wx).mono ?_
            rintro e w' ⟨rfl, hb'⟩
            exact hK _ _ ⟨rfl, rfl, hg.next hb', hb'⟩
          case As10 =>
            intro _
            intro u wx hg hC
            have hJ2 : u 2 = (.string V2) := hC.at 2 (by kernel_rfl)
            have hJ9 : u 9 = (.string VE) := hC.at 9 (by kernel_rfl)
            clear hC
            have hxx := HX2.out
            refine wpOp_step rfl (fun K hK => ?_)
            simp only [puts, List.foldl]
            go_simp
            exact hK _ _ ⟨rfl, rfl, hg, Below.refl _ _⟩
          case As11 =>
            intro _
            intro u wx hg hC
            have hJ0 : u 0 = (.agg ([x, y]).toArray) := hC.at 0 (by kernel_rfl)
            have hJ10 : u 10 = (.string X2) := hC.at 10 (by kernel_rfl)
            clear hC
            refine wpOp_step rfl (fun K hK => ?_)
            simp only [puts, List.foldl]
            go_simp
            refine (HS2.out wx (sx_wds_step W9.out hg)).mono ?_
            rintro e w' ⟨rfl, hb'⟩
            exact hK _ _ ⟨rfl, rfl, hg.next hb', hb'⟩
        case stepXA =>
          refine List.forall_mem_cons.2 ⟨?Ax0, List.forall_mem_cons.2 ⟨?Ax1, List.forall_mem_cons.2 ⟨?Ax2, List.forall_mem_cons.2 ⟨?Ax3, List.forall_mem_cons.2 ⟨?Ax4, List.forall_mem_cons.2 ⟨?Ax5, List.forall_mem_cons.2 ⟨?Ax6, List.forall_mem_cons.2 ⟨?Ax7, List.forall_mem_cons.2 ⟨?Ax8, List.forall_mem_cons.2 ⟨?Ax9, List.forall_mem_cons.2 ⟨?Ax10, List.forall_mem_cons.2 ⟨?Ax11, List.forall_mem_nil _⟩⟩⟩⟩⟩⟩⟩⟩⟩⟩⟩⟩
          case Ax0 =>
            intro hx; exact absurd hx (by decide)
          case Ax1 =>
            intro hx; exact absurd hx (by decide)
          case Ax2 =>
            intro hx; exact absurd hx (by decide)
          case Ax3 =>
            intro hx; exact absurd hx (by decide)
          case Ax4 =>
            intro hx; exact absurd hx (by decide)
          case Ax5 =>
            intro hx; exact absurd hx (by decide)
          case Ax6 =>
            intro hx; exact absurd hx (by decide)
          case Ax7 =>
            intro hx; exact absurd hx (by decide)
          case Ax8 =>
            intro hx; exact absurd hx (by decide)
          case Ax9 =>
            intro hx; exact absurd hx (by decide)
          case Ax10 =>
            intro hx; exact absurd hx (by decide)
          case Ax11 =>
            intro hx; exact absurd hx (by decide)
        case stepSA =>
          intro u wx hg hC
          have hJ11 : u 11 = .agg (bytes M).toArray := hC (11, 52) (by decide) (by decide)
          clear hC
          generalize hA : puts [(0, 41), (1, 42), (2, 43), (3, 44), (4, 45), (5, 46), (6, 47), (7, 48), (8, 49), (9, 50), (10, 51), (11, 52)] _ u = A
          have hp : A.tmps.getD 6 undef = .pointer (some ⟨u1.heap.size, 0, none⟩) := by rw [← hA]; exact (puts_get_out u _ _ 6 (by decide)).trans (by rfl)
          have hq : A.tmps.getD 52 undef = .agg (bytes M).toArray := by rw [← hA]; exact (puts_get u 11 52 _ _ (by decide) (by decide) (by kernel_rfl)).trans hJ11
          refine wpOp_step rfl (fun K hK => ?_)
          clear hA
          exact opStoreK (H := fun w' => Row w' u1.heap.size 31 (bytes M) ∧ Below w.heap.size w w') (Q9.out.step hg) _ (bytes M) fits_hash LO.out LM.out LM1.out hK (.tmp 6) (.tmp 52) rfl hp hq fun w' h1 h2 h3 => ⟨h1, (B9.out.next hg).trans (h2.below B1.out.size (B9.out.next hg).size)⟩
        case finA =>
          intro u u3' hh hφ
          obtain ⟨r3, b3⟩ := hh
          clear hφ
          simp only [puts, List.foldl]
          go_simp
          go_wp2
          exact bodyPost_ret (r3.result rfl _ _ rfl Tryd.underlying31 rfl (by rw [LM.out]; exact fits_hash.size)) rfl ⟨rfl, b3⟩

  · have hT' : T = key := by rw [hT, if_neg hbig]
    have hki : (key.size : Int) ≤ 64 := by omega
    have hkd : decide (64 < (key.size : Int)) = false := by simpa using hki
    clear hD0 lD0 hT hTL hTLl hA1 hA2 lA1 lA2 hE lE hmac hM lM hw hbig
    subst hT'
    go_enter Tryd.func17, Tryd.ntmps17
    go_wp2_with (first
      | ((with_reducible refine wpBoxK (w := w) [x, y] 27 ?_ ?_); rfl; intro u1 r1 b1 s1; have C1 := Lib.hid r1; have W1 := Lib.hid (sx_wds_step HW.out b1); have B1 := Lib.hid b1; clear r1 b1 s1)
      | ((with_reducible refine wpAllocK (w := u1) (bytes (List.replicate 32 0)) 31 zero32 ?_ ?_); rfl; intro u2 r2 b2 s2; have Q2 := Lib.hid r2; have C2 := Lib.hid (C1.out.step b2); have W2 := Lib.hid (sx_wds_step W1.out b2); have B2 : Hid (Below w.heap.size w u2) := Lib.hid (B1.out.next b2); clear r2 b2 s2))
    obtain ⟨u4, h4⟩ : ∃ u4, u4 = u2 := ⟨_, rfl⟩
    rw [← h4] at C2 Q2 W2 B2 ⊢
    have C4 := C2
    have Q4 := Q2
    have W4 := W2
    have B4 := B2
    clear C2 Q2 W2 B2 h4
    have HTW := Lib.hid (two_start u4)
    clear hki
    go_loopw [7, 8, 9, 10] (fun v u i c wr => ∃ k : Nat, k ≤ 64 ∧ i = .int .i64 k ∧ TwoS u4 wr v u k k (bytes (A1.take k)) (bytes (A2.take k))) (fun _ _ i _ _ => 64 - (intOf i).toNat)
    case atStart => exact ⟨0, Nat.zero_le _, rfl, HTW.out⟩
    case round =>
      clear HTW
      obtain ⟨k, hk64, rfl, htw⟩ := hrel
      have HT2 := Lib.hid htw
      clear htw
      by_cases hlt : k < 64
      · obtain ⟨b, hb⟩ : ∃ b : UInt8, b = if h : k < TL.length then TL[k] else 0 := ⟨_, rfl⟩
        obtain ⟨n1, n2⟩ := HNX.out k b hlt hb
        have HN1 := Lib.hid n1
        have HN2 := Lib.hid n2
        have x1 : bits .xor .u8 (b.toNat : Int) 54 = ((b ^^^ 54).toNat : Int) := xor_u8 b 54
        have x2 : bits .xor .u8 (b.toNat : Int) 92 = ((b ^^^ 92).toNat : Int) := xor_u8 b 92
        obtain ⟨c1, hc1⟩ : ∃ c : UInt8, b ^^^ 54 = c := ⟨_, rfl⟩
        obtain ⟨c2, hc2⟩ : ∃ c : UInt8, b ^^^ 92 = c := ⟨_, rfl⟩
        rw [hc1] at x1 HN1
        rw [hc2] at x2 HN2
        have T1 := Lib.hid (HT2.out.alloc (.cells #[.int .u8 (c1.toNat : Int)] 5))
        have L1 : Hid (Lies (wr.alloc (.cells #[.int .u8 (c1.toNat : Int)] 5)) (wr.alloc (.cells #[.int .u8 (c1.toNat : Int)] 5)).heap.size (some ⟨wr.heap.size, 0, none⟩) [.int .u8 (c1.toNat : Int)]) := Lib.hid (Lies.new [_] _ _)
        have Z1 := Lib.hid T1.out.below.size
        have O1 : Hid ((Value.int .u8 (c1.toNat : Int)).oneCell' = true) := Lib.hid rfl
        have O2 : Hid ((Value.int .u8 (c2.toNat : Int)).oneCell' = true) := Lib.hid rfl
        have L2 : Hid (∀ u : World, Lies (u.alloc (.cells #[.int .u8 (c2.toNat : Int)] 5)) (u.alloc (.cells #[.int .u8 (c2.toNat : Int)] 5)).heap.size (some ⟨u.heap.size, 0, none⟩) [.int .u8 (c2.toNat : Int)]) := Lib.hid fun u => Lies.new [_] _ _
        have HPK : Big (k + 1 ≤ 1099511627776) := ⟨by omega⟩
        have hk1 : (k : Int) < 64 := by omega
        have hb8 : (b.toNat : Int) < 256 := by have := b.toNat_lt; omega
        have hbw : IntKind.u8.wrap (b.toNat : Int) = (b.toNat : Int) := by
          have := b.toNat_lt
          rw [IntKind.wrap_u8]
          omega
        by_cases hin : k < T.size
        · have hbe : T[k] = b := by
            have h1 : k < TL.length := by rw [HTLL.out]; exact hin
            rw [hb, dif_pos h1]
            simp only [← HTL.out]
            simp [ByteArray.getElem_eq_getElem_data]
          have hini : (k : Int) < (T.size : Int) := by omega
          have hind : decide ((k : Int) < (T.size : Int)) = true := by simpa using hini
          clear hb n1 n2 hc1 hc2
          go_wp2_with (first
            | ((with_reducible refine wpAppend1K T1.out.own1 Tryd.underlying47 sha_one_byte L1.out O1.out HPK Z1.out ?_ ?_); rfl; intro v1 w1 g1 g2 g3; have T2 := Lib.hid ((T1.out.grow1 g1 g2 g3).alloc (.cells #[.int .u8 (c2.toNat : Int)] 5)); have Z2 := Lib.hid T2.out.below.size; clear g1 g2 g3)
            | ((with_reducible refine wpAppend1K T2.out.own2 Tryd.underlying47 sha_one_byte (L2.out w1) O2.out HPK Z2.out ?_ ?_); rfl; intro v2 w2 g1 g2 g3; have T3 := Lib.hid (T2.out.grow2 g1 g2 g3); clear g1 g2 g3))
          go_roundw
          case rel => exact ⟨k + 1, by omega, by go_num, by rw [HN1.out, HN2.out]; exact T3.out⟩
          case measure => simp [intOf]; omega
        · have hb0 : b = 0 := by rw [hb, dif_neg (by rw [HTLL.out]; exact hin)]
          have hini : ¬ (k : Int) < (T.size : Int) := by omega
          have hind : decide ((k : Int) < (T.size : Int)) = false := by simpa using hini
          have x1' : bits .xor .u8 0 54 = (c1.toNat : Int) := by rw [← x1, hb0]; rfl
          have x2' : bits .xor .u8 0 92 = (c2.toNat : Int) := by rw [← x2, hb0]; rfl
          clear hb n1 n2 hc1 hc2 x1 x2 hb8 hbw hb0
          go_wp2_with (first
            | ((with_reducible refine wpAppend1K T1.out.own1 Tryd.underlying47 sha_one_byte L1.out O1.out HPK Z1.out ?_ ?_); rfl; intro v1 w1 g1 g2 g3; have T2 := Lib.hid ((T1.out.grow1 g1 g2 g3).alloc (.cells #[.int .u8 (c2.toNat : Int)] 5)); have Z2 := Lib.hid T2.out.below.size; clear g1 g2 g3)
            | ((with_reducible refine wpAppend1K T2.out.own2 Tryd.underlying47 sha_one_byte (L2.out w1) O2.out HPK Z2.out ?_ ?_); rfl; intro v2 w2 g1 g2 g3; have T3 := Lib.hid (T2.out.grow2 g1 g2 g3); clear g1 g2 g3))
          go_roundw
          case rel => exact ⟨k + 1, by omega, by go_num, by rw [HN1.out, HN2.out]; exact T3.out⟩
          case measure => simp [intOf]; omega
      · have ek : k = 64 := by omega
        obtain ⟨v9, rfl⟩ : ∃ v9, v9 = wr := ⟨_, rfl⟩
        have HF : Hid (TwoS u4 v9 u7 u8 k k (bytes A1) (bytes A2)) := Lib.hid (by
          have h := HT2.out
          rwa [ek, List.take_of_length_le (by rw [LA1.out]; omega), List.take_of_length_le (by rw [LA2.out]; omega), ← ek] at h)
        have C9 := Lib.hid (C4.out.step HF.out.below)
        have Q9 := Lib.hid (Q4.out.step HF.out.below)
        have W9 := Lib.hid (sx_wds_step W4.out HF.out.below)
        have B9 : Hid (Below w.heap.size w v9) := Lib.hid (B4.out.next HF.out.below)
        have hk1 : ¬ (k : Int) < 64 := by omega
        have hkd : decide ((k : Int) < 64) = false := by simpa using hk1
        clear HT2 ek hlt hk64
        go_wp2
        refine region_storeT 12 0 [] (by decide) [(0, 41), (1, 42), (2, 43), (3, 44), (4, 45), (5, 46), (6, 47), (7, 48), (8, 49), (9, 50), (10, 51), (11, 52)]
          (fun ii => [Is (.agg ([x, y]).toArray), Is u8, Is (.string V2), Is (.agg ([x, y]).toArray), Is u7, Is (.string V1), Is (.string s), Is (.string X1), Is (.agg (bytes E).toArray), Is (.string VE), Is (.string X2), Is (.agg (bytes M).toArray), Is undef].getD ii (Is undef))
          (fun w' => Below v9.heap.size v9 w') (fun v w' => Row w' u1.heap.size 31 (bytes M) ∧ Below w.heap.size w w') (by kernel_rfl) (by decide) (by kernel_rfl) (by kernel_rfl) (by decide) (by decide) (by kernel_rfl) rfl (by kernel_rfl) ?monoB ((Below.refl _ _).drew) ?stepB ?stepXB ?stepSB ?finB
        case monoB =>
          intro i
          match i with
          | 0 | 1 | 2 | 3 | 4 | 5 | 6 | 7 | 8 | 9 | 10 | 11 | 12 => exact Is.monot _
          | _ + 13 => exact Is.monot _
        case stepB =>
          refine List.forall_mem_cons.2 ⟨?Bs0, List.forall_mem_cons.2 ⟨?Bs1, List.forall_mem_cons.2 ⟨?Bs2, List.forall_mem_cons.2 ⟨?Bs3, List.forall_mem_cons.2 ⟨?Bs4, List.forall_mem_cons.2 ⟨?Bs5, List.forall_mem_cons.2 ⟨?Bs6, List.forall_mem_cons.2 ⟨?Bs7, List.forall_mem_cons.2 ⟨?Bs8, List.forall_mem_cons.2 ⟨?Bs9, List.forall_mem_cons.2 ⟨?Bs10, List.forall_mem_cons.2 ⟨?Bs11, List.forall_mem_nil _⟩⟩⟩⟩⟩⟩⟩⟩⟩⟩⟩⟩
          case Bs0 =>
            intro _
            intro u wx hg hC
            clear hC
            generalize hA : puts [(0, 41), (1, 42), (2, 43), (3, 44), (4, 45), (5, 46), (6, 47), (7, 48), (8, 49), (9, 50), (10, 51), (11, 52)] _ u = A
            have hp : A.tmps.getD 3 undef = (.pointer (some ⟨w.heap.size, 0, none⟩)) := by rw [← hA]; exact (puts_get_out u _ _ 3 (by decide)).trans (by rfl)
            have hsz : 41 < A.tmps.size := by rw [← hA]; exact puts_room u (by kernel_rfl)
            refine wpOp_step rfl (fun K hK => ?_)
            clear hA
            exact opLoadK (φ := Is (.agg ([x, y]).toArray)) (C9.out.step hg) _ (sx_fits_words) (rfl) 41 rfl hsz hK (.tmp 3) rfl hp rfl hg
          case Bs1 =>
            intro _
            intro u wx hg hC
            clear hC
            refine wpOp_step rfl (fun K hK => ?_)
            simp only [puts, List.foldl]
            go_simp
            exact hK _ _ ⟨rfl, rfl, hg, Below.refl _ _⟩
          case Bs2 =>
            intro _
            intro u wx hg hC
            have hJ1 : u 1 = u8 := hC.at 1 (by kernel_rfl)
            clear hC
            have hconv := own_string (own_below HF.out.own2 hg)
            rw [HV2.out] at hconv
            refine wpOp_step rfl (fun K hK => ?_)
            simp only [puts, List.foldl]
            go_simp
            exact hK _ _ ⟨rfl, rfl, hg, Below.refl _ _⟩
          case Bs3 =>
            intro _
            intro u wx hg hC
            clear hC
            generalize hA : puts [(0, 41), (1, 42), (2, 43), (3, 44), (4, 45), (5, 46), (6, 47), (7, 48), (8, 49), (9, 50), (10, 51), (11, 52)] _ u = A
            have hp : A.tmps.getD 3 undef = (.pointer (some ⟨w.heap.size, 0, none⟩)) := by rw [← hA]; exact (puts_get_out u _ _ 3 (by decide)).trans (by rfl)
            have hsz : 44 < A.tmps.size := by rw [← hA]; exact puts_room u (by kernel_rfl)
            refine wpOp_step rfl (fun K hK => ?_)
            clear hA
            exact opLoadK (φ := Is (.agg ([x, y]).toArray)) (C9.out.step hg) _ (sx_fits_words) (rfl) 44 rfl hsz hK (.tmp 3) rfl hp rfl hg
          case Bs4 =>
            intro _
            intro u wx hg hC
            clear hC
            refine wpOp_step rfl (fun K hK => ?_)
            simp only [puts, List.foldl]
            go_simp
            exact hK _ _ ⟨rfl, rfl, hg, Below.refl _ _⟩
          case Bs5 =>
            intro _
            intro u wx hg hC
            have hJ4 : u 4 = u7 := hC.at 4 (by kernel_rfl)
            clear hC
            have hconv := own_string (own_below HF.out.own1 hg)
            rw [HV1.out] at hconv
            refine wpOp_step rfl (fun K hK => ?_)
            simp only [puts, List.foldl]
            go_simp
            exact hK _ _ ⟨rfl, rfl, hg, Below.refl _ _⟩
          case Bs6 =>
            intro _
            intro u wx hg hC
            clear hC
            refine wpOp_step rfl (fun K hK => ?_)
            simp only [puts, List.foldl]
            go_simp
            exact hK _ _ ⟨rfl, rfl, hg, Below.refl _ _⟩
          case Bs7 =>
            intro _
            intro u wx hg hC
            have hJ5 : u 5 = (.string V1) := hC.at 5 (by kernel_rfl)
            have hJ6 : u 6 = (.string s) := hC.at 6 (by kernel_rfl)
            clear hC
            have hxx := HX1.out
            refine wpOp_step rfl (fun K hK => ?_)
            simp only [puts, List.foldl]
            go_simp
            rw [if_neg (by omega)]
            go_simp
            exact hK _ _ ⟨rfl, rfl, hg, Below.refl _ _⟩
          case Bs8 =>
            intro _
            intro u wx hg hC
            have hJ3 : u 3 = (.agg ([x, y]).toArray) := hC.at 3 (by kernel_rfl)
            have hJ7 : u 7 = (.string X1) := hC.at 7 (by kernel_rfl)
            clear hC
            refine wpOp_step rfl (fun K hK => ?_)
            simp only [puts, List.foldl]
            go_simp
            refine (HS1.out wx (sx_wds_step W9.out hg)).mono ?_
            rintro e w' ⟨rfl, hb'⟩
            exact hK _ _ ⟨rfl, rfl, hg.next hb', hb'⟩
          case Bs9 =>
            intro _
            intro u wx hg hC
            have hJ8 : u 8 = (.agg (bytes E).toArray) := hC.at 8 (by kernel_rfl)
            clear hC
            refine wpOp_step rfl (fun K hK => ?_)
            simp only [puts, List.foldl]
            go_simp
            refine (HBE.out wx).mono ?_
            rintro e w' ⟨rfl, hb'⟩
            exact hK _ _ ⟨rfl, rfl, hg.next hb', hb'⟩
          case Bs10 =>
            intro _
            intro u wx hg hC
            have hJ2 : u 2 = (.string V2) := hC.at 2 (by kernel_rfl)
            have hJ9 : u 9 = (.string VE) := hC.at 9 (by kernel_rfl)
            clear hC
            have hxx := HX2.out
            refine wpOp_step rfl (fun K hK => ?_)
            simp only [puts, List.foldl]
            go_simp
            exact hK _ _ ⟨rfl, rfl, hg, Below.refl _ _⟩
          case Bs11 =>
            intro _
            intro u wx hg hC
            have hJ0 : u 0 = (.agg ([x, y]).toArray) := hC.at 0 (by kernel_rfl)
            have hJ10 : u 10 = (.string X2) := hC.at 10 (by kernel_rfl)
            clear hC
            refine wpOp_step rfl (fun K hK => ?_)
            simp only [puts, List.foldl]
            go_simp
            refine (HS2.out wx (sx_wds_step W9.out hg)).mono ?_
            rintro e w' ⟨rfl, hb'⟩
            exact hK _ _ ⟨rfl, rfl, hg.next hb', hb'⟩
        case stepXB =>
          refine List.forall_mem_cons.2 ⟨?Bx0, List.forall_mem_cons.2 ⟨?Bx1, List.forall_mem_cons.2 ⟨?Bx2, List.forall_mem_cons.2 ⟨?Bx3, List.forall_mem_cons.2 ⟨?Bx4, List.forall_mem_cons.2 ⟨?Bx5, List.forall_mem_cons.2 ⟨?Bx6, List.forall_mem_cons.2 ⟨?Bx7, List.forall_mem_cons.2 ⟨?Bx8, List.forall_mem_cons.2 ⟨?Bx9, List.forall_mem_cons.2 ⟨?Bx10, List.forall_mem_cons.2 ⟨?Bx11, List.forall_mem_nil _⟩⟩⟩⟩⟩⟩⟩⟩⟩⟩⟩⟩
          case Bx0 =>
            intro hx; exact absurd hx (by decide)
          case Bx1 =>
            intro hx; exact absurd hx (by decide)
          case Bx2 =>
            intro hx; exact absurd hx (by decide)
          case Bx3 =>
            intro hx; exact absurd hx (by decide)
          case Bx4 =>
            intro hx; exact absurd hx (by decide)
          case Bx5 =>
            intro hx; exact absurd hx (by decide)
          case Bx6 =>
            intro hx; exact absurd hx (by decide)
          case Bx7 =>
            intro hx; exact absurd hx (by decide)
          case Bx8 =>
            intro hx; exact absurd hx (by decide)
          case Bx9 =>
            intro hx; exact absurd hx (by decide)
          case Bx10 =>
            intro hx; exact absurd hx (by decide)
          case Bx11 =>
            intro hx; exact absurd hx (by decide)
        case stepSB =>
          intro u wx hg hC
          have hJ11 : u 11 = .agg (bytes M).toArray := hC (11, 52) (by decide) (by decide)
          clear hC
          generalize hA : puts [(0, 41), (1, 42), (2, 43), (3, 44), (4, 45), (5, 46), (6, 47), (7, 48), (8, 49), (9, 50), (10, 51), (11, 52)] _ u = A
          have hp : A.tmps.getD 6 undef = .pointer (some ⟨u1.heap.size, 0, none⟩) := by rw [← hA]; exact (puts_get_out u _ _ 6 (by decide)).trans (by rfl)
          have hq : A.tmps.getD 52 undef = .agg (bytes M).toArray := by rw [← hA]; exact (puts_get u 11 52 _ _ (by decide) (by decide) (by kernel_rfl)).trans hJ11
          refine wpOp_step rfl (fun K hK => ?_)
          clear hA
          exact opStoreK (H := fun w' => Row w' u1.heap.size 31 (bytes M) ∧ Below w.heap.size w w') (Q9.out.step hg) _ (bytes M) fits_hash LO.out LM.out LM1.out hK (.tmp 6) (.tmp 52) rfl hp hq fun w' h1 h2 h3 => ⟨h1, (B9.out.next hg).trans (h2.below B1.out.size (B9.out.next hg).size)⟩
        case finB =>
          intro u u3' hh hφ
          obtain ⟨r3, b3⟩ := hh
          clear hφ
          simp only [puts, List.foldl]
          go_simp
          go_wp2
          exact bodyPost_ret (r3.result rfl _ _ rfl Tryd.underlying31 rfl (by rw [LM.out]; exact fits_hash.size)) rfl ⟨rfl, b3⟩


end Go.Proofs.YtmphjmbnfaimiaaDoor
