/- ShaSums (gen_sha_sums.py). -/
import Derived.Test.YtmphjmbnfaimiaaDoorShaX2
import Derived.Test.YtmphjmbnfaimiaaDoorShaN
import Derived.Test.YtmphjmbnfaimiaaDoorLst
namespace Go.Proofs.YtmphjmbnfaimiaaDoor
open Go.RowKit ShaMath
set_option linter.unusedVariables false
set_option maxRecDepth 100000

theorem sx_tIs_nats (l : List W) : sha_nats (l.map (·.toNat)) = tIs l := by
  simp [sha_nats, tIs]
  intro a _
  rfl
theorem sx_refSum (c : Value) (s : ByteArray) (T : List UInt8) (w : World) (hT : sha s.data.toList = T) (hs : s.size ≤ 100000) (hc : Wds w c) :
    Calls Tryd.prog 9 #[c, .string s] w fun e w' => e = .returned (.agg (bytes T).toArray) ∧ Below w.heap.size w w' := by
  obtain ⟨a, ca, b, cb, rfl, ha, hb⟩ := hc
  rw [← hT]
  exact refSum_any s a ca b cb w hs (by rw [← sx_tIs_nats]; exact ha) (by rw [← sx_tIs_nats]; exact hb)
theorem sx_wds_step {w w' : World} {c : Value} (h : Wds w c) (hb : Below w.heap.size w w') : Wds w' c := by
  obtain ⟨a, ca, b, cb, e, h1, h2⟩ := h
  exact ⟨a, ca, b, cb, e, h1.step hb, h2.step hb⟩
theorem sx_fits_words : Fits Tryd.prog 27 2 := ⟨⟨_, Tryd.underlying27, rfl⟩, by kernel_rfl⟩
theorem sx_sum_lst (s : ByteArray) (D : List UInt8) (v : Value) (w : World) (hD : sha s.data.toList = D) (hg : Glob w) (ht : s.size ≤ 1000000) (hv : Lst [.string s] v w) :
    Calls Tryd.prog 14 #[v] w fun e w' => e = .returned (.agg (bytes D).toArray) ∧ Below w.heap.size w w' := by
  obtain ⟨g, n, rfl, hn, hl⟩ := hv
  obtain rfl : 1 = n := hn
  have e : cat [s] = s.data.toList := cat_one s
  exact sum_list (some ⟨g, 0, none⟩) 1 1 [s] D w rfl (by rw [e, hD]) hg ⟨by omega⟩ ⟨by rw [e, size_list]; omega⟩ hl
theorem sx_zero_words : ∀ u, (zeroValue 27).run Tryd.prog u = .ok (.agg ([.slice none 0 0, .slice none 0 0] : List Value).toArray) u := fun u => by kernel_rfl

set_option maxHeartbeats 4000000 in
theorem shaSums_walk (a0 : Option Addr) (cap0 : Nat) (l : List ByteArray) (w : World) (hg : Glob w) (hla : l.length ≤ 140737488351232) (hsa : ∀ s ∈ l, s.size ≤ 140737488351232) (hra : Lies w w.heap.size a0 (strs l)) :
    Calls Tryd.prog 3 #[.slice a0 l.length cap0] w fun e w' => e = .returned (.bool true) ∧ Below w.heap.size w w' := by
  have HG := Lib.hid hg
  have hw2 := hg.size
  have HL1 : Hid (∀ u, Below w.heap.size w u → Calls Tryd.prog 6 #[.slice a0 l.length cap0] u fun e u' => e = .returned (.bool (longB l)) ∧ u = u') := Lib.hid fun u h => long_any a0 cap0 l u hla hsa ((hra.below h).mono h.size)
  by_cases hA : longB l = true
  · rw [hA] at HL1
    clear hA hg hla hsa hra
    go_enter Tryd.func3, Tryd.ntmps3
    go_wp2_with (first
      | (go_at_call 5; (with_reducible refine (sha_awake_any w HG.out).mono ?_); rintro e y1 ⟨rfl, b1⟩; have B1 := Lib.hid b1; clear b1)
      | (go_at_call 6; (with_reducible refine (HL1.out _ B1.out).mono ?_); rintro e y2 ⟨rfl, rfl⟩))
    go_ret
    exact ⟨rfl, B1.out⟩
  have hA2 : longB l = false := by simpa using hA
  rw [hA2] at HL1
  obtain ⟨cl, nl⟩ := long_no hA2
  obtain ⟨J, hJ⟩ : ∃ J, str (cat l) = J := ⟨_, rfl⟩
  have hJL : J.data.toList = cat l := by rw [← hJ, str_list]
  have hJz : J.size ≤ 3000 := by rw [← hJ, str_size]; exact cl
  obtain ⟨D, hD⟩ : ∃ D, sha (cat l) = D := ⟨_, rfl⟩
  have lD : D.length = 32 := by rw [← hD, sha_length]
  obtain ⟨E, hE⟩ : ∃ D, sha [] = D := ⟨_, rfl⟩
  have lE : E.length = 32 := by rw [← hE, sha_length]
  have HJ1 : Hid (∀ u, Below w.heap.size w u → Calls Tryd.prog 8 #[.slice a0 l.length cap0] u fun e u' => e = .returned (.string J) ∧ u = u') := Lib.hid fun u h => by rw [← hJ]; exact refJoined_any a0 cap0 l u (by omega) (by omega) hsa ((hra.below h).mono h.size)
  have HS1 : Hid (∀ u, Glob u → Below w.heap.size w u → Calls Tryd.prog 14 #[.slice a0 l.length cap0] u fun e u' => e = .returned (.agg (bytes D).toArray) ∧ Below u.heap.size u u') := Lib.hid fun u g h => by rw [← hD]; exact sha_sum_any a0 l.length cap0 l u rfl g (by omega) (by omega) ((hra.below h).mono h.size)
  have HS2 : Hid (∀ u v, Glob u → Lst [.string J] v u → Calls Tryd.prog 14 #[v] u fun e u' => e = .returned (.agg (bytes D).toArray) ∧ Below u.heap.size u u') := Lib.hid fun u v g h => sx_sum_lst J D v u (by rw [hJL, hD]) g (by omega) h
  have HRS : Hid (∀ u c, Wds u c → Calls Tryd.prog 9 #[c, .string J] u fun e u' => e = .returned (.agg (bytes D).toArray) ∧ Below u.heap.size u u') := Lib.hid fun u c h => sx_refSum c J D u (by rw [hJL, hD]) (by omega) h
  have HRE : Hid (∀ u c, Wds u c → Calls Tryd.prog 9 #[c, .string { data := #[] }] u fun e u' => e = .returned (.agg (bytes E).toArray) ∧ Below u.heap.size u u') := Lib.hid fun u c h => sx_refSum c { data := #[] } E u (by rw [← hE]) (by show 0 ≤ _; omega) h
  have HDS : Hid (∀ u b, Glob u → Dg u b (cat l) → Calls Tryd.prog 13 #[.pointer (some ⟨b, 0, none⟩)] u fun e u' => e = .returned (.agg (bytes D).toArray) ∧ Below u.heap.size u u') := Lib.hid fun u b g d => by rw [← hD]; exact dsum_any b _ u g d (by omega)
  have HDE : Hid (∀ u b, Glob u → Dg u b [] → Calls Tryd.prog 13 #[.pointer (some ⟨b, 0, none⟩)] u fun e u' => e = .returned (.agg (bytes E).toArray) ∧ Below u.heap.size u u') := Lib.hid fun u b g d => by rw [← hE]; exact dsum_any b _ u g d (by show 0 < _; omega)
  have HED := Lib.hid (same_hash D lD)
  have HEE := Lib.hid (same_hash E lE)
  have LO : Hid ((bytes (List.replicate 32 0)).length = 32) := Lib.hid (by rw [bytes_length]; simp)
  have LD : Hid ((bytes D).length = 32) := Lib.hid (by rw [bytes_length, lD])
  have LD1 : Hid ((bytes D).all (·.oneCell') = true) := Lib.hid (bytes_one _)
  have HRA := Lib.hid hra
  have HCL := Lib.hid cl
  have hJi : (J.size : Int) ≤ 3000 := by omega
  have hnl : (l.length : Int) ≤ 60 := by omega
  clear hA hA2 hg hla hsa hra hJ hJL hD hE lD lE cl hJz
  go_enter Tryd.func3, Tryd.ntmps3
  go_wp2_with (first
    | (go_at_call 5; (with_reducible refine (sha_awake_any w HG.out).mono ?_); rintro e y1 ⟨rfl, b1⟩; have B1 := Lib.hid b1; clear b1)
    | (go_at_call 6; (with_reducible refine (HL1.out _ B1.out).mono ?_); rintro e y2 ⟨rfl, rfl⟩)
    | (go_at_call 7; (with_reducible refine (refNew_any y1).mono ?_); rintro e y2 ⟨cv, rfl, hcv, b2⟩; obtain ⟨ap, ac, bp, bc, rfl, wa, wb⟩ := hcv; have W2 : Hid (Wds y2 (.agg #[.slice ap 8 ac, .slice bp 64 bc])) := Lib.hid ⟨ap, ac, bp, bc, rfl, wa, wb⟩; have B2 : Hid (Below w.heap.size w y2) := Lib.hid (B1.out.next b2); clear b2 wa wb)
    | ((with_reducible refine wpAllocK (w := y2) [.slice none 0 0, .slice none 0 0] 27 sx_zero_words ?_ ?_); rfl; intro y3 r3 b3 s3; have C3 := Lib.hid r3; have B23 := Lib.hid b3; clear r3 b3 s3)
    | ((with_reducible refine C3.out.wpStoreK 27 [.slice ap 8 ac, .slice bp 64 bc] sx_fits_words rfl rfl rfl ?_ ?_); rfl; intro y4 r4 o4 s4; have C4 := Lib.hid r4; have q4 : Below y2.heap.size y2 y4 := B23.out.trans (o4.below (Nat.le_refl _) B23.out.size); have W4 := Lib.hid (sx_wds_step W2.out q4); have B4 : Hid (Below w.heap.size w y4) := Lib.hid (B2.out.next q4); clear r4 o4 s4 q4)
    | (go_at_call 8; (with_reducible refine (HJ1.out _ B4.out).mono ?_); rintro e uu ⟨rfl, rfl⟩)
    | ((with_reducible refine C4.out.wpLoadK 27 sx_fits_words rfl ?_ ?_); rfl)
    | (go_at_call 9; (with_reducible refine (HRS.out y4 _ W4.out).mono ?_); rintro e y5 ⟨rfl, b5⟩; have C5 := Lib.hid (C4.out.step b5); have W5 := Lib.hid (sx_wds_step W4.out b5); have B5 : Hid (Below w.heap.size w y5) := Lib.hid (B4.out.next b5); clear b5)
    | ((with_reducible refine wpAllocK (w := y5) (bytes (List.replicate 32 0)) 31 zero32 ?_ ?_); rfl; intro y6 r6 b6 s6; have K6 := Lib.hid r6; have B56 := Lib.hid b6; clear r6 b6 s6)
    | ((with_reducible refine K6.out.wpStoreK 31 (bytes D) fits_hash LO.out LD.out LD1.out ?_ ?_); rfl; intro y7 r7 o7 s7; have K7 := Lib.hid r7; have q7 : Below y5.heap.size y5 y7 := B56.out.trans (o7.below (Nat.le_refl _) B56.out.size); have C7 := Lib.hid (C5.out.step q7); have W7 := Lib.hid (sx_wds_step W5.out q7); have B7 : Hid (Below w.heap.size w y7) := Lib.hid (B5.out.next q7); clear r7 o7 s7 q7)
    | (go_at_call 10; (with_reducible refine (sha_new_any y7).mono ?_); rintro e y8 ⟨rfl, d8, b8, s8⟩; have D8 := Lib.hid d8; have B78 := Lib.hid b8; clear d8 b8 s8))
  obtain ⟨X, hX⟩ : ∃ X, X = y7.heap.size := ⟨_, rfl⟩
  rw [← hX] at D8 ⊢
  have HXE := Lib.hid hX
  have hX2 : 2 ≤ X := by have := B7.out.size; omega
  clear hX
  go_loopw [7, 24] (fun nv i wr => ∃ k : Nat, k ≤ l.length ∧ i = .int .i64 k ∧ nv = .int .i64 ((cat (l.take k)).length : Nat) ∧ Dg wr X (cat (l.take k)) ∧ Below y7.heap.size y7 wr) (fun _ i _ => l.length - (intOf i).toNat)
  case atStart => exact ⟨0, Nat.zero_le _, rfl, rfl, D8.out, B78.out⟩
  case round =>
    clear D8 B78
    obtain ⟨k, hk, rfl, rfl, dx, hbw⟩ := hrel
    have DX := Lib.hid dx
    have HB := Lib.hid hbw
    have HBW : Hid (Below w.heap.size w wr) := Lib.hid (B7.out.next hbw)
    clear dx hbw
    by_cases hlt : k < l.length
    · obtain ⟨bb, ob, rfl, hbb, hcb⟩ := HRA.out (by rw [strs_length]; omega)
      have hcB : wr.cell? ⟨bb, ob + k, none⟩ = some (.string l[k]) := (HBW.out.cell (p := ⟨bb, ob + k, none⟩) hbb).trans (hcb k _ (strs_get l k hlt))
      have hle := cat_take_bd l (k + 1)
      have HEB : Hid (cat (l.take k) ++ l[k].data.toList = cat (l.take (k + 1))) := Lib.hid (by rw [take_snoc l k hlt, cat_snoc])
      have hln : (cat (l.take k)).length + l[k].size = (cat (l.take (k + 1))).length := by rw [← HEB.out, List.length_append, size_list]
      obtain ⟨s, hs⟩ : ∃ s, l[k] = s := ⟨_, rfl⟩
      rw [hs] at hcB HEB hln
      obtain ⟨P, hP⟩ : ∃ P, (cat (l.take k)).length = P := ⟨_, rfl⟩
      rw [hP] at hln ⊢
      have hcl := HCL.out
      have HTB : Big ((cat (l.take k)).length + s.size < 1000000000000) := ⟨by omega⟩
      have HTB2 : Big ((cat (l.take (k + 1))).length < 100000000000) := ⟨by omega⟩
      have HLEN : Hid (∀ u, Dg u X (cat (l.take (k + 1))) → Calls Tryd.prog 12 #[.pointer (some ⟨X, 0, none⟩)] u fun e u' => e = .returned (.int .i64 ((P : Int) + (s.size : Int))) ∧ u = u') := Lib.hid fun u d => (len_any X _ u d).mono fun e u' h => ⟨by rw [h.1, ← hln]; simp, h.2⟩
      have hPb : (P : Int) ≤ 3000 := by omega
      have hsb : (s.size : Int) ≤ 3000 := by omega
      obtain ⟨DK, hDK⟩ : ∃ D, sha (cat (l.take (k + 1))) = D := ⟨_, rfl⟩
      have heK := same_hash DK (by rw [← hDK, sha_length])
      have HSK : Hid (∀ u, Glob u → Dg u X (cat (l.take (k + 1))) → Calls Tryd.prog 13 #[.pointer (some ⟨X, 0, none⟩)] u fun e u' => e = .returned (.agg (bytes DK).toArray) ∧ Below u.heap.size u u') := Lib.hid fun u g d => by rw [← hDK]; exact dsum_big X _ u g d HTB2
      have HLN : Hid (P + s.size = (cat (l.take (k + 1))).length) := Lib.hid hln
      have hk60 : (k : Int) < (l.length : Int) := by omega
      have HLT := Lib.hid hlt
      clear hcb hs hP hle hln hcl hDK hlt
      go_wp2_with (first
        | (go_at_call 11; (with_reducible refine (write_one X _ _ wr (HG.out.step2 HBW.out) hX2 DX.out HTB).mono ?_); rintro e v1 ⟨rfl, d1, o1⟩; have DX1 : Hid (Dg v1 X (cat (l.take (k + 1)))) := Lib.hid (by rw [← HEB.out]; exact d1); have HB1 : Hid (Below y7.heap.size y7 v1) := Lib.hid (HB.out.trans (o1.below (by rw [HXE.out]; exact Nat.le_refl _) HB.out.size)); clear d1 o1)
        | (go_at_call 12; (with_reducible refine (HLEN.out v1 DX1.out).mono ?_); rintro e uu ⟨rfl, rfl⟩)
        | (go_at_call 13; (with_reducible refine (HSK.out v1 (HG.out.step2 (B7.out.next HB1.out)) DX1.out).mono ?_); rintro e v2 ⟨rfl, b2⟩; have DX2 := Lib.hid (DX1.out.step b2); have HB2 : Hid (Below y7.heap.size y7 v2) := Lib.hid (HB1.out.next b2); clear b2)
        | (go_at_call 13; (with_reducible refine (HSK.out v2 (HG.out.step2 (B7.out.next HB2.out)) DX2.out).mono ?_); rintro e v3 ⟨rfl, b3⟩; have DX3 := Lib.hid (DX2.out.step b3); have HB3 : Hid (Below y7.heap.size y7 v3) := Lib.hid (HB2.out.next b3); clear b3))
      go_roundw
      case rel => exact ⟨k + 1, by have := HLT.out; omega, by go_num, by rw [← HLN.out]; go_num, DX3.out, HB3.out⟩
      case measure => simp [intOf]; have := HLT.out; omega
    · have hDL : Hid (Dg wr X (cat l)) := Lib.hid (by have := DX.out; rwa [List.take_of_length_le (by omega)] at this)
      obtain ⟨v8, rfl⟩ : ∃ v8, v8 = wr := ⟨_, rfl⟩
      obtain ⟨P, hP⟩ : ∃ P, (cat (l.take k)).length = P := ⟨_, rfl⟩
      rw [hP]
      have K8 := Lib.hid (K7.out.step HB.out)
      have C8 := Lib.hid (C7.out.step HB.out)
      have W8 := Lib.hid (sx_wds_step W7.out HB.out)
      have hk60 : ¬ (k : Int) < (l.length : Int) := by omega
      have hkd : decide ((k : Int) < (l.length : Int)) = false := by simpa using hk60
      clear DX hP hlt hk HRA HJ1
      go_wp2
      refine region_invX [(0, 48), (1, 49), (2, 50), (3, 51), (4, 52), (5, 53), (6, 54), (7, 55), (8, 56), (9, 57), (10, 58), (11, 59), (12, 60), (13, 61), (14, 62), (15, 63), (16, 64), (17, 10)]
        (fun ii => [Is (.slice a0 l.length cap0), Is (.agg (bytes D).toArray), Is (.agg (bytes D).toArray), Is (.bool true), Is (.bool true), Is (.string J), Lst [.string J], Is (.agg (bytes D).toArray), Is (.agg (bytes D).toArray), Is (.bool true), Is (.bool true), Is (.bool true), Is (.pointer (some ⟨X, 0, none⟩)), Is (.agg (bytes D).toArray), Is (.agg (bytes D).toArray), Is (.bool true), Is (.bool true), Is (.bool true)].getD ii (Is undef))
        (fun w' => Below v8.heap.size v8 w') (by kernel_rfl) (by kernel_rfl) (by decide) (by decide) (by kernel_rfl) rfl ?monoA ((Below.refl _ _).drew) ?stepA ?finA
      case monoA =>
        intro i
        match i with
        | 0 | 1 | 2 | 3 | 4 | 5 | 7 | 8 | 9 | 10 | 11 | 12 | 13 | 14 | 15 | 16 | 17 => exact Is.monot _
        | 6 => exact Lst.monot _
        | _ + 18 => exact Is.monot _
      case stepA =>
        refine List.forall_mem_cons.2 ⟨?As0, List.forall_mem_cons.2 ⟨?As1, List.forall_mem_cons.2 ⟨?As2, List.forall_mem_cons.2 ⟨?As3, List.forall_mem_cons.2 ⟨?As4, List.forall_mem_cons.2 ⟨?As5, List.forall_mem_cons.2 ⟨?As6, List.forall_mem_cons.2 ⟨?As7, List.forall_mem_cons.2 ⟨?As8, List.forall_mem_cons.2 ⟨?As9, List.forall_mem_cons.2 ⟨?As10, List.forall_mem_cons.2 ⟨?As11, List.forall_mem_cons.2 ⟨?As12, List.forall_mem_cons.2 ⟨?As13, List.forall_mem_cons.2 ⟨?As14, List.forall_mem_cons.2 ⟨?As15, List.forall_mem_cons.2 ⟨?As16, List.forall_mem_cons.2 ⟨?As17, List.forall_mem_nil _⟩⟩⟩⟩⟩⟩⟩⟩⟩⟩⟩⟩⟩⟩⟩⟩⟩⟩
        case As0 =>
          intro u wx hg hC
          clear hC
          refine wpOp_step rfl (fun K hK => ?_)
          simp only [puts, List.foldl]
          go_simp
          exact hK _ _ ⟨rfl, rfl, hg, Below.refl _ _⟩
        case As1 =>
          intro u wx hg hC
          have hJ0 : u 0 = (.slice a0 l.length cap0) := hC.at 0 (by kernel_rfl)
          clear hC
          refine wpOp_step rfl (fun K hK => ?_)
          simp only [puts, List.foldl]
          go_simp
          refine (HS1.out wx ((HG.out.step2 HBW.out).step2 hg) (HBW.out.next hg)).mono ?_
          rintro e w' ⟨rfl, hb'⟩
          exact hK _ _ ⟨rfl, rfl, hg.next hb', hb'⟩
        case As2 =>
          intro u wx hg hC
          clear hC
          generalize hA : puts [(0, 48), (1, 49), (2, 50), (3, 51), (4, 52), (5, 53), (6, 54), (7, 55), (8, 56), (9, 57), (10, 58), (11, 59), (12, 60), (13, 61), (14, 62), (15, 63), (16, 64), (17, 10)] _ u = A
          have hp : A.tmps.getD 5 undef = (.pointer (some ⟨y5.heap.size, 0, none⟩)) := by rw [← hA]; exact (puts_get_out u _ _ 5 (by decide)).trans (by rfl)
          have hsz : 50 < A.tmps.size := by rw [← hA]; exact puts_room u (by kernel_rfl)
          refine wpOp_step rfl (fun K hK => ?_)
          clear hA
          exact opLoadK (φ := Is (.agg (bytes D).toArray)) (K8.out.step hg) _ (fits_hash) (LD.out) 50 rfl hsz hK (.tmp 5) rfl hp rfl hg
        case As3 =>
          intro u wx hg hC
          have hJ1 : u 1 = (.agg (bytes D).toArray) := hC.at 1 (by kernel_rfl)
          have hJ2 : u 2 = (.agg (bytes D).toArray) := hC.at 2 (by kernel_rfl)
          clear hC
          have heq := HED.out
          refine wpOp_step rfl (fun K hK => ?_)
          simp only [puts, List.foldl]
          go_simp
          exact hK _ _ ⟨rfl, rfl, hg, Below.refl _ _⟩
        case As4 =>
          intro u wx hg hC
          have hJ3 : u 3 = (.bool true) := hC.at 3 (by kernel_rfl)
          clear hC
          refine wpOp_step rfl (fun K hK => ?_)
          simp only [puts, List.foldl]
          go_simp
          exact hK _ _ ⟨rfl, rfl, hg, Below.refl _ _⟩
        case As5 =>
          intro u wx hg hC
          have hJ4 : u 4 = (.bool true) := hC.at 4 (by kernel_rfl)
          clear hC
          generalize hA : puts [(0, 48), (1, 49), (2, 50), (3, 51), (4, 52), (5, 53), (6, 54), (7, 55), (8, 56), (9, 57), (10, 58), (11, 59), (12, 60), (13, 61), (14, 62), (15, 63), (16, 64), (17, 10)] _ u = A
          have hgv : A.tmps.getD 52 undef = .bool true := by rw [← hA]; exact (puts_get u 4 52 _ _ (by decide) (by decide) (by kernel_rfl)).trans hJ4
          have hgs : 52 < A.tmps.size := by rw [← hA]; exact puts_room u (by kernel_rfl)
          refine wpOp_guard rfl 4 52 true rfl rfl hgs hgv (fun K hK => ?_)
          subst hA
          simp only [puts, List.foldl]
          go_simp
          exact hK _ _ ⟨rfl, rfl, hg, Below.refl _ _⟩
        case As6 =>
          intro u wx hg hC
          have hJ4 : u 4 = (.bool true) := hC.at 4 (by kernel_rfl)
          have hJ5 : u 5 = (.string J) := hC.at 5 (by kernel_rfl)
          clear hC
          generalize hA : puts [(0, 48), (1, 49), (2, 50), (3, 51), (4, 52), (5, 53), (6, 54), (7, 55), (8, 56), (9, 57), (10, 58), (11, 59), (12, 60), (13, 61), (14, 62), (15, 63), (16, 64), (17, 10)] _ u = A
          have hgv : A.tmps.getD 52 undef = .bool true := by rw [← hA]; exact (puts_get u 4 52 _ _ (by decide) (by decide) (by kernel_rfl)).trans hJ4
          have hgs : 52 < A.tmps.size := by rw [← hA]; exact puts_room u (by kernel_rfl)
          refine wpOp_guard rfl 4 52 true rfl rfl hgs hgv (fun K hK => ?_)
          subst hA
          simp only [puts, List.foldl]
          go_simp
          exact hK _ _ ⟨rfl, lst_new [.string J] wx 9 _ rfl, hg.next (alloc_below _ _), alloc_below _ _⟩
        case As7 =>
          intro u wx hg hC
          have hJ4 : u 4 = (.bool true) := hC.at 4 (by kernel_rfl)
          have hJ6 : (Lst [.string J]) (u 6) wx := hC.at 6 (by kernel_rfl)
          clear hC
          generalize hA : puts [(0, 48), (1, 49), (2, 50), (3, 51), (4, 52), (5, 53), (6, 54), (7, 55), (8, 56), (9, 57), (10, 58), (11, 59), (12, 60), (13, 61), (14, 62), (15, 63), (16, 64), (17, 10)] _ u = A
          have hgv : A.tmps.getD 52 undef = .bool true := by rw [← hA]; exact (puts_get u 4 52 _ _ (by decide) (by decide) (by kernel_rfl)).trans hJ4
          have hgs : 52 < A.tmps.size := by rw [← hA]; exact puts_room u (by kernel_rfl)
          refine wpOp_guard rfl 4 52 true rfl rfl hgs hgv (fun K hK => ?_)
          subst hA
          simp only [puts, List.foldl]
          go_simp
          refine (HS2.out wx _ ((HG.out.step2 HBW.out).step2 hg) hJ6).mono ?_
          rintro e w' ⟨rfl, hb'⟩
          exact hK _ _ ⟨rfl, rfl, hg.next hb', hb'⟩
        case As8 =>
          intro u wx hg hC
          have hJ4 : u 4 = (.bool true) := hC.at 4 (by kernel_rfl)
          clear hC
          generalize hA : puts [(0, 48), (1, 49), (2, 50), (3, 51), (4, 52), (5, 53), (6, 54), (7, 55), (8, 56), (9, 57), (10, 58), (11, 59), (12, 60), (13, 61), (14, 62), (15, 63), (16, 64), (17, 10)] _ u = A
          have hgv : A.tmps.getD 52 undef = .bool true := by rw [← hA]; exact (puts_get u 4 52 _ _ (by decide) (by decide) (by kernel_rfl)).trans hJ4
          have hgs : 52 < A.tmps.size := by rw [← hA]; exact puts_room u (by kernel_rfl)
          have hp : A.tmps.getD 5 undef = (.pointer (some ⟨y5.heap.size, 0, none⟩)) := by rw [← hA]; exact (puts_get_out u _ _ 5 (by decide)).trans (by rfl)
          have hsz : 56 < A.tmps.size := by rw [← hA]; exact puts_room u (by kernel_rfl)
          refine wpOp_guard rfl 4 52 true rfl rfl hgs hgv (fun K hK => ?_)
          clear hA
          exact opLoadK (φ := Is (.agg (bytes D).toArray)) (K8.out.step hg) _ (fits_hash) (LD.out) 56 rfl hsz hK (.tmp 5) rfl hp rfl hg
        case As9 =>
          intro u wx hg hC
          have hJ4 : u 4 = (.bool true) := hC.at 4 (by kernel_rfl)
          have hJ7 : u 7 = (.agg (bytes D).toArray) := hC.at 7 (by kernel_rfl)
          have hJ8 : u 8 = (.agg (bytes D).toArray) := hC.at 8 (by kernel_rfl)
          clear hC
          have heq := HED.out
          generalize hA : puts [(0, 48), (1, 49), (2, 50), (3, 51), (4, 52), (5, 53), (6, 54), (7, 55), (8, 56), (9, 57), (10, 58), (11, 59), (12, 60), (13, 61), (14, 62), (15, 63), (16, 64), (17, 10)] _ u = A
          have hgv : A.tmps.getD 52 undef = .bool true := by rw [← hA]; exact (puts_get u 4 52 _ _ (by decide) (by decide) (by kernel_rfl)).trans hJ4
          have hgs : 52 < A.tmps.size := by rw [← hA]; exact puts_room u (by kernel_rfl)
          refine wpOp_guard rfl 4 52 true rfl rfl hgs hgv (fun K hK => ?_)
          subst hA
          simp only [puts, List.foldl]
          go_simp
          exact hK _ _ ⟨rfl, rfl, hg, Below.refl _ _⟩
        case As10 =>
          intro u wx hg hC
          have hJ4 : u 4 = (.bool true) := hC.at 4 (by kernel_rfl)
          have hJ9 : u 9 = (.bool true) := hC.at 9 (by kernel_rfl)
          clear hC
          refine wpOp_step rfl (fun K hK => ?_)
          simp only [puts, List.foldl]
          go_simp
          exact hK _ _ ⟨rfl, rfl, hg, Below.refl _ _⟩
        case As11 =>
          intro u wx hg hC
          have hJ10 : u 10 = (.bool true) := hC.at 10 (by kernel_rfl)
          clear hC
          refine wpOp_step rfl (fun K hK => ?_)
          simp only [puts, List.foldl]
          go_simp
          exact hK _ _ ⟨rfl, rfl, hg, Below.refl _ _⟩
        case As12 =>
          intro u wx hg hC
          have hJ11 : u 11 = (.bool true) := hC.at 11 (by kernel_rfl)
          clear hC
          generalize hA : puts [(0, 48), (1, 49), (2, 50), (3, 51), (4, 52), (5, 53), (6, 54), (7, 55), (8, 56), (9, 57), (10, 58), (11, 59), (12, 60), (13, 61), (14, 62), (15, 63), (16, 64), (17, 10)] _ u = A
          have hgv : A.tmps.getD 59 undef = .bool true := by rw [← hA]; exact (puts_get u 11 59 _ _ (by decide) (by decide) (by kernel_rfl)).trans hJ11
          have hgs : 59 < A.tmps.size := by rw [← hA]; exact puts_room u (by kernel_rfl)
          refine wpOp_guard rfl 11 59 true rfl rfl hgs hgv (fun K hK => ?_)
          subst hA
          simp only [puts, List.foldl]
          go_simp
          exact hK _ _ ⟨rfl, rfl, hg, Below.refl _ _⟩
        case As13 =>
          intro u wx hg hC
          have hJ11 : u 11 = (.bool true) := hC.at 11 (by kernel_rfl)
          have hJ12 : u 12 = (.pointer (some ⟨X, 0, none⟩)) := hC.at 12 (by kernel_rfl)
          clear hC
          generalize hA : puts [(0, 48), (1, 49), (2, 50), (3, 51), (4, 52), (5, 53), (6, 54), (7, 55), (8, 56), (9, 57), (10, 58), (11, 59), (12, 60), (13, 61), (14, 62), (15, 63), (16, 64), (17, 10)] _ u = A
          have hgv : A.tmps.getD 59 undef = .bool true := by rw [← hA]; exact (puts_get u 11 59 _ _ (by decide) (by decide) (by kernel_rfl)).trans hJ11
          have hgs : 59 < A.tmps.size := by rw [← hA]; exact puts_room u (by kernel_rfl)
          refine wpOp_guard rfl 11 59 true rfl rfl hgs hgv (fun K hK => ?_)
          subst hA
          simp only [puts, List.foldl]
          go_simp
          refine (HDS.out wx X ((HG.out.step2 HBW.out).step2 hg) (hDL.out.step hg)).mono ?_
          rintro e w' ⟨rfl, hb'⟩
          exact hK _ _ ⟨rfl, rfl, hg.next hb', hb'⟩
        case As14 =>
          intro u wx hg hC
          have hJ11 : u 11 = (.bool true) := hC.at 11 (by kernel_rfl)
          clear hC
          generalize hA : puts [(0, 48), (1, 49), (2, 50), (3, 51), (4, 52), (5, 53), (6, 54), (7, 55), (8, 56), (9, 57), (10, 58), (11, 59), (12, 60), (13, 61), (14, 62), (15, 63), (16, 64), (17, 10)] _ u = A
          have hgv : A.tmps.getD 59 undef = .bool true := by rw [← hA]; exact (puts_get u 11 59 _ _ (by decide) (by decide) (by kernel_rfl)).trans hJ11
          have hgs : 59 < A.tmps.size := by rw [← hA]; exact puts_room u (by kernel_rfl)
          have hp : A.tmps.getD 5 undef = (.pointer (some ⟨y5.heap.size, 0, none⟩)) := by rw [← hA]; exact (puts_get_out u _ _ 5 (by decide)).trans (by rfl)
          have hsz : 62 < A.tmps.size := by rw [← hA]; exact puts_room u (by kernel_rfl)
          refine wpOp_guard rfl 11 59 true rfl rfl hgs hgv (fun K hK => ?_)
          clear hA
          exact opLoadK (φ := Is (.agg (bytes D).toArray)) (K8.out.step hg) _ (fits_hash) (LD.out) 62 rfl hsz hK (.tmp 5) rfl hp rfl hg
        case As15 =>
          intro u wx hg hC
          have hJ11 : u 11 = (.bool true) := hC.at 11 (by kernel_rfl)
          have hJ13 : u 13 = (.agg (bytes D).toArray) := hC.at 13 (by kernel_rfl)
          have hJ14 : u 14 = (.agg (bytes D).toArray) := hC.at 14 (by kernel_rfl)
          clear hC
          have heq := HED.out
          generalize hA : puts [(0, 48), (1, 49), (2, 50), (3, 51), (4, 52), (5, 53), (6, 54), (7, 55), (8, 56), (9, 57), (10, 58), (11, 59), (12, 60), (13, 61), (14, 62), (15, 63), (16, 64), (17, 10)] _ u = A
          have hgv : A.tmps.getD 59 undef = .bool true := by rw [← hA]; exact (puts_get u 11 59 _ _ (by decide) (by decide) (by kernel_rfl)).trans hJ11
          have hgs : 59 < A.tmps.size := by rw [← hA]; exact puts_room u (by kernel_rfl)
          refine wpOp_guard rfl 11 59 true rfl rfl hgs hgv (fun K hK => ?_)
          subst hA
          simp only [puts, List.foldl]
          go_simp
          exact hK _ _ ⟨rfl, rfl, hg, Below.refl _ _⟩
        case As16 =>
          intro u wx hg hC
          have hJ11 : u 11 = (.bool true) := hC.at 11 (by kernel_rfl)
          have hJ15 : u 15 = (.bool true) := hC.at 15 (by kernel_rfl)
          clear hC
          refine wpOp_step rfl (fun K hK => ?_)
          simp only [puts, List.foldl]
          go_simp
          exact hK _ _ ⟨rfl, rfl, hg, Below.refl _ _⟩
        case As17 =>
          intro u wx hg hC
          have hJ16 : u 16 = (.bool true) := hC.at 16 (by kernel_rfl)
          clear hC
          refine wpOp_step rfl (fun K hK => ?_)
          simp only [puts, List.foldl]
          go_simp
          exact hK _ _ ⟨rfl, rfl, hg, Below.refl _ _⟩
      case finA =>
        intro u v9 hg hC
        have hC17 : u 17 = .bool true := hC (17, 10) (by decide)
        have DX9 := Lib.hid (hDL.out.step hg)
        have C9 := Lib.hid (C8.out.step hg)
        have W9 := Lib.hid (sx_wds_step W8.out hg)
        have B9 : Hid (Below y7.heap.size y7 v9) := Lib.hid (HB.out.next hg)
        clear hg hC
        simp only [puts, List.foldl]
        rw [hC17]
        go_simp
        go_wp2_with (first | (go_at_call 15; (with_reducible refine (reset_any X _ v9 DX9.out).mono ?_); rintro e v10 ⟨rfl, d10, o10⟩; have DX10 := Lib.hid d10; have C10 := Lib.hid (C9.out.only o10 (by have h1 := C7.out.lt; have h2 := HXE.out; omega)); have B10 : Hid (Below y7.heap.size y7 v10) := Lib.hid (B9.out.trans (o10.below (by rw [HXE.out]; exact Nat.le_refl _) B9.out.size)); clear d10 o10))
        have W10 := Lib.hid (sx_wds_step W7.out B10.out)
        have BW10 : Hid (Below w.heap.size w v10) := Lib.hid (B7.out.next B10.out)
        refine region_invX [(0, 67), (1, 68), (2, 69), (3, 70), (4, 71), (5, 72), (6, 73), (7, 74), (8, 75), (9, 76), (10, 77), (11, 78), (12, 79), (13, 2)]
          (fun ii => [Is (.bool true), Is (.bool true), Is (.pointer (some ⟨X, 0, none⟩)), Is (.int .i64 0), Is (.bool true), Is (.bool true), Is (.bool true), Is (.pointer (some ⟨X, 0, none⟩)), Is (.agg (bytes E).toArray), Is (.agg ([Value.slice ap 8 ac, .slice bp 64 bc]).toArray), Is (.agg (bytes E).toArray), Is (.bool true), Is (.bool true), Is (.bool true)].getD ii (Is undef))
          (fun w' => Below v10.heap.size v10 w') (by kernel_rfl) (by kernel_rfl) (by decide) (by decide) (by kernel_rfl) rfl ?monoB ((Below.refl _ _).drew) ?stepB ?finB
        case monoB =>
          intro i
          match i with
          | 0 | 1 | 2 | 3 | 4 | 5 | 6 | 7 | 8 | 9 | 10 | 11 | 12 | 13 => exact Is.monot _
          | _ + 14 => exact Is.monot _
        case stepB =>
          refine List.forall_mem_cons.2 ⟨?Bs0, List.forall_mem_cons.2 ⟨?Bs1, List.forall_mem_cons.2 ⟨?Bs2, List.forall_mem_cons.2 ⟨?Bs3, List.forall_mem_cons.2 ⟨?Bs4, List.forall_mem_cons.2 ⟨?Bs5, List.forall_mem_cons.2 ⟨?Bs6, List.forall_mem_cons.2 ⟨?Bs7, List.forall_mem_cons.2 ⟨?Bs8, List.forall_mem_cons.2 ⟨?Bs9, List.forall_mem_cons.2 ⟨?Bs10, List.forall_mem_cons.2 ⟨?Bs11, List.forall_mem_cons.2 ⟨?Bs12, List.forall_mem_cons.2 ⟨?Bs13, List.forall_mem_nil _⟩⟩⟩⟩⟩⟩⟩⟩⟩⟩⟩⟩⟩⟩
          case Bs0 =>
            intro u wx hg hC
            clear hC
            refine wpOp_step rfl (fun K hK => ?_)
            simp only [puts, List.foldl]
            go_simp
            exact hK _ _ ⟨rfl, rfl, hg, Below.refl _ _⟩
          case Bs1 =>
            intro u wx hg hC
            have hJ0 : u 0 = (.bool true) := hC.at 0 (by kernel_rfl)
            clear hC
            refine wpOp_step rfl (fun K hK => ?_)
            simp only [puts, List.foldl]
            go_simp
            exact hK _ _ ⟨rfl, rfl, hg, Below.refl _ _⟩
          case Bs2 =>
            intro u wx hg hC
            have hJ1 : u 1 = (.bool true) := hC.at 1 (by kernel_rfl)
            clear hC
            generalize hA : puts [(0, 67), (1, 68), (2, 69), (3, 70), (4, 71), (5, 72), (6, 73), (7, 74), (8, 75), (9, 76), (10, 77), (11, 78), (12, 79), (13, 2)] _ u = A
            have hgv : A.tmps.getD 68 undef = .bool true := by rw [← hA]; exact (puts_get u 1 68 _ _ (by decide) (by decide) (by kernel_rfl)).trans hJ1
            have hgs : 68 < A.tmps.size := by rw [← hA]; exact puts_room u (by kernel_rfl)
            refine wpOp_guard rfl 1 68 true rfl rfl hgs hgv (fun K hK => ?_)
            subst hA
            simp only [puts, List.foldl]
            go_simp
            exact hK _ _ ⟨rfl, rfl, hg, Below.refl _ _⟩
          case Bs3 =>
            intro u wx hg hC
            have hJ1 : u 1 = (.bool true) := hC.at 1 (by kernel_rfl)
            have hJ2 : u 2 = (.pointer (some ⟨X, 0, none⟩)) := hC.at 2 (by kernel_rfl)
            clear hC
            generalize hA : puts [(0, 67), (1, 68), (2, 69), (3, 70), (4, 71), (5, 72), (6, 73), (7, 74), (8, 75), (9, 76), (10, 77), (11, 78), (12, 79), (13, 2)] _ u = A
            have hgv : A.tmps.getD 68 undef = .bool true := by rw [← hA]; exact (puts_get u 1 68 _ _ (by decide) (by decide) (by kernel_rfl)).trans hJ1
            have hgs : 68 < A.tmps.size := by rw [← hA]; exact puts_room u (by kernel_rfl)
            refine wpOp_guard rfl 1 68 true rfl rfl hgs hgv (fun K hK => ?_)
            subst hA
            simp only [puts, List.foldl]
            go_simp
            refine ((len_any X [] wx (DX10.out.step hg)).mono fun e w9 h => (show e = .returned (.int .i64 0) ∧ Below wx.heap.size wx w9 from ⟨h.1, h.2 ▸ Below.refl _ _⟩)).mono ?_
            rintro e w' ⟨rfl, hb'⟩
            exact hK _ _ ⟨rfl, rfl, hg.next hb', hb'⟩
          case Bs4 =>
            intro u wx hg hC
            have hJ1 : u 1 = (.bool true) := hC.at 1 (by kernel_rfl)
            have hJ3 : u 3 = (.int .i64 0) := hC.at 3 (by kernel_rfl)
            clear hC
            generalize hA : puts [(0, 67), (1, 68), (2, 69), (3, 70), (4, 71), (5, 72), (6, 73), (7, 74), (8, 75), (9, 76), (10, 77), (11, 78), (12, 79), (13, 2)] _ u = A
            have hgv : A.tmps.getD 68 undef = .bool true := by rw [← hA]; exact (puts_get u 1 68 _ _ (by decide) (by decide) (by kernel_rfl)).trans hJ1
            have hgs : 68 < A.tmps.size := by rw [← hA]; exact puts_room u (by kernel_rfl)
            refine wpOp_guard rfl 1 68 true rfl rfl hgs hgv (fun K hK => ?_)
            subst hA
            simp only [puts, List.foldl]
            go_simp
            exact hK _ _ ⟨rfl, rfl, hg, Below.refl _ _⟩
          case Bs5 =>
            intro u wx hg hC
            have hJ1 : u 1 = (.bool true) := hC.at 1 (by kernel_rfl)
            have hJ4 : u 4 = (.bool true) := hC.at 4 (by kernel_rfl)
            clear hC
            refine wpOp_step rfl (fun K hK => ?_)
            simp only [puts, List.foldl]
            go_simp
            exact hK _ _ ⟨rfl, rfl, hg, Below.refl _ _⟩
          case Bs6 =>
            intro u wx hg hC
            have hJ5 : u 5 = (.bool true) := hC.at 5 (by kernel_rfl)
            clear hC
            refine wpOp_step rfl (fun K hK => ?_)
            simp only [puts, List.foldl]
            go_simp
            exact hK _ _ ⟨rfl, rfl, hg, Below.refl _ _⟩
          case Bs7 =>
            intro u wx hg hC
            have hJ6 : u 6 = (.bool true) := hC.at 6 (by kernel_rfl)
            clear hC
            generalize hA : puts [(0, 67), (1, 68), (2, 69), (3, 70), (4, 71), (5, 72), (6, 73), (7, 74), (8, 75), (9, 76), (10, 77), (11, 78), (12, 79), (13, 2)] _ u = A
            have hgv : A.tmps.getD 73 undef = .bool true := by rw [← hA]; exact (puts_get u 6 73 _ _ (by decide) (by decide) (by kernel_rfl)).trans hJ6
            have hgs : 73 < A.tmps.size := by rw [← hA]; exact puts_room u (by kernel_rfl)
            refine wpOp_guard rfl 6 73 true rfl rfl hgs hgv (fun K hK => ?_)
            subst hA
            simp only [puts, List.foldl]
            go_simp
            exact hK _ _ ⟨rfl, rfl, hg, Below.refl _ _⟩
          case Bs8 =>
            intro u wx hg hC
            have hJ6 : u 6 = (.bool true) := hC.at 6 (by kernel_rfl)
            have hJ7 : u 7 = (.pointer (some ⟨X, 0, none⟩)) := hC.at 7 (by kernel_rfl)
            clear hC
            generalize hA : puts [(0, 67), (1, 68), (2, 69), (3, 70), (4, 71), (5, 72), (6, 73), (7, 74), (8, 75), (9, 76), (10, 77), (11, 78), (12, 79), (13, 2)] _ u = A
            have hgv : A.tmps.getD 73 undef = .bool true := by rw [← hA]; exact (puts_get u 6 73 _ _ (by decide) (by decide) (by kernel_rfl)).trans hJ6
            have hgs : 73 < A.tmps.size := by rw [← hA]; exact puts_room u (by kernel_rfl)
            refine wpOp_guard rfl 6 73 true rfl rfl hgs hgv (fun K hK => ?_)
            subst hA
            simp only [puts, List.foldl]
            go_simp
            refine (HDE.out wx X ((HG.out.step2 BW10.out).step2 hg) (DX10.out.step hg)).mono ?_
            rintro e w' ⟨rfl, hb'⟩
            exact hK _ _ ⟨rfl, rfl, hg.next hb', hb'⟩
          case Bs9 =>
            intro u wx hg hC
            have hJ6 : u 6 = (.bool true) := hC.at 6 (by kernel_rfl)
            clear hC
            generalize hA : puts [(0, 67), (1, 68), (2, 69), (3, 70), (4, 71), (5, 72), (6, 73), (7, 74), (8, 75), (9, 76), (10, 77), (11, 78), (12, 79), (13, 2)] _ u = A
            have hgv : A.tmps.getD 73 undef = .bool true := by rw [← hA]; exact (puts_get u 6 73 _ _ (by decide) (by decide) (by kernel_rfl)).trans hJ6
            have hgs : 73 < A.tmps.size := by rw [← hA]; exact puts_room u (by kernel_rfl)
            have hp : A.tmps.getD 3 undef = (.pointer (some ⟨y2.heap.size, 0, none⟩)) := by rw [← hA]; exact (puts_get_out u _ _ 3 (by decide)).trans (by rfl)
            have hsz : 76 < A.tmps.size := by rw [← hA]; exact puts_room u (by kernel_rfl)
            refine wpOp_guard rfl 6 73 true rfl rfl hgs hgv (fun K hK => ?_)
            clear hA
            exact opLoadK (φ := Is (.agg ([Value.slice ap 8 ac, .slice bp 64 bc]).toArray)) (C10.out.step hg) _ (sx_fits_words) (rfl) 76 rfl hsz hK (.tmp 3) rfl hp rfl hg
          case Bs10 =>
            intro u wx hg hC
            have hJ6 : u 6 = (.bool true) := hC.at 6 (by kernel_rfl)
            have hJ9 : u 9 = (.agg ([Value.slice ap 8 ac, .slice bp 64 bc]).toArray) := hC.at 9 (by kernel_rfl)
            clear hC
            generalize hA : puts [(0, 67), (1, 68), (2, 69), (3, 70), (4, 71), (5, 72), (6, 73), (7, 74), (8, 75), (9, 76), (10, 77), (11, 78), (12, 79), (13, 2)] _ u = A
            have hgv : A.tmps.getD 73 undef = .bool true := by rw [← hA]; exact (puts_get u 6 73 _ _ (by decide) (by decide) (by kernel_rfl)).trans hJ6
            have hgs : 73 < A.tmps.size := by rw [← hA]; exact puts_room u (by kernel_rfl)
            refine wpOp_guard rfl 6 73 true rfl rfl hgs hgv (fun K hK => ?_)
            subst hA
            simp only [puts, List.foldl]
            go_simp
            refine (HRE.out wx _ (sx_wds_step W10.out hg)).mono ?_
            rintro e w' ⟨rfl, hb'⟩
            exact hK _ _ ⟨rfl, rfl, hg.next hb', hb'⟩
          case Bs11 =>
            intro u wx hg hC
            have hJ6 : u 6 = (.bool true) := hC.at 6 (by kernel_rfl)
            have hJ8 : u 8 = (.agg (bytes E).toArray) := hC.at 8 (by kernel_rfl)
            have hJ10 : u 10 = (.agg (bytes E).toArray) := hC.at 10 (by kernel_rfl)
            clear hC
            have heq := HEE.out
            generalize hA : puts [(0, 67), (1, 68), (2, 69), (3, 70), (4, 71), (5, 72), (6, 73), (7, 74), (8, 75), (9, 76), (10, 77), (11, 78), (12, 79), (13, 2)] _ u = A
            have hgv : A.tmps.getD 73 undef = .bool true := by rw [← hA]; exact (puts_get u 6 73 _ _ (by decide) (by decide) (by kernel_rfl)).trans hJ6
            have hgs : 73 < A.tmps.size := by rw [← hA]; exact puts_room u (by kernel_rfl)
            refine wpOp_guard rfl 6 73 true rfl rfl hgs hgv (fun K hK => ?_)
            subst hA
            simp only [puts, List.foldl]
            go_simp
            exact hK _ _ ⟨rfl, rfl, hg, Below.refl _ _⟩
          case Bs12 =>
            intro u wx hg hC
            have hJ6 : u 6 = (.bool true) := hC.at 6 (by kernel_rfl)
            have hJ11 : u 11 = (.bool true) := hC.at 11 (by kernel_rfl)
            clear hC
            refine wpOp_step rfl (fun K hK => ?_)
            simp only [puts, List.foldl]
            go_simp
            exact hK _ _ ⟨rfl, rfl, hg, Below.refl _ _⟩
          case Bs13 =>
            intro u wx hg hC
            have hJ12 : u 12 = (.bool true) := hC.at 12 (by kernel_rfl)
            clear hC
            refine wpOp_step rfl (fun K hK => ?_)
            simp only [puts, List.foldl]
            go_simp
            exact hK _ _ ⟨rfl, rfl, hg, Below.refl _ _⟩
        case finB =>
          intro u v11 hg hC
          have hC13 : u 13 = .bool true := hC (13, 2) (by decide)
          have BF : Hid (Below w.heap.size w v11) := Lib.hid (BW10.out.next hg)
          clear hg hC
          simp only [puts, List.foldl]
          rw [hC13]
          go_simp
          go_wp2
          go_ret
          exact ⟨rfl, BF.out⟩

end Go.Proofs.YtmphjmbnfaimiaaDoor
