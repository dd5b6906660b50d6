/- Contract of sha's take: a digest takes a text. -/
import Derived.Test.YtmphjmbnfaimiaaDoorShaF
namespace Go.Proofs.YtmphjmbnfaimiaaDoor
open Go.RowKit ShaMath

theorem fits_dig : Fits Tryd.prog 55 73 := ⟨⟨_, Tryd.underlying55, rfl⟩, by kernel_rfl⟩
theorem fits_block : Fits Tryd.prog 53 64 := ⟨⟨_, Tryd.underlying53, rfl⟩, by kernel_rfl⟩
theorem size_int : (Tryd.prog.info? 3).map (·.size) = some 1 := by kernel_rfl

/-- The cells of a digest. -/
def dig (h : List W) (r : List UInt8) (n : Nat) : List Value := u32s h ++ bytes r ++ [.int .i64 (n : Int)]
theorem dig_length (h : List W) (r : List UInt8) (n : Nat) (h1 : h.length = 8) (h2 : r.length = 64) : (dig h r n).length = 73 := by simp [dig, u32s_length, bytes_length, h1, h2]
theorem dig_one (h : List W) (r : List UInt8) (n : Nat) : (dig h r n).all (·.oneCell') = true := by simp [dig, u32s, bytes, Value.oneCell']
theorem dig_set (h : List W) (r : List UInt8) (n m : Nat) (h1 : h.length = 8) (h2 : r.length = 64) : (dig h r n).set 72 (.int .i64 (m : Int)) = dig h r m := by
  rw [dig, List.set_append_right _ _ (by simp [u32s_length, bytes_length, h1, h2])]
  simp [dig, u32s_length, bytes_length, h1, h2]
theorem dig_last (h : List W) (r : List UInt8) (n : Nat) (h1 : h.length = 8) (h2 : r.length = 64) : (dig h r n)[72]? = some (.int .i64 (n : Int)) := by
  rw [dig, List.getElem?_append_right (by simp [u32s_length, bytes_length, h1, h2])]
  simp [u32s_length, bytes_length, h1, h2]

/-- Block b is a digest that took the text l. -/
def Dg (w : World) (b : Nat) (l : List UInt8) : Prop := ∃ h r, Row w b 55 (dig h r l.length) ∧ Held l h r
def Dgb (w : World) (b : Nat) (l : List UInt8) : Prop := ∃ h r, Row w b 55 (dig h r l.length) ∧ Begun l h r
theorem Dgb.dg {w : World} {b : Nat} {l : List UInt8} (h : Dgb w b l) : Dg w b l := by
  obtain ⟨x, r, h1, h2⟩ := h
  exact ⟨x, r, h1, h2.held⟩
theorem Dg.lt {w : World} {b : Nat} {l : List UInt8} (h : Dg w b l) : b < w.heap.size := by
  obtain ⟨x, r, h1, h2⟩ := h
  exact h1.lt
theorem Dg.step {w w' : World} {b : Nat} {l : List UInt8} (h : Dg w b l) (hb : Below w.heap.size w w') : Dg w' b l := by
  obtain ⟨x, r, h1, h2⟩ := h
  exact ⟨x, r, h1.step hb, h2⟩
theorem Dg.only {w w' : World} {b k : Nat} {l : List UInt8} (h : Dg w b l) (ho : Only k w w') (hne : b ≠ k) : Dg w' b l := by
  obtain ⟨x, r, h1, h2⟩ := h
  exact ⟨x, r, h1.only ho hne, h2⟩

theorem begin_dig (b : Nat) (h : List W) (r : List UInt8) (n : Nat) (w : World) (hg : Glob w) (hr : Row w b 55 (dig h r n)) (hx : h.length = 8) :
    Calls Tryd.prog 29 #[.pointer (some ⟨b, 0, none⟩)] w fun e w' => e = .returned (.tuple #[]) ∧ Row w' b 55 (dig first r n) ∧ Only b w w' := by
  unfold dig at *
  rw [List.append_assoc] at *
  exact begin_any b _ _ w hg hr (by rw [u32s_length, hx])
theorem mix_dig (b : Nat) (h : List W) (r : List UInt8) (n : Nat) (w : World) (hg : Glob w) (hb2 : 2 ≤ b) (hr : Row w b 55 (dig h r n)) (hh : h.length = 8) (hk : r.length = 64) :
    Calls Tryd.prog 30 #[.pointer (some ⟨b, 0, none⟩), .agg (bytes r).toArray] w fun e w' => e = .returned (.tuple #[]) ∧ Row w' b 55 (dig (mixed h r) r n) ∧ Only b w w' := by
  unfold dig at *
  rw [List.append_assoc] at *
  exact mix_any b h _ r w hg hb2 hr hh hk

/-- A round of take's loop, as the walk's copy and mix want it: the block behind q bytes, m bytes into it. -/
theorem dig_split (h : List W) (r : List UInt8) (n q m : Nat) : dig h r n = (u32s h ++ bytes (r.take q)) ++ bytes ((r.drop q).take m) ++ (bytes (r.drop (q + m)) ++ [.int .i64 (n : Int)]) := by
  have e : bytes r = bytes (r.take q) ++ (bytes ((r.drop q).take m) ++ bytes (r.drop (q + m))) := by
    rw [← bytes_append, ← bytes_append]
    congr 1
    rw [← List.drop_drop, List.take_append_drop, List.take_append_drop]
  rw [dig, e]
  simp only [List.append_assoc]
theorem dig_join (h : List W) (r x : List UInt8) (n q m : Nat) (hm : x.length = m) : (u32s h ++ bytes (r.take q)) ++ bytes x ++ (bytes (r.drop (q + m)) ++ [.int .i64 (n : Int)]) = dig h (r.take q ++ x ++ r.drop (q + x.length)) n := by
  rw [dig, bytes_append, bytes_append, hm]
  simp only [List.append_assoc]

theorem extract_tail (t : ByteArray) (m : Nat) : (t.extract m t.size).data.toList = t.data.toList.drop m := by
  rw [ByteArray.data_extract, Array.toList_extract]
  simp only [List.extract_eq_take_drop]
  rw [List.take_of_length_le]
  rw [List.length_drop, size_list]
  omega

set_option maxHeartbeats 2000000 in
theorem sha_take_any (b : Nat) (l : List UInt8) (s : ByteArray) (w : World) (hg : Glob w) (hb2 : 2 ≤ b) (hd : Dg w b l) (hs : l.length + s.size < 1000000000000) :
    Calls Tryd.prog 23 #[.pointer (some ⟨b, 0, none⟩), .string s] w fun e w' => e = .returned (.tuple #[]) ∧ Dg w' b (l ++ s.data.toList) ∧ Only b w w' := by
  obtain ⟨h, r, hr, hH⟩ := hd
  have hcell := hr.cell 72
  rw [dig_last _ _ _ hH.eight hH.block] at hcell
  have HS : Big (l.length + s.size < 1000000000000) := ⟨hs⟩
  have HG := Lib.hid hg
  by_cases hl : l = []
  have hl0 : l.length = 0 := by rw [hl]; rfl
  rw [hl0] at hcell
  have HBG : Hid (∀ u, Glob u → Row u b 55 (dig h r l.length) → Calls Tryd.prog 29 #[.pointer (some ⟨b, 0, none⟩)] u fun e u' => e = .returned (.tuple #[]) ∧ Row u' b 55 (dig first r l.length) ∧ Only b u u') := Lib.hid fun u g x => begin_dig b h r l.length u g x hH.eight
  have hc0 : w.cell? ⟨b, 72, none⟩ = some (.int .i64 0) := hcell
  have HR := Lib.hid hr
  have HB : Hid (Begun l first r) := Lib.hid (by rw [hl]; exact Begun.nil r hH.block)
  clear hcell hg hr hH hs hl hl0
  go_enter Tryd.func23, Tryd.ntmps23
  go_wp2_with (first
    | (go_at_call 29; refine (HBG.out _ HG.out HR.out).mono ?_; rintro e u1 ⟨rfl, r1, o1⟩; have R1 := Lib.hid r1; have O1 := Lib.hid o1; clear r1 o1))
  have HD : Hid (Dgb u1 b l) := Lib.hid ⟨first, r, R1.out, HB.out⟩
  clear HBG hc0 HR HB R1
  rotate_left
  have hl0 : 0 < l.length := List.length_pos_iff.2 hl
  obtain ⟨n, hn⟩ : ∃ n, l.length = n := ⟨_, rfl⟩
  rw [hn] at hcell hl0
  have hb1 : ((n : Int) == 0) = false := by simp; omega
  have HD : Hid (Dgb w b l) := Lib.hid ⟨h, r, hr, hH.begun hl⟩
  have O1 : Hid (Only b w w) := Lib.hid (Only.refl b w)
  clear hg hr hH hs hl hn
  go_enter Tryd.func23, Tryd.ntmps23
  go_wp2
  clear hcell hb1 hl0
  all_goals
    clear h r
    go_loopw [1] (fun x wr => ∃ (j : Nat) (t : ByteArray), j ≤ s.size ∧ x = .string t ∧ t.data.toList = s.data.toList.drop j ∧ Dgb wr b (l ++ s.data.toList.take j) ∧ Only b w wr) (fun x _ => match x with | .string t => t.size | _ => 0)
    case atStart => exact ⟨0, s, by omega, rfl, by simp, by rw [List.take_zero, List.append_nil]; exact HD.out, O1.out⟩
    case round =>
      clear HD O1
      obtain ⟨j, t, hj, rfl, htl, hd, ho⟩ := hrel
      obtain ⟨h, r, hr, hH⟩ := hd
      have ht : t.size = s.size - j := by rw [← size_list, htl, List.length_drop, size_list]
      have hgl : Glob wr := HG.out.only ho hb2
      obtain ⟨n, hn⟩ : ∃ n, (l ++ s.data.toList.take j).length = n := ⟨_, rfl⟩
      have hn2 : n = l.length + j := by rw [← hn, List.length_append, List.length_take, size_list]; omega
      rw [hn] at hr
      by_cases hlt : 0 < t.size
      · obtain ⟨q, hq⟩ : ∃ q, n % 64 = q := ⟨_, rfl⟩
        obtain ⟨d, hdd⟩ : ∃ d, 64 - q = d := ⟨_, rfl⟩
        obtain ⟨m, hm⟩ : ∃ m, Nat.min t.size d = m := ⟨_, rfl⟩
        obtain ⟨n2, hn3⟩ : ∃ n2, n + m = n2 := ⟨_, rfl⟩
        have hm1 : m ≤ t.size := by rw [← hm]; exact Nat.min_le_left _ _
        have hm2 : m ≤ d := by rw [← hm]; exact Nat.min_le_right _ _
        have hm0 : 0 < m := by rw [← hm]; exact Nat.lt_min.2 ⟨hlt, by omega⟩
        obtain ⟨x, hx⟩ : ∃ x, t.data.toList.take m = x := ⟨_, rfl⟩
        have hxl : x.length = m := by rw [← hx, List.length_take, size_list]; omega
        have hlx : (l ++ s.data.toList.take j) ++ x = l ++ s.data.toList.take (j + m) := by rw [List.append_assoc, ← hx, htl, ← List.take_add]
        have hstep := hH.step x (by rw [hxl]; exact hm0) q (by rw [hn]; exact hq)
        rw [hlx, hxl] at hstep
        obtain ⟨r2, hr2⟩ : ∃ r2, r.take q ++ x ++ r.drop (q + m) = r2 := ⟨_, rfl⟩
        rw [hr2] at hstep
        have hr2l : r2.length = 64 := by rw [← hr2]; have := hH.block; simp [hxl]; omega
        have hnx : (l ++ s.data.toList.take (j + m)).length = n2 := by rw [← hlx, List.length_append, hn, hxl, hn3]
        have cn : wr.cell? ⟨b, 72, none⟩ = some (.int .i64 (n : Int)) := by rw [hr.cell, dig_last _ _ _ hH.eight hH.block]
        have R0 := Lib.hid hr.drew
        rw [dig_split h r n q m] at R0
        have LX : Hid ((u32s h ++ bytes (r.take q)).length = 8 + q) := Lib.hid (by rw [List.length_append, u32s_length, bytes_length, hH.eight, List.length_take, hH.block]; omega)
        have LY : Hid ((bytes ((r.drop q).take m)).length = m) := Lib.hid (by rw [bytes_length, List.length_take, List.length_drop, hH.block]; omega)
        have HJ : Hid ((u32s h ++ bytes (r.take q)) ++ bytes (t.data.toList.take m) ++ (bytes (r.drop (q + m)) ++ [.int .i64 (n : Int)]) = dig h r2 n) := Lib.hid (by rw [dig_join _ _ _ _ _ _ (by rw [hx, hxl]), hx, hxl, hr2])
        have HM := Lib.hid hm
        have H8 := Lib.hid hH.eight
        have HR2 := Lib.hid hr2l
        have HNX := Lib.hid hnx
        have HX1 : Hid ((t.extract m t.size).data.toList = s.data.toList.drop (j + m)) := Lib.hid (by rw [extract_tail, htl, List.drop_drop])
        have HTS := Lib.hid ht
        have HO := Lib.hid ho.drew
        have HGL : Hid (Glob wr.drew) := Lib.hid (hgl.step (Below.refl _ _).drew)
        have h64 : 64 - q = d := hdd
        have e1 : (n : Int) % 64 = (q : Int) := by omega
        have e1t : (n : Int).tmod 64 = (q : Int) := by rw [Int.tmod_eq_emod_of_nonneg (by omega)]; exact e1
        have e2 : (n : Int) + (m : Int) = (n2 : Int) := by omega
        have hq1 : (q : Int) < 64 := by omega
        have hq2 : q ≤ 64 := by omega
        have hq3 : (q : Int) ≤ 64 := by omega
        have hm3 : (m : Int) ≤ (t.size : Int) := by omega
        have hm4 : m ≤ t.size := hm1
        have hne : ¬ 64 = q := by omega
        have hw2 : IntKind.i64.wrap (n2 : Int) = (n2 : Int) := IntWalk.i64_in _ (by have := HS.out; omega)
        have hlen72 : Hid (72 < (dig h r2 n).length) := Lib.hid (by rw [dig_length _ _ _ hH.eight hr2l]; omega)
        have hv1 : Hid ((Value.int .i64 (n2 : Int)).cells = #[Value.int .i64 (n2 : Int)]) := Lib.hid rfl
        have hv2 : Hid ((Value.int .i64 (n2 : Int)).oneCell' = true) := Lib.hid rfl
        have HXS : Hid ((t.extract m t.size).size < t.size) := Lib.hid (by rw [← size_list, HX1.out, List.length_drop, size_list]; omega)
        have HJM : Hid (j + m ≤ s.size) := Lib.hid (by omega)
        by_cases hqm : q + m = 64
        · have e3 : (n2 : Int) % 64 = 0 := by omega
          have e3t : (n2 : Int).tmod 64 = 0 := by rw [Int.tmod_eq_emod_of_nonneg (by omega)]; exact e3
          have HB := Lib.hid (hstep.2 hqm)
          clear hr hH hgl ho htl ht hn hn2 hq hdd hm hm1 hm2 hx hxl hlx hstep hr2 hr2l hnx hn3 hqm
          go_wp2
          go_still_tail 10, (by kernel_rfl)
          change wpList _ _ _ _ _ wr.drew
          generalize wr.drew = wq at *
          go_wp2_with (first
            | ((with_reducible refine R0.out.wpCopyK LX.out 9 d Tryd.underlying47 sha_one_byte HM.out LY.out ?_ ?_); rfl; intro u2 r3 o3 s3; have R2 : Hid (Row u2 b 55 (dig h r2 n)) := Lib.hid (by rw [← HJ.out]; exact r3); have O2 := Lib.hid o3; have cn2 : u2.cell? ⟨b, 72, none⟩ = some (.int .i64 (n : Int)) := (by rw [R2.out.cell, dig_last _ _ _ H8.out HR2.out]); clear r3 o3 s3)
            | ((with_reducible refine R2.out.wpStore1K 72 3 (.int .i64 (n2 : Int)) size_int hlen72.out hv1.out hv2.out ?_ ?_); rfl; intro u3 r4 o4 s4; have R3 : Hid (Row u3 b 55 (dig h r2 n2)) := Lib.hid (by rw [← dig_set h r2 n n2 H8.out HR2.out]; exact r4); have O3 := Lib.hid o4; have cn3 : u3.cell? ⟨b, 72, none⟩ = some (.int .i64 (n2 : Int)) := (by rw [R3.out.cell, dig_last _ _ _ H8.out HR2.out]); clear r4 o4 s4))
          have D3 : Hid (Row u3.drew b 55 (u32s h ++ bytes r2 ++ [.int .i64 (n2 : Int)])) := Lib.hid R3.out.drew
          have D4 : Hid (Row u3.drew b 55 (dig h r2 n2)) := D3
          have G3 : Hid (Glob u3.drew) := Lib.hid (((HGL.out.only O2.out hb2).only O3.out hb2).step (Below.refl _ _).drew)
          have O3d : Hid (Only b w u3.drew) := Lib.hid ((HO.out.trans O2.out).trans O3.out).drew
          have LH8 : Hid ((u32s h).length = 8) := Lib.hid (by rw [u32s_length, H8.out])
          have LR8 : Hid ((bytes r2).length = 64) := Lib.hid (by rw [bytes_length, HR2.out])
          clear R2 O2 R3 O3 cn2 cn3 HO HGL HJ HM
          refine wp_region_still_tail 7 (by kernel_rfl) (by kernel_rfl) ?_
          simp only [List.take_succ_cons, List.take_zero, List.drop_succ_cons, List.drop_zero]
          iterate 6 still_step
          refine D3.out.stillLoadMid 8 LH8.out 53 fits_block LR8.out rfl ?_
          refine wpStill_nil ?_
          change wpList _ _ _ _ _ u3.drew
          generalize u3.drew = wx at *
          go_wp2_with (go_at_call 30; refine (mix_dig b h r2 n2 _ G3.out hb2 D4.out H8.out HR2.out).mono ?_; rintro e u4 ⟨rfl, r4, o4⟩; have R4 := Lib.hid r4; have O4 := Lib.hid o4; clear r4 o4)
          go_roundw
          case rel => exact ⟨j + m, t.extract m t.size, HJM.out, rfl, HX1.out, ⟨_, _, by rw [HNX.out]; exact R4.out, HB.out⟩, O3d.out.trans O4.out⟩
          case measure => exact HXS.out
        · have e3 : (n2 : Int) % 64 = ((q + m : Nat) : Int) := by omega
          obtain ⟨q2, hq2'⟩ : ∃ q2, q + m = q2 := ⟨_, rfl⟩
          rw [hq2'] at e3
          have e3t : (n2 : Int).tmod 64 = (q2 : Int) := by rw [Int.tmod_eq_emod_of_nonneg (by omega)]; exact e3
          have e3b : ((q2 : Int) == 0) = false := by simp; omega
          have HB := Lib.hid (hstep.1 (by omega))
          clear hq2' hr hH hgl ho htl ht hn hn2 hq hdd hm hm1 hm2 hx hxl hlx hstep hr2 hr2l hnx hn3 hqm
          go_wp2
          go_still_tail 10, (by kernel_rfl)
          change wpList _ _ _ _ _ wr.drew
          generalize wr.drew = wq at *
          go_wp2_with (first
            | ((with_reducible refine R0.out.wpCopyK LX.out 9 d Tryd.underlying47 sha_one_byte HM.out LY.out ?_ ?_); rfl; intro u2 r3 o3 s3; have R2 : Hid (Row u2 b 55 (dig h r2 n)) := Lib.hid (by rw [← HJ.out]; exact r3); have O2 := Lib.hid o3; have cn2 : u2.cell? ⟨b, 72, none⟩ = some (.int .i64 (n : Int)) := (by rw [R2.out.cell, dig_last _ _ _ H8.out HR2.out]); clear r3 o3 s3)
            | ((with_reducible refine R2.out.wpStore1K 72 3 (.int .i64 (n2 : Int)) size_int hlen72.out hv1.out hv2.out ?_ ?_); rfl; intro u3 r4 o4 s4; have R3 : Hid (Row u3 b 55 (dig h r2 n2)) := Lib.hid (by rw [← dig_set h r2 n n2 H8.out HR2.out]; exact r4); have O3 := Lib.hid o4; have cn3 : u3.cell? ⟨b, 72, none⟩ = some (.int .i64 (n2 : Int)) := (by rw [R3.out.cell, dig_last _ _ _ H8.out HR2.out]); clear r4 o4 s4))
          go_roundw
          case rel => exact ⟨j + m, t.extract m t.size, HJM.out, rfl, HX1.out, ⟨_, _, by rw [HNX.out]; exact R3.out, HB.out⟩, (HO.out.trans O2.out).trans O3.out⟩
          case measure => exact HXS.out
      · have hts : t.size = 0 := by omega
        have HD : Hid (Dg wr b (l ++ s.data.toList)) := Lib.hid (by
          have hj2 : j = s.size := by omega
          have e : l ++ s.data.toList.take j = l ++ s.data.toList := by rw [hj2, List.take_of_length_le (by rw [size_list]; omega)]
          rw [e] at hn hH
          exact ⟨h, r, by rw [hn]; exact hr, hH.held⟩)
        have HO := Lib.hid ho
        clear hr hH hgl ho htl ht hn hn2
        go_wp2
        go_end0
        exact ⟨rfl, HD.out, HO.out⟩

end Go.Proofs.YtmphjmbnfaimiaaDoor
