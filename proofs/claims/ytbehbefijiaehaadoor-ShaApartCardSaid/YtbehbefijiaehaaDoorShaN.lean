/- ShaApart's walk. -/
import Derived.Test.YtbehbefijiaehaaDoorShaM
import Derived.Test.YtbehbefijiaehaaDoorTexts
import Derived.Test.YtbehbefijiaehaaDoorReads
namespace Go.Proofs.YtbehbefijiaehaaDoor
open Go.RowKit ShaMath

theorem Glob.step2 {w w' : World} (h : Glob w) (hb : Below w.heap.size w w') : Glob w' := h.step hb
theorem write_one (b : Nat) (l0 : List UInt8) (s : ByteArray) (w : World) (hg : Glob w) (hb2 : 2 ≤ b) (hd : Dg w b l0) (ht : Big (l0.length + s.size < 1000000000000)) :
    Calls Tryd.prog 14 #[.pointer (some ⟨b, 0, none⟩), .slice (some ⟨w.heap.size, 0, none⟩) 1 1] (w.alloc (.cells #[.string s] 9)) fun e w' => e = .returned (.tuple #[]) ∧ Dg w' b (l0 ++ s.data.toList) ∧ Only b w w' := by
  have hoff : Off (w.alloc (.cells #[.string s] 9)) b (some ⟨w.heap.size, 0, none⟩) (strs [s]) := Off.new (.string s) w 9 b hd.lt
  refine (write_any b l0 (some ⟨w.heap.size, 0, none⟩) 1 [s] (w.alloc (.cells #[.string s] 9)) (hg.step (alloc_below _ _)) hb2 (hd.step (alloc_below _ _)) (by show 1 ≤ _; omega) (by rw [cat_one, size_list]; exact ht.out) hoff).mono fun e w' h => ⟨h.1, ?_, (Only.of_below (alloc_below _ _)).trans h.2.2⟩
  have := h.2.1
  rwa [cat_one] at this
theorem dsum_big (b : Nat) (l : List UInt8) (w : World) (hg : Glob w) (hd : Dg w b l) (hn : Big (l.length < 100000000000)) :
    Calls Tryd.prog 16 #[.pointer (some ⟨b, 0, none⟩)] w fun e w' => e = .returned (.agg (bytes (sha l)).toArray) ∧ Below w.heap.size w w' := dsum_any b l w hg hd hn.out
theorem cat_take_bd (l : List ByteArray) (k : Nat) : (cat (l.take k)).length ≤ (cat l).length := cat_take_le l k
theorem long_no {l : List ByteArray} (h : longB l = false) : (cat l).length ≤ 3000 ∧ l.length ≤ 60 := by
  unfold longB at h
  simp at h
  omega

set_option maxHeartbeats 2000000 in
theorem shaApart_walk (a0 : Option Addr) (cap0 : Nat) (a : List ByteArray) (a1 : Option Addr) (cap1 : Nat) (b : List ByteArray) (w : World) (hg : Glob w) (hla : a.length ≤ 140737488351232) (hlb : b.length ≤ 140737488351232) (hsa : ∀ s ∈ a, s.size ≤ 140737488351232) (hsb : ∀ s ∈ b, s.size ≤ 140737488351232)
    (hra : Lies w w.heap.size a0 (strs a)) (hrb : Lies w w.heap.size a1 (strs b)) :
    Calls Tryd.prog 6 #[.slice a0 a.length cap0, .slice a1 b.length cap1] w fun e w' => e = .returned (.bool true) ∧ Below w.heap.size w w' := by
  have HG := Lib.hid hg
  have hw2 := hg.size
  have HL1 : Hid (∀ u, Below w.heap.size w u → Calls Tryd.prog 9 #[.slice a0 a.length cap0] u fun e u' => e = .returned (.bool (longB a)) ∧ u = u') := Lib.hid fun u h => long_any a0 cap0 a u hla hsa ((hra.below h).mono h.size)
  have HL2 : Hid (∀ u, Below w.heap.size w u → Calls Tryd.prog 9 #[.slice a1 b.length cap1] u fun e u' => e = .returned (.bool (longB b)) ∧ u = u') := Lib.hid fun u h => long_any a1 cap1 b u hlb hsb ((hrb.below h).mono h.size)
  by_cases hA : longB a = true
  · rw [hA] at HL1
    clear hA hg hla hlb hsa hsb hra hrb
    go_enter Tryd.func6, Tryd.ntmps6
    go_wp2_with (first
      | (go_at_call 8; (with_reducible refine (awake_any w HG.out).mono ?_); rintro e u1 ⟨rfl, b1⟩; have B1 := Lib.hid b1; clear b1)
      | (go_at_call 9; (with_reducible refine (HL1.out _ B1.out).mono ?_); rintro e u2 ⟨rfl, rfl⟩))
    go_ret
    exact ⟨rfl, B1.out⟩
  have hA2 : longB a = false := by simpa using hA
  rw [hA2] at HL1
  by_cases hB : longB b = true
  · rw [hB] at HL2
    clear hA hA2 hB hg hla hlb hsa hsb hra hrb
    go_enter Tryd.func6, Tryd.ntmps6
    go_wp2_with (first
      | (go_at_call 8; (with_reducible refine (awake_any w HG.out).mono ?_); rintro e u1 ⟨rfl, b1⟩; have B1 := Lib.hid b1; clear b1)
      | (go_at_call 9; (with_reducible refine (HL1.out _ B1.out).mono ?_); rintro e u2 ⟨rfl, rfl⟩)
      | (go_at_call 9; (with_reducible refine (HL2.out _ B1.out).mono ?_); rintro e u2 ⟨rfl, rfl⟩))
    go_ret
    exact ⟨rfl, B1.out⟩
  have hB2 : longB b = false := by simpa using hB
  rw [hB2] at HL2
  obtain ⟨ca, na⟩ := long_no hA2
  obtain ⟨cb, nb⟩ := long_no hB2
  have HJ1 : Hid (∀ u, Below w.heap.size w u → Calls Tryd.prog 11 #[.slice a0 a.length cap0] u fun e u' => e = .returned (.string (str (cat a))) ∧ u = u') := Lib.hid fun u h => refJoined_any a0 cap0 a u (by omega) (by omega) hsa ((hra.below h).mono h.size)
  have HJ2 : Hid (∀ u, Below w.heap.size w u → Calls Tryd.prog 11 #[.slice a1 b.length cap1] u fun e u' => e = .returned (.string (str (cat b))) ∧ u = u') := Lib.hid fun u h => refJoined_any a1 cap1 b u (by omega) (by omega) hsb ((hrb.below h).mono h.size)
  have HS1 : Hid (∀ u, Glob u → Below w.heap.size w u → Calls Tryd.prog 17 #[.slice a0 a.length cap0] u fun e u' => e = .returned (.agg (bytes (sha (cat a))).toArray) ∧ Below u.heap.size u u') := Lib.hid fun u g h => sum_any a0 a.length cap0 a u rfl g (by omega) (by omega) ((hra.below h).mono h.size)
  have HS2 : Hid (∀ u, Glob u → Below w.heap.size w u → Calls Tryd.prog 17 #[.slice a1 b.length cap1] u fun e u' => e = .returned (.agg (bytes (sha (cat b))).toArray) ∧ Below u.heap.size u u') := Lib.hid fun u g h => sum_any a1 b.length cap1 b u rfl g (by omega) (by omega) ((hrb.below h).mono h.size)
  have HRA := Lib.hid hra
  have HRB := Lib.hid hrb
  clear hA hA2 hB hB2 hg hla hlb hsa hsb hra hrb
  go_enter Tryd.func6, Tryd.ntmps6
  go_wp2_with (first
    | (go_at_call 8; (with_reducible refine (awake_any w HG.out).mono ?_); rintro e u1 ⟨rfl, b1⟩; have B1 := Lib.hid b1; clear b1)
    | (go_at_call 9; (with_reducible refine (HL1.out _ B1.out).mono ?_); rintro e u2 ⟨rfl, rfl⟩)
    | (go_at_call 9; (with_reducible refine (HL2.out _ B1.out).mono ?_); rintro e u2 ⟨rfl, rfl⟩)
    | (go_at_call 13; (with_reducible refine (new_any u1).mono ?_); rintro e u2 ⟨rfl, d2, b2, s2⟩; have D2 := Lib.hid d2; have B2 := Lib.hid b2; have S2 := Lib.hid s2; clear d2 b2 s2)
    | (go_at_call 13; (with_reducible refine (new_any u2).mono ?_); rintro e u3 ⟨rfl, d3, b3, s3⟩; have D3 := Lib.hid d3; have B3 := Lib.hid b3; have S3 := Lib.hid s3; clear d3 b3 s3))
  have hX : w.heap.size ≤ u1.heap.size := B1.out.size
  have hXY : u1.heap.size < u2.heap.size := by have := S2.out; omega
  have dx := D2.out.step B3.out
  have dy := D3.out
  have hbb := (B1.out.next B2.out).next B3.out
  obtain ⟨X, hXe⟩ : ∃ X, X = u1.heap.size := ⟨_, rfl⟩
  obtain ⟨Y, hYe⟩ : ∃ Y, Y = u2.heap.size := ⟨_, rfl⟩
  rw [← hXe] at dx hX hXY ⊢
  rw [← hYe] at dy hXY ⊢
  have hXw : w.heap.size ≤ X := hX
  have hYw : w.heap.size ≤ Y := by omega
  have hX2 : 2 ≤ X := by omega
  have hY2 : 2 ≤ Y := by omega
  have DX0 := Lib.hid dx
  have DY0 := Lib.hid dy
  have HB0 := Lib.hid hbb
  clear dx dy hbb hXe hYe D2 D3 B1 B2 B3 S2 S3 HL1 HL2
  go_loopw [7] (fun i wr => ∃ k : Nat, (k ≤ a.length ∨ k ≤ b.length) ∧ i = .int .i64 k ∧ Dg wr X (cat (a.take k)) ∧ Dg wr Y (cat (b.take k)) ∧ Below w.heap.size w wr) (fun i _ => a.length + b.length - (intOf i).toNat)
  case atStart => exact ⟨0, by omega, rfl, DX0.out, DY0.out, HB0.out⟩
  case round =>
    clear DX0 DY0 HB0
    obtain ⟨k, hk, rfl, dx, dy, hbw⟩ := hrel
    have DX := Lib.hid dx
    have DY := Lib.hid dy
    have HB := Lib.hid hbw
    have HLA : Big ((cat (a.take (k + 1))).length < 100000000000) := ⟨by have := cat_take_bd a (k + 1); omega⟩
    clear dx dy hbw
    by_cases hka : k < a.length
    · obtain ⟨ba, oa, rfl, hba, hca⟩ := HRA.out (by rw [strs_length]; omega)
      have HA : Hid (∀ u, Below w.heap.size w u → u.cell? ⟨ba, oa + k, none⟩ = some (.string a[k])) := Lib.hid fun u h => (h.cell (p := ⟨ba, oa + k, none⟩) hba).trans (hca k _ (strs_get a k hka))
      have HTA : Big ((cat (a.take k)).length + a[k].size < 1000000000000) := ⟨by have := cat_take_next a k hka; omega⟩
      have HEA : Hid (cat (a.take k) ++ a[k].data.toList = cat (a.take (k + 1))) := Lib.hid (by rw [take_snoc a k hka, cat_snoc])
      obtain ⟨sa, hsa⟩ : ∃ s, s = a[k] := ⟨_, rfl⟩
      rw [← hsa] at HA HTA HEA
      clear hca hba hsa
      have hka2 : decide (k < a.length) = true := by simpa using hka
      by_cases hkb : k < b.length
      · obtain ⟨bb, ob, rfl, hbb, hcb⟩ := HRB.out (by rw [strs_length]; omega)
        have HC : Hid (∀ u, Below w.heap.size w u → u.cell? ⟨bb, ob + k, none⟩ = some (.string b[k])) := Lib.hid fun u h => (h.cell (p := ⟨bb, ob + k, none⟩) hbb).trans (hcb k _ (strs_get b k hkb))
        have HTB : Big ((cat (b.take k)).length + b[k].size < 1000000000000) := ⟨by have := cat_take_next b k hkb; omega⟩
        have HEB : Hid (cat (b.take k) ++ b[k].data.toList = cat (b.take (k + 1))) := Lib.hid (by rw [take_snoc b k hkb, cat_snoc])
        obtain ⟨sb, hsb⟩ : ∃ s, s = b[k] := ⟨_, rfl⟩
        rw [← hsb] at HC HTB HEB
        have hkb2 : decide (k < b.length) = true := by simpa using hkb
        clear hcb hbb hsb
        have hcA := HA.out wr HB.out
        go_wp2_with (first
          | (go_at_call 14; (with_reducible refine (write_one X _ _ wr (HG.out.step2 HB.out) hX2 DX.out HTA).mono ?_); rintro e u1 ⟨rfl, d1, o1⟩; have DX1 : Hid (Dg u1 X (cat (a.take (k + 1)))) := Lib.hid (by rw [← HEA.out]; exact d1); have DY1 := Lib.hid (DY.out.only o1 (by omega)); have HB1 : Hid (Below w.heap.size w u1) := Lib.hid (HB.out.trans (o1.below hXw HB.out.size)); have hcB := HC.out u1 HB1.out; clear d1 o1)
          | (go_at_call 14; (with_reducible refine (write_one Y _ _ u1 (HG.out.step2 HB1.out) hY2 DY1.out HTB).mono ?_); rintro e u2 ⟨rfl, d2, o2⟩; have DY2 : Hid (Dg u2 Y (cat (b.take (k + 1)))) := Lib.hid (by rw [← HEB.out]; exact d2); have DX2 := Lib.hid (DX1.out.only o2 (by omega)); have HB2 : Hid (Below w.heap.size w u2) := Lib.hid (HB1.out.trans (o2.below hYw HB1.out.size)); clear d2 o2)
          | (go_at_call 16; (with_reducible refine (dsum_big X _ u2 (HG.out.step2 HB2.out) DX2.out HLA).mono ?_); rintro e u3 ⟨rfl, b3⟩; have DX3 := Lib.hid (DX2.out.step b3); have DY3 := Lib.hid (DY2.out.step b3); have HB3 : Hid (Below w.heap.size w u3) := Lib.hid (HB2.out.next b3); clear b3))
        go_roundw
        case rel => exact ⟨k + 1, by omega, by go_num, DX3.out, DY3.out, HB3.out⟩
        case measure => simp [intOf]; omega
      · have HEB : Hid (cat (b.take (k + 1)) = cat (b.take k)) := Lib.hid (by rw [List.take_of_length_le (by omega), List.take_of_length_le (by omega)])
        have hkb2 : decide (k < b.length) = false := by simpa using hkb
        have hcA := HA.out wr HB.out
        go_wp2_with (first
          | (go_at_call 14; (with_reducible refine (write_one X _ _ wr (HG.out.step2 HB.out) hX2 DX.out HTA).mono ?_); rintro e u1 ⟨rfl, d1, o1⟩; have DX1 : Hid (Dg u1 X (cat (a.take (k + 1)))) := Lib.hid (by rw [← HEA.out]; exact d1); have DY1 := Lib.hid (DY.out.only o1 (by omega)); have HB1 : Hid (Below w.heap.size w u1) := Lib.hid (HB.out.trans (o1.below hXw HB.out.size)); clear d1 o1)
          | (go_at_call 16; (with_reducible refine (dsum_big X _ u1 (HG.out.step2 HB1.out) DX1.out HLA).mono ?_); rintro e u3 ⟨rfl, b3⟩; have DX3 := Lib.hid (DX1.out.step b3); have DY3 := Lib.hid (DY1.out.step b3); have HB3 : Hid (Below w.heap.size w u3) := Lib.hid (HB1.out.next b3); clear b3))
        go_roundw
        case rel => exact ⟨k + 1, by omega, by go_num, DX3.out, (by rw [HEB.out]; exact DY3.out), HB3.out⟩
        case measure => simp [intOf]; omega
    · have HEA : Hid (cat (a.take (k + 1)) = cat (a.take k)) := Lib.hid (by rw [List.take_of_length_le (by omega), List.take_of_length_le (by omega)])
      have hka2 : decide (k < a.length) = false := by simpa using hka
      rw [HEA.out] at HLA
      by_cases hkb : k < b.length
      · obtain ⟨bb, ob, rfl, hbb, hcb⟩ := HRB.out (by rw [strs_length]; omega)
        have HC : Hid (∀ u, Below w.heap.size w u → u.cell? ⟨bb, ob + k, none⟩ = some (.string b[k])) := Lib.hid fun u h => (h.cell (p := ⟨bb, ob + k, none⟩) hbb).trans (hcb k _ (strs_get b k hkb))
        have HTB : Big ((cat (b.take k)).length + b[k].size < 1000000000000) := ⟨by have := cat_take_next b k hkb; omega⟩
        have HEB : Hid (cat (b.take k) ++ b[k].data.toList = cat (b.take (k + 1))) := Lib.hid (by rw [take_snoc b k hkb, cat_snoc])
        obtain ⟨sb, hsb⟩ : ∃ s, s = b[k] := ⟨_, rfl⟩
        rw [← hsb] at HC HTB HEB
        have hkb2 : decide (k < b.length) = true := by simpa using hkb
        clear hcb hbb hsb
        have hcB := HC.out wr HB.out
        go_wp2_with (first
          | (go_at_call 14; (with_reducible refine (write_one Y _ _ wr (HG.out.step2 HB.out) hY2 DY.out HTB).mono ?_); rintro e u2 ⟨rfl, d2, o2⟩; have DY2 : Hid (Dg u2 Y (cat (b.take (k + 1)))) := Lib.hid (by rw [← HEB.out]; exact d2); have DX2 := Lib.hid (DX.out.only o2 (by omega)); have HB2 : Hid (Below w.heap.size w u2) := Lib.hid (HB.out.trans (o2.below hYw HB.out.size)); clear d2 o2)
          | (go_at_call 16; (with_reducible refine (dsum_big X _ u2 (HG.out.step2 HB2.out) DX2.out HLA).mono ?_); rintro e u3 ⟨rfl, b3⟩; have DX3 := Lib.hid (DX2.out.step b3); have DY3 := Lib.hid (DY2.out.step b3); have HB3 : Hid (Below w.heap.size w u3) := Lib.hid (HB2.out.next b3); clear b3))
        go_roundw
        case rel => exact ⟨k + 1, by omega, by go_num, (by rw [HEA.out]; exact DX3.out), DY3.out, HB3.out⟩
        case measure => simp [intOf]; omega
      · have hkb2 : decide (k < b.length) = false := by simpa using hkb
        have DXa : Hid (Dg wr X (cat a)) := Lib.hid (by have := DX.out; rwa [List.take_of_length_le (by omega)] at this)
        have DYa : Hid (Dg wr Y (cat b)) := Lib.hid (by have := DY.out; rwa [List.take_of_length_le (by omega)] at this)
        clear DX DY HEA HLA
        have DX := DXa
        have DY := DYa
        clear DXa DYa
        obtain ⟨D, hD⟩ : ∃ D, D = sha (cat a) := ⟨_, rfl⟩
        obtain ⟨E, hE⟩ : ∃ E, E = sha (cat b) := ⟨_, rfl⟩
        have lD : D.length = 32 := by rw [hD, sha_length]
        have lE : E.length = 32 := by rw [hE, sha_length]
        have HDX : Hid (∀ u, Glob u → Dg u X (cat a) → Calls Tryd.prog 16 #[.pointer (some ⟨X, 0, none⟩)] u fun e u' => e = .returned (.agg (bytes D).toArray) ∧ Below u.heap.size u u') := Lib.hid fun u g d => by rw [hD]; exact dsum_any X _ u g d (by omega)
        have HDY : Hid (∀ u, Glob u → Dg u Y (cat b) → Calls Tryd.prog 16 #[.pointer (some ⟨Y, 0, none⟩)] u fun e u' => e = .returned (.agg (bytes E).toArray) ∧ Below u.heap.size u u') := Lib.hid fun u g d => by rw [hE]; exact dsum_any Y _ u g d (by omega)
        rw [← hD] at HS1
        rw [← hE] at HS2
        have heD := same_hash D lD
        have heE := same_hash E lE
        by_cases hsame : cat a = cat b
        · have hDE : D = E := by rw [hD, hE, hsame]
          have heDE : ∀ u : World, (Op.equalIn 10000 31 (.agg (bytes D).toArray) (.agg (bytes E).toArray)).run Tryd.prog u = .ok true u := fun u => by rw [eq_hash D E lD lE u, decide_eq_true hDE]
          have hst : ((str (cat a)).toList == (str (cat b)).toList) = true := beq_yes (by rw [hsame])
          have hln : (((cat a).length : Int) == ((cat b).length : Int)) = true := by rw [hsame]; simp
          have hln2 : decide ((cat a).length = (cat b).length) = true := by rw [hsame]; simp
          have hln3 : ((cat a).length == (cat b).length) = true := by rw [hsame]; simp
          clear hD hE lD lE hDE hsame
          go_wp2_with (first
            | (go_at_call 11; (with_reducible refine (HJ1.out _ HB.out).mono ?_); rintro e uu ⟨rfl, rfl⟩)
            | (go_at_call 11; (with_reducible refine (HJ2.out _ HB.out).mono ?_); rintro e uu ⟨rfl, rfl⟩)
            | (go_at_call 16; (with_reducible refine (HDX.out wr (HG.out.step2 HB.out) DX.out).mono ?_); rintro e v1 ⟨rfl, bb⟩; have HBv1 : Hid (Below w.heap.size w v1) := Lib.hid (HB.out.next bb); have DXv1 := Lib.hid (DX.out.step bb); have DYv1 := Lib.hid (DY.out.step bb); clear bb)
            | (go_at_call 17; (with_reducible refine (HS1.out v1 (HG.out.step2 HBv1.out) HBv1.out).mono ?_); rintro e v2 ⟨rfl, bb⟩; have HBv2 : Hid (Below w.heap.size w v2) := Lib.hid (HBv1.out.next bb); have DXv2 := Lib.hid (DXv1.out.step bb); have DYv2 := Lib.hid (DYv1.out.step bb); clear bb)
            | (go_at_call 16; (with_reducible refine (HDY.out v2 (HG.out.step2 HBv2.out) DYv2.out).mono ?_); rintro e v3 ⟨rfl, bb⟩; have HBv3 : Hid (Below w.heap.size w v3) := Lib.hid (HBv2.out.next bb); have DXv3 := Lib.hid (DXv2.out.step bb); have DYv3 := Lib.hid (DYv2.out.step bb); clear bb)
            | (go_at_call 17; (with_reducible refine (HS2.out v3 (HG.out.step2 HBv3.out) HBv3.out).mono ?_); rintro e v4 ⟨rfl, bb⟩; have HBv4 : Hid (Below w.heap.size w v4) := Lib.hid (HBv3.out.next bb); have DXv4 := Lib.hid (DXv3.out.step bb); have DYv4 := Lib.hid (DYv3.out.step bb); clear bb)
            | (go_at_call 16; (with_reducible refine (HDX.out v4 (HG.out.step2 HBv4.out) DXv4.out).mono ?_); rintro e v5 ⟨rfl, bb⟩; have HBv5 : Hid (Below w.heap.size w v5) := Lib.hid (HBv4.out.next bb); have DXv5 := Lib.hid (DXv4.out.step bb); have DYv5 := Lib.hid (DYv4.out.step bb); clear bb)
            | (go_at_call 16; (with_reducible refine (HDY.out v5 (HG.out.step2 HBv5.out) DYv5.out).mono ?_); rintro e v6 ⟨rfl, bb⟩; have HBv6 : Hid (Below w.heap.size w v6) := Lib.hid (HBv5.out.next bb); have DXv6 := Lib.hid (DXv5.out.step bb); have DYv6 := Lib.hid (DYv5.out.step bb); clear bb)
            | (go_at_call 15; (with_reducible refine (len_any X _ v6 DXv6.out).mono ?_); rintro e uu ⟨rfl, rfl⟩)
            | (go_at_call 15; (with_reducible refine (len_any Y _ v6 DYv6.out).mono ?_); rintro e uu ⟨rfl, rfl⟩))
          go_ret
          exact ⟨rfl, HBv6.out⟩
        · have hst : ((str (cat a)).toList == (str (cat b)).toList) = false := beq_no (fun h => hsame (str_inj h))
          clear hD hE lD lE hsame
          go_wp2_with (first
            | (go_at_call 11; (with_reducible refine (HJ1.out _ HB.out).mono ?_); rintro e uu ⟨rfl, rfl⟩)
            | (go_at_call 11; (with_reducible refine (HJ2.out _ HB.out).mono ?_); rintro e uu ⟨rfl, rfl⟩)
            | (go_at_call 16; (with_reducible refine (HDX.out wr (HG.out.step2 HB.out) DX.out).mono ?_); rintro e v1 ⟨rfl, bb⟩; have HBv1 : Hid (Below w.heap.size w v1) := Lib.hid (HB.out.next bb); have DXv1 := Lib.hid (DX.out.step bb); have DYv1 := Lib.hid (DY.out.step bb); clear bb)
            | (go_at_call 17; (with_reducible refine (HS1.out v1 (HG.out.step2 HBv1.out) HBv1.out).mono ?_); rintro e v2 ⟨rfl, bb⟩; have HBv2 : Hid (Below w.heap.size w v2) := Lib.hid (HBv1.out.next bb); have DXv2 := Lib.hid (DXv1.out.step bb); have DYv2 := Lib.hid (DYv1.out.step bb); clear bb)
            | (go_at_call 16; (with_reducible refine (HDY.out v2 (HG.out.step2 HBv2.out) DYv2.out).mono ?_); rintro e v3 ⟨rfl, bb⟩; have HBv3 : Hid (Below w.heap.size w v3) := Lib.hid (HBv2.out.next bb); have DXv3 := Lib.hid (DXv2.out.step bb); have DYv3 := Lib.hid (DYv2.out.step bb); clear bb)
            | (go_at_call 17; (with_reducible refine (HS2.out v3 (HG.out.step2 HBv3.out) HBv3.out).mono ?_); rintro e v4 ⟨rfl, bb⟩; have HBv4 : Hid (Below w.heap.size w v4) := Lib.hid (HBv3.out.next bb); have DXv4 := Lib.hid (DXv3.out.step bb); have DYv4 := Lib.hid (DYv3.out.step bb); clear bb))
          go_ret
          exact ⟨rfl, HBv4.out⟩

end Go.Proofs.YtbehbefijiaehaaDoor
