/- Put of the program. -/
import Derived.Test.YtbcilifdgpfmnaaDoorHeadA
import Derived.Test.YtbcilifdgpfmnaaDoorShaY
namespace Go.Proofs.YtbcilifdgpfmnaaDoor
open Go.RowKit HeadMath NumMath
set_option linter.unusedVariables false
set_option maxRecDepth 100000

theorem fit_two {x : Int} (h : 0 ≤ x ∧ x ≤ 65535) : fitB 2 x = true := by
  unfold fitB
  rw [decide_eq_true_eq]
  have : (256 : Int) ^ (2 : Int).toNat = 65536 := by decide
  omega
theorem fit_four {x : Int} (h : 0 ≤ x ∧ x ≤ 16777215) : fitB 4 x = true := by
  unfold fitB
  rw [decide_eq_true_eq]
  have : (256 : Int) ^ (4 : Int).toNat = 4294967296 := by decide
  omega
theorem putR_ver {a b c n : Int} (h : hOk a b c n = true) : putR 2 [a, b, c] = (be 2 a.toNat ++ be 2 b.toNat ++ be 2 c.toNat, 0) := by
  obtain ⟨h1, h2, h3, h4⟩ := hOk_is h
  rw [putR_ok (okB_yes (by omega) (by omega)) (by simp [fitAll, fit_two h1, fit_two h2, fit_two h3])]
  simp [putBytes]
theorem putR_len {a b c n : Int} (h : hOk a b c n = true) : putR 4 [n] = (be 4 n.toNat, 0) := by
  obtain ⟨h1, h2, h3, h4⟩ := hOk_is h
  rw [putR_ok (okB_yes (by omega) (by omega)) (by simp [fitAll, fit_four h4])]
  simp [putBytes]
theorem hdv_ver (a b c n : Int) (H : List UInt8) (w : World) (g : Nat) (t : TypeId) (h : Row w g t (hdv a b c n H)) : Lies w w.heap.size (some ⟨g, 0, none⟩) (ints [a, b, c]) := by
  intro _
  refine ⟨g, 0, rfl, h.lt, fun j u hu => ?_⟩
  rw [Nat.zero_add, h.cell]
  have hj : j < 3 := by have := (List.getElem?_eq_some_iff.1 hu).1; simpa [ints] using this
  match j, hj with
  | 0, _ => exact hu
  | 1, _ => exact hu
  | 2, _ => exact hu
theorem hdv_hash (a b c n : Int) (H : List UInt8) (w : World) (g : Nat) (t : TypeId) (h : Row w g t (hdv a b c n H)) (j : Nat) (hj : j < H.length) : w.cell? ⟨g, 4 + j, none⟩ = some (.int .u8 (H[j].toNat : Int)) := by
  rw [h.cell, hdv, List.getElem?_append_right (by simp)]
  simpa using bytes_get H j hj

set_option maxHeartbeats 1000000 in
theorem head_put_yes (a b c n : Int) (H : List UInt8) (w : World) (hok : hOk a b c n = true) (hH : H.length = 32) :
    Calls Tryd.prog 6 #[.agg (hdv a b c n H).toArray] w fun e w' => e = .returned (.tuple #[.string (str (headB a b c n H)), .int .i64 0]) ∧ Below w.heap.size w w' := by
  obtain ⟨TV, hTV⟩ : ∃ T, str (be 2 a.toNat ++ be 2 b.toNat ++ be 2 c.toNat) = T := ⟨_, rfl⟩
  obtain ⟨TN, hTN⟩ : ∃ T, str (be 4 n.toNat) = T := ⟨_, rfl⟩
  obtain ⟨TH, hTH⟩ : ∃ T, str H = T := ⟨_, rfl⟩
  obtain ⟨TR, hTR⟩ : ∃ T, str (headB a b c n H) = T := ⟨_, rfl⟩
  have zV : TV.size = 6 := by rw [← hTV, str_size]; simp [be_length]
  have zN : TN.size = 4 := by rw [← hTN, str_size, be_length]
  have zH : TH.size = 32 := by rw [← hTH, str_size, hH]
  have HRES : Hid (({ data := #[84, 82, 73, 80] } : ByteArray) ++ TV ++ TN ++ TH ++ ({ data := #[0, 0] } : ByteArray) = TR) := Lib.hid (by
    rw [← hTV, ← hTN, ← hTH, ← hTR, show ({ data := #[84, 82, 73, 80] } : ByteArray) = str [84, 82, 73, 80] from rfl, show ({ data := #[0, 0] } : ByteArray) = str [0, 0] from rfl, str_append, str_append, str_append, str_append]
    rfl)
  have s1 : (({ data := #[84, 82, 73, 80] } : ByteArray)).size = 4 := rfl
  have s2 : (({ data := #[84, 82, 73, 80] } : ByteArray) ++ TV).size = 10 := by rw [ByteArray.size_append, zV]; rfl
  have s3 : (({ data := #[84, 82, 73, 80] } : ByteArray) ++ TV ++ TN).size = 14 := by rw [ByteArray.size_append, s2, zN]
  have s4 : (({ data := #[84, 82, 73, 80] } : ByteArray) ++ TV ++ TN ++ TH).size = 46 := by rw [ByteArray.size_append, s3, zH]
  have s5 : (({ data := #[0, 0] } : ByteArray)).size = 2 := rfl
  have HRT : Hid (∀ u, Calls Tryd.prog 8 #[.agg (hdv a b c n H).toArray] u fun e u' => e = .returned (.bool true) ∧ Below u.heap.size u u') := Lib.hid fun u => by rw [← hok]; exact head_right_any a b c n H u
  have HP1 : Hid (∀ u g t, Row u g t (hdv a b c n H) → Calls Tryd.prog 17 #[.int .i64 2, .slice (some ⟨g, 0, none⟩) 3 3] u fun e u' => e = .returned (.tuple #[.string TV, .int .i64 0]) ∧ Below u.heap.size u u') := Lib.hid fun u g t r => by
    rw [← hTV]; exact put_at 2 _ 3 3 [a, b, c] _ 0 u rfl (putR_ver hok) (by omega) (hdv_ver a b c n H u g t r)
  have HP2 : Hid (∀ u, Calls Tryd.prog 17 #[.int .i64 4, .slice (some ⟨u.heap.size, 0, none⟩) 1 1] (u.alloc (.cells #[.int .i64 n] 3)) fun e u' => e = .returned (.tuple #[.string TN, .int .i64 0]) ∧ Below u.heap.size u u') := Lib.hid fun u => by
    rw [← hTN]
    exact (put_at 4 _ 1 1 [n] _ 0 (u.alloc (.cells #[.int .i64 n] 3)) rfl (putR_len hok) (by omega) (Lies.new (ints [n]) u 3)).mono fun e u' h => ⟨h.1, (alloc_below u _).next h.2⟩
  have HC : Hid (∀ u g t, Row u g t (hdv a b c n H) → (convert 50 9 (.slice (some ⟨g, 4, none⟩) 32 32)).run Tryd.prog u = .ok (.string TH) u) := Lib.hid fun u g t r => by
    rw [← hTH]; exact conv_bytes g 4 32 H 32 u hH (hdv_hash a b c n H u g t r)
  have HL : Hid ((hdv a b c n H).length = 36) := Lib.hid (hdv_length a b c n H hH)
  rw [hTR]
  obtain ⟨V, hV⟩ : ∃ V, hdv a b c n H = V := ⟨_, rfl⟩
  have H3 : Hid (V[3]? = some (.int .i64 n)) := Lib.hid (by rw [← hV]; rfl)
  rw [hV] at HRT HP1 HC HL ⊢
  clear hok hH hTV hTN hTH hTR hV
  go_enter Tryd.func6, Tryd.ntmps6
  go_wp2_with (first
    | ((with_reducible refine wpBoxK V 27 ?_ ?_); rfl; intro u1 r1 b1 s1; have R1 := Lib.hid r1; have B1 := Lib.hid b1; clear r1 b1 s1)
    | ((with_reducible refine R1.out.wpLoadK 27 fits_head HL.out ?_ ?_); rfl)
    | (go_at_call 8; (with_reducible refine (HRT.out u1).mono ?_); rintro e u2 ⟨rfl, b2⟩; have R2 := Lib.hid (R1.out.step b2); have B2 : Hid (Below w.heap.size w u2) := Lib.hid (B1.out.next b2); clear b2)
    | (go_at_call 17; (with_reducible refine (HP1.out u2 _ _ R2.out).mono ?_); rintro e u3 ⟨rfl, b3⟩; have R3 := Lib.hid (R2.out.step b3); have B3 : Hid (Below w.heap.size w u3) := Lib.hid (B2.out.next b3); have c3 : u3.cell? ⟨w.heap.size, 3, none⟩ = some (.int .i64 n) := R3.out.cell 3 |>.trans H3.out; clear b3)
    | (go_at_call 17; (with_reducible refine (HP2.out u3).mono ?_); rintro e u4 ⟨rfl, b4⟩; have B4 : Hid (Below w.heap.size w u4) := Lib.hid (B3.out.next b4); have hconv := HC.out u4 _ _ (R3.out.step b4); clear b4))
  go_ret2
  exact ⟨by rw [HRES.out]; rfl, B4.out⟩

set_option maxHeartbeats 1000000 in
theorem head_put_no (a b c n : Int) (H : List UInt8) (w : World) (hok : hOk a b c n = false) (hH : H.length = 32) :
    Calls Tryd.prog 6 #[.agg (hdv a b c n H).toArray] w fun e w' => e = .returned (.tuple #[.string ByteArray.empty, .int .i64 1]) ∧ Below w.heap.size w w' := by
  have HRT : Hid (∀ u, Calls Tryd.prog 8 #[.agg (hdv a b c n H).toArray] u fun e u' => e = .returned (.bool false) ∧ Below u.heap.size u u') := Lib.hid fun u => by rw [← hok]; exact head_right_any a b c n H u
  have HL : Hid ((hdv a b c n H).length = 36) := Lib.hid (hdv_length a b c n H hH)
  obtain ⟨V, hV⟩ : ∃ V, hdv a b c n H = V := ⟨_, rfl⟩
  rw [hV] at HRT HL ⊢
  clear hok hH hV
  go_enter Tryd.func6, Tryd.ntmps6
  go_wp2_with (first
    | ((with_reducible refine wpBoxK V 27 ?_ ?_); rfl; intro u1 r1 b1 s1; have R1 := Lib.hid r1; have B1 := Lib.hid b1; clear r1 b1 s1)
    | ((with_reducible refine R1.out.wpLoadK 27 fits_head HL.out ?_ ?_); rfl)
    | (go_at_call 8; (with_reducible refine (HRT.out u1).mono ?_); rintro e u2 ⟨rfl, b2⟩; have B2 : Hid (Below w.heap.size w u2) := Lib.hid (B1.out.next b2); clear b2))
  go_ret2
  exact ⟨rfl, B2.out⟩

/-- Put, whatever the head. -/
theorem head_put_any (a b c n : Int) (H : List UInt8) (w : World) (hH : H.length = 32) (T : ByteArray) (E : Int) (h : (hOk a b c n = true ∧ T = str (headB a b c n H) ∧ E = 0) ∨ (hOk a b c n = false ∧ T = ByteArray.empty ∧ E = 1)) :
    Calls Tryd.prog 6 #[.agg (hdv a b c n H).toArray] w fun e w' => e = .returned (.tuple #[.string T, .int .i64 E]) ∧ Below w.heap.size w w' := by
  rcases h with ⟨h, rfl, rfl⟩ | ⟨h, rfl, rfl⟩
  · exact head_put_yes a b c n H w h hH
  · exact head_put_no a b c n H w h hH

end Go.Proofs.YtbcilifdgpfmnaaDoor
