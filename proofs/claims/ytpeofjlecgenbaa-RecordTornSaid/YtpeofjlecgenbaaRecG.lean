/- Blank; the document's Right and Put (gen_rec_g.py). -/
import Derived.Test.YtpeofjlecgenbaaRecC
import Derived.Test.YtpeofjlecgenbaaRefNum
import Derived.Test.YtpeofjlecgenbaaB2
namespace Go.Proofs.Ytpeofjlecgenbaa
open Go.RowKit CrcMath NumMath
set_option linter.unusedVariables false
set_option maxRecDepth 100000

theorem rec_rep (w : World) : Calls Try.prog 16 #[.string { data := #[255] }, .int .i64 16] w fun e w' => e = .returned (.string (str (List.replicate 16 255))) ∧ Below w.heap.size w w' := by
  have := Try.strings_Repeat { data := #[255] } 16 w (by omega) (by show 1 * 16 ≤ _; omega)
  exact this
def blankP : ByteArray := str (List.replicate 16 255)
theorem rec_blank_any (s : ByteArray) (w : World) :
    Calls Try.prog 14 #[.string s] w fun e w' => e = .returned (.bool (s.toList == blankP.toList)) ∧ Below w.heap.size w w' := by
  have HR : Hid (∀ u, Calls Try.prog 16 #[.string { data := #[255] }, .int .i64 16] u fun e w' => e = .returned (.string blankP) ∧ Below u.heap.size u w') := Lib.hid rec_rep
  obtain ⟨X, hX⟩ : ∃ X, blankP = X := ⟨_, rfl⟩
  rw [hX] at HR ⊢
  clear hX
  go_enter Try.func14, Try.ntmps14
  go_wp2_with (go_at_call 16; (with_reducible refine (HR.out w).mono ?_); rintro e u1 ⟨rfl, b1⟩)
  go_ret
  exact ⟨rfl, b1⟩

set_option maxHeartbeats 1000000 in
theorem rref_right_any (k s n v : Int) (w : World) :
    Calls Try.prog 10 #[.agg (rcv k s n v).toArray] w fun e w' => e = .returned (.bool (rOk k s n v)) ∧ Below w.heap.size w w' := by
  obtain ⟨V, hV⟩ : ∃ V, rcv k s n v = V := ⟨_, rfl⟩
  have H0 : Hid (V[0]? = some (.int .i64 k)) := Lib.hid (by rw [← hV]; rfl)
  have H1 : Hid (V[1]? = some (.int .i64 s)) := Lib.hid (by rw [← hV]; rfl)
  have H2 : Hid (V[2]? = some (.int .i64 n)) := Lib.hid (by rw [← hV]; rfl)
  have H3 : Hid (V[3]? = some (.int .i64 v)) := Lib.hid (by rw [← hV]; rfl)
  rw [hV]
  clear hV
  by_cases h0 : 0 ≤ k
  · by_cases h1 : k < 128
    · by_cases h2 : 0 ≤ s
      · by_cases h3 : s < 4
        · by_cases h4 : 0 ≤ n
          · by_cases h5 : n < 65536
            · by_cases h6 : 0 ≤ v
              · by_cases h7 : v < 281474976710656
                · have HR : Hid (rOk k s n v = true) := Lib.hid (by unfold rOk; rw [decide_eq_true_eq]; exact ⟨h0, h1, h2, h3, h4, h5, h6, h7⟩)
                  go_enter Try.func10, Try.ntmps10
                  go_wp2_with (first
                    | ((with_reducible refine wpBoxK V 27 ?_ ?_); rfl; intro u1 r1 b1 s1; have B1 := Lib.hid b1; have c0 : u1.cell? ⟨w.heap.size, 0, none⟩ = some (.int .i64 k) := (r1.cell 0).trans H0.out; have c1 : u1.cell? ⟨w.heap.size, 1, none⟩ = some (.int .i64 s) := (r1.cell 1).trans H1.out; have c2 : u1.cell? ⟨w.heap.size, 2, none⟩ = some (.int .i64 n) := (r1.cell 2).trans H2.out; have c3 : u1.cell? ⟨w.heap.size, 3, none⟩ = some (.int .i64 v) := (r1.cell 3).trans H3.out; clear r1 b1 s1))
                  go_ret
                  exact ⟨ret_bool HR.out.symm, B1.out⟩
                · have HR : Hid (rOk k s n v = false) := Lib.hid (by unfold rOk; rw [decide_eq_false_iff_not]; omega)
                  go_enter Try.func10, Try.ntmps10
                  go_wp2_with (first
                    | ((with_reducible refine wpBoxK V 27 ?_ ?_); rfl; intro u1 r1 b1 s1; have B1 := Lib.hid b1; have c0 : u1.cell? ⟨w.heap.size, 0, none⟩ = some (.int .i64 k) := (r1.cell 0).trans H0.out; have c1 : u1.cell? ⟨w.heap.size, 1, none⟩ = some (.int .i64 s) := (r1.cell 1).trans H1.out; have c2 : u1.cell? ⟨w.heap.size, 2, none⟩ = some (.int .i64 n) := (r1.cell 2).trans H2.out; have c3 : u1.cell? ⟨w.heap.size, 3, none⟩ = some (.int .i64 v) := (r1.cell 3).trans H3.out; clear r1 b1 s1))
                  go_ret
                  exact ⟨ret_bool HR.out.symm, B1.out⟩
              · have HR : Hid (rOk k s n v = false) := Lib.hid (by unfold rOk; rw [decide_eq_false_iff_not]; omega)
                go_enter Try.func10, Try.ntmps10
                go_wp2_with (first
                  | ((with_reducible refine wpBoxK V 27 ?_ ?_); rfl; intro u1 r1 b1 s1; have B1 := Lib.hid b1; have c0 : u1.cell? ⟨w.heap.size, 0, none⟩ = some (.int .i64 k) := (r1.cell 0).trans H0.out; have c1 : u1.cell? ⟨w.heap.size, 1, none⟩ = some (.int .i64 s) := (r1.cell 1).trans H1.out; have c2 : u1.cell? ⟨w.heap.size, 2, none⟩ = some (.int .i64 n) := (r1.cell 2).trans H2.out; have c3 : u1.cell? ⟨w.heap.size, 3, none⟩ = some (.int .i64 v) := (r1.cell 3).trans H3.out; clear r1 b1 s1))
                go_ret
                exact ⟨ret_bool HR.out.symm, B1.out⟩
            · have HR : Hid (rOk k s n v = false) := Lib.hid (by unfold rOk; rw [decide_eq_false_iff_not]; omega)
              go_enter Try.func10, Try.ntmps10
              go_wp2_with (first
                | ((with_reducible refine wpBoxK V 27 ?_ ?_); rfl; intro u1 r1 b1 s1; have B1 := Lib.hid b1; have c0 : u1.cell? ⟨w.heap.size, 0, none⟩ = some (.int .i64 k) := (r1.cell 0).trans H0.out; have c1 : u1.cell? ⟨w.heap.size, 1, none⟩ = some (.int .i64 s) := (r1.cell 1).trans H1.out; have c2 : u1.cell? ⟨w.heap.size, 2, none⟩ = some (.int .i64 n) := (r1.cell 2).trans H2.out; have c3 : u1.cell? ⟨w.heap.size, 3, none⟩ = some (.int .i64 v) := (r1.cell 3).trans H3.out; clear r1 b1 s1))
              go_ret
              exact ⟨ret_bool HR.out.symm, B1.out⟩
          · have HR : Hid (rOk k s n v = false) := Lib.hid (by unfold rOk; rw [decide_eq_false_iff_not]; omega)
            go_enter Try.func10, Try.ntmps10
            go_wp2_with (first
              | ((with_reducible refine wpBoxK V 27 ?_ ?_); rfl; intro u1 r1 b1 s1; have B1 := Lib.hid b1; have c0 : u1.cell? ⟨w.heap.size, 0, none⟩ = some (.int .i64 k) := (r1.cell 0).trans H0.out; have c1 : u1.cell? ⟨w.heap.size, 1, none⟩ = some (.int .i64 s) := (r1.cell 1).trans H1.out; have c2 : u1.cell? ⟨w.heap.size, 2, none⟩ = some (.int .i64 n) := (r1.cell 2).trans H2.out; have c3 : u1.cell? ⟨w.heap.size, 3, none⟩ = some (.int .i64 v) := (r1.cell 3).trans H3.out; clear r1 b1 s1))
            go_ret
            exact ⟨ret_bool HR.out.symm, B1.out⟩
        · have HR : Hid (rOk k s n v = false) := Lib.hid (by unfold rOk; rw [decide_eq_false_iff_not]; omega)
          go_enter Try.func10, Try.ntmps10
          go_wp2_with (first
            | ((with_reducible refine wpBoxK V 27 ?_ ?_); rfl; intro u1 r1 b1 s1; have B1 := Lib.hid b1; have c0 : u1.cell? ⟨w.heap.size, 0, none⟩ = some (.int .i64 k) := (r1.cell 0).trans H0.out; have c1 : u1.cell? ⟨w.heap.size, 1, none⟩ = some (.int .i64 s) := (r1.cell 1).trans H1.out; have c2 : u1.cell? ⟨w.heap.size, 2, none⟩ = some (.int .i64 n) := (r1.cell 2).trans H2.out; have c3 : u1.cell? ⟨w.heap.size, 3, none⟩ = some (.int .i64 v) := (r1.cell 3).trans H3.out; clear r1 b1 s1))
          go_ret
          exact ⟨ret_bool HR.out.symm, B1.out⟩
      · have HR : Hid (rOk k s n v = false) := Lib.hid (by unfold rOk; rw [decide_eq_false_iff_not]; omega)
        go_enter Try.func10, Try.ntmps10
        go_wp2_with (first
          | ((with_reducible refine wpBoxK V 27 ?_ ?_); rfl; intro u1 r1 b1 s1; have B1 := Lib.hid b1; have c0 : u1.cell? ⟨w.heap.size, 0, none⟩ = some (.int .i64 k) := (r1.cell 0).trans H0.out; have c1 : u1.cell? ⟨w.heap.size, 1, none⟩ = some (.int .i64 s) := (r1.cell 1).trans H1.out; have c2 : u1.cell? ⟨w.heap.size, 2, none⟩ = some (.int .i64 n) := (r1.cell 2).trans H2.out; have c3 : u1.cell? ⟨w.heap.size, 3, none⟩ = some (.int .i64 v) := (r1.cell 3).trans H3.out; clear r1 b1 s1))
        go_ret
        exact ⟨ret_bool HR.out.symm, B1.out⟩
    · have HR : Hid (rOk k s n v = false) := Lib.hid (by unfold rOk; rw [decide_eq_false_iff_not]; omega)
      go_enter Try.func10, Try.ntmps10
      go_wp2_with (first
        | ((with_reducible refine wpBoxK V 27 ?_ ?_); rfl; intro u1 r1 b1 s1; have B1 := Lib.hid b1; have c0 : u1.cell? ⟨w.heap.size, 0, none⟩ = some (.int .i64 k) := (r1.cell 0).trans H0.out; have c1 : u1.cell? ⟨w.heap.size, 1, none⟩ = some (.int .i64 s) := (r1.cell 1).trans H1.out; have c2 : u1.cell? ⟨w.heap.size, 2, none⟩ = some (.int .i64 n) := (r1.cell 2).trans H2.out; have c3 : u1.cell? ⟨w.heap.size, 3, none⟩ = some (.int .i64 v) := (r1.cell 3).trans H3.out; clear r1 b1 s1))
      go_ret
      exact ⟨ret_bool HR.out.symm, B1.out⟩
  · have HR : Hid (rOk k s n v = false) := Lib.hid (by unfold rOk; rw [decide_eq_false_iff_not]; omega)
    go_enter Try.func10, Try.ntmps10
    go_wp2_with (first
      | ((with_reducible refine wpBoxK V 27 ?_ ?_); rfl; intro u1 r1 b1 s1; have B1 := Lib.hid b1; have c0 : u1.cell? ⟨w.heap.size, 0, none⟩ = some (.int .i64 k) := (r1.cell 0).trans H0.out; have c1 : u1.cell? ⟨w.heap.size, 1, none⟩ = some (.int .i64 s) := (r1.cell 1).trans H1.out; have c2 : u1.cell? ⟨w.heap.size, 2, none⟩ = some (.int .i64 n) := (r1.cell 2).trans H2.out; have c3 : u1.cell? ⟨w.heap.size, 3, none⟩ = some (.int .i64 v) := (r1.cell 3).trans H3.out; clear r1 b1 s1))
    go_ret
    exact ⟨ret_bool HR.out.symm, B1.out⟩

theorem fits_rrec : Fits Try.prog 27 4 := ⟨⟨_, Try.underlying27, rfl⟩, by kernel_rfl⟩
theorem zero_rrec : ∀ u, (zeroValue 27).run Try.prog u = .ok (.agg (rcv 0 0 0 0).toArray) u := fun u => by kernel_rfl
theorem putR_one (s : Nat) (x : Int) (hs : 1 ≤ s) (h7 : s ≤ 7) (h0 : 0 ≤ x) (h1 : x.toNat < 256 ^ s) : putR (s : Int) [x] = (be s x.toNat, 0) := by
  rw [putR_ok (okB_yes (by omega) (by omega)) ?_]
  · simp [putBytes]
  · simp only [fitAll, List.all_cons, List.all_nil, Bool.and_true, fitB, decide_eq_true_eq, Int.toNat_natCast]
    refine ⟨h0, ?_⟩
    have e : ((256 ^ s : Nat) : Int) = (256 : Int) ^ s := by simp
    rw [← e]
    omega
set_option maxHeartbeats 2000000 in
theorem rref_put_any (k s n v : Int) (w : World) (hok : rOk k s n v = true) :
    Calls Try.prog 13 #[.agg (rcv k s n v).toArray] w fun e w' => e = .returned (.string (str (pageB k s n v))) ∧ Below w.heap.size w w' := by
  obtain ⟨h1, h2, h3, h4, h5, h6, h7, h8⟩ := rOk_is hok
  obtain ⟨A1, hA1⟩ : ∃ T, str (be 1 k.toNat ++ be 1 s.toNat) = T := ⟨_, rfl⟩
  obtain ⟨A2, hA2⟩ : ∃ T, str (be 2 n.toNat) = T := ⟨_, rfl⟩
  obtain ⟨A3, hA3⟩ : ∃ T, str (be 6 v.toNat) = T := ⟨_, rfl⟩
  obtain ⟨A4, hA4⟩ : ∃ T, str (be 4 (sumM (txtB k s n v)).toNat) = T := ⟨_, rfl⟩
  obtain ⟨TX, hTX⟩ : ∃ T, str (txtB k s n v) = T := ⟨_, rfl⟩
  obtain ⟨x, hx⟩ : ∃ x, sumI (txtB k s n v) = x := ⟨_, rfl⟩
  obtain ⟨m, hm⟩ : ∃ m, sumM (txtB k s n v) = m := ⟨_, rfl⟩
  have hmb := sumM_bd (txtB k s n v)
  have zA1 : A1.size = 2 := by rw [← hA1, str_size]; simp [be_length]
  have zA2 : A2.size = 2 := by rw [← hA2, str_size, be_length]
  have zA3 : A3.size = 6 := by rw [← hA3, str_size, be_length]
  have zA4 : A4.size = 4 := by rw [← hA4, str_size, be_length]
  have z5 : (str [0, 0]).size = 2 := rfl
  have zTX : TX.size = 12 := by rw [← hTX, str_size, txtB_length]
  have HJ : Hid (A1 ++ A2 ++ A3 ++ str [0, 0] = TX) := Lib.hid (by rw [← hA1, ← hA2, ← hA3, ← hTX, str_append, str_append, str_append]; rfl)
  have s2 : (A1 ++ A2).size = 4 := by rw [ByteArray.size_append, zA1, zA2]
  have s3 : (A1 ++ A2 ++ A3).size = 10 := by rw [ByteArray.size_append, s2, zA3]
  have HRES : Hid (TX ++ A4 = str (pageB k s n v)) := Lib.hid (by rw [← hTX, ← hA4, str_append]; rfl)
  have HP1 : Hid (∀ u, Calls Try.prog 29 #[.int .i64 1, .slice (some ⟨u.heap.size, 0, none⟩) 2 2] (u.alloc (.cells #[.int .i64 k, .int .i64 s] 3)) fun e u' => e = .returned (.tuple #[.string A1, .int .i64 0]) ∧ Below u.heap.size u u') := Lib.hid fun u => by
    rw [← hA1]
    refine (num_refPut_at 1 _ 2 2 [k, s] _ 0 (u.alloc (.cells #[.int .i64 k, .int .i64 s] 3)) rfl ?_ (by omega) (by intro x hx; simp at hx; omega) (Lies.new (ints [k, s]) u 3)).mono fun e u' h => ⟨h.1, (alloc_below u _).next h.2⟩
    have f1 : (256 : Int) ^ (1 : Nat) = 256 := rfl
    rw [putR_ok (okB_yes (by omega) (by omega)) (by simp only [fitAll, List.all_cons, List.all_nil, Bool.and_true, fitB, Int.toNat_one, f1, Bool.and_eq_true, decide_eq_true_eq]; omega)]
    simp [putBytes]
  have HP2 : Hid (∀ u, Calls Try.prog 29 #[.int .i64 2, .slice (some ⟨u.heap.size, 0, none⟩) 1 1] (u.alloc (.cells #[.int .i64 n] 3)) fun e u' => e = .returned (.tuple #[.string A2, .int .i64 0]) ∧ Below u.heap.size u u') := Lib.hid fun u => by
    rw [← hA2]
    exact (num_refPut_at 2 _ 1 1 [n] _ 0 (u.alloc (.cells #[.int .i64 n] 3)) rfl (putR_one 2 n (by omega) (by omega) h5 (by omega)) (by omega) (by intro x hx; simp at hx; omega) (Lies.new (ints [n]) u 3)).mono fun e u' h => ⟨h.1, (alloc_below u _).next h.2⟩
  have HP3 : Hid (∀ u, Calls Try.prog 29 #[.int .i64 6, .slice (some ⟨u.heap.size, 0, none⟩) 1 1] (u.alloc (.cells #[.int .i64 v] 3)) fun e u' => e = .returned (.tuple #[.string A3, .int .i64 0]) ∧ Below u.heap.size u u') := Lib.hid fun u => by
    rw [← hA3]
    exact (num_refPut_at 6 _ 1 1 [v] _ 0 (u.alloc (.cells #[.int .i64 v] 3)) rfl (putR_one 6 v (by omega) (by omega) h7 (by omega)) (by omega) (by intro x hx; simp at hx; omega) (Lies.new (ints [v]) u 3)).mono fun e u' h => ⟨h.1, (alloc_below u _).next h.2⟩
  have HP4 : Hid (∀ u, Calls Try.prog 29 #[.int .i64 4, .slice (some ⟨u.heap.size, 0, none⟩) 1 1] (u.alloc (.cells #[.int .i64 m] 3)) fun e u' => e = .returned (.tuple #[.string A4, .int .i64 0]) ∧ Below u.heap.size u u') := Lib.hid fun u => by
    rw [← hA4, ← hm]
    exact (num_refPut_at 4 _ 1 1 [sumM (txtB k s n v)] _ 0 (u.alloc (.cells #[.int .i64 (sumM (txtB k s n v))] 3)) rfl (putR_one 4 _ (by omega) (by omega) hmb.1 (by omega)) (by omega) (by intro x hx; simp at hx; omega) (Lies.new (ints [sumM (txtB k s n v)]) u 3)).mono fun e u' h => ⟨h.1, (alloc_below u _).next h.2⟩
  have HSM : Hid (∀ u, Calls Try.prog 30 #[.string TX] u fun e u' => e = .returned (.int .i64 x) ∧ u = u') := Lib.hid fun u => by
    have := refSum_any TX u (by omega)
    rw [← hTX, str_list, hx, hTX] at this
    exact this
  have HM : Hid (m = if x = 4294967295 then 4294967294 else x) := Lib.hid (by rw [← hm, ← hx]; rfl)
  obtain ⟨V, hV⟩ : ∃ V, rcv k s n v = V := ⟨_, rfl⟩
  have H0 : Hid (V[0]? = some (.int .i64 k)) := Lib.hid (by rw [← hV]; rfl)
  have H1 : Hid (V[1]? = some (.int .i64 s)) := Lib.hid (by rw [← hV]; rfl)
  have H2 : Hid (V[2]? = some (.int .i64 n)) := Lib.hid (by rw [← hV]; rfl)
  have H3 : Hid (V[3]? = some (.int .i64 v)) := Lib.hid (by rw [← hV]; rfl)
  rw [hV, ← HRES.out]
  clear hok hV hA1 hA2 hA3 hA4 hTX hx hm hmb h1 h2 h3 h4 h5 h6 h7 h8 HRES
  have HCV : Hid (∀ u : World, (convert 58 9 (.slice (some ⟨u.heap.size, 0, none⟩) 2 2)).run Try.prog (u.alloc (.cells #[.int .u8 0, .int .u8 0] 5)) = .ok (.string (str [0, 0])) (u.alloc (.cells #[.int .u8 0, .int .u8 0] 5))) := Lib.hid fun u =>
    conv_bytes u.heap.size 0 2 [0, 0] 2 (u.alloc (.cells #[.int .u8 0, .int .u8 0] 5)) rfl (fun j hj => by have h := (Row.new u 5 (bytes [0, 0])).cell j; rw [Nat.zero_add]; exact h.trans (bytes_get _ _ hj))
  by_cases hx : x = 4294967295
  · have hxe : (x == 4294967295) = true := by simpa using hx
    have HMX := HM.out
    rw [if_pos hx] at HMX
    subst HMX
    clear hx HM
    go_enter Try.func13, Try.ntmps13
    go_wp2_with (first
      | ((with_reducible refine wpBoxK V 27 ?_ ?_); rfl; intro u1 r1 b1 s1; have R1 := Lib.hid r1; have B1 := Lib.hid b1; have c0 : u1.cell? ⟨w.heap.size, 0, none⟩ = some (.int .i64 k) := (r1.cell 0).trans H0.out; have c1 : u1.cell? ⟨w.heap.size, 1, none⟩ = some (.int .i64 s) := (r1.cell 1).trans H1.out; clear r1 b1 s1)
      | (go_at_call 29; (with_reducible refine (HP1.out u1).mono ?_); rintro e u2 ⟨rfl, b2⟩; have R2 := Lib.hid (R1.out.step b2); have c2 : u2.cell? ⟨w.heap.size, 2, none⟩ = some (.int .i64 n) := (R2.out.cell 2).trans H2.out; have B2 : Hid (Below w.heap.size w u2) := Lib.hid (B1.out.next b2); clear b2)
      | (go_at_call 29; (with_reducible refine (HP2.out u2).mono ?_); rintro e u3 ⟨rfl, b3⟩; have R3 := Lib.hid (R2.out.step b3); have c3 : u3.cell? ⟨w.heap.size, 3, none⟩ = some (.int .i64 v) := (R3.out.cell 3).trans H3.out; have B3 : Hid (Below w.heap.size w u3) := Lib.hid (B2.out.next b3); clear b3)
      | (go_at_call 29; (with_reducible refine (HP3.out u3).mono ?_); rintro e u4 ⟨rfl, b4⟩; have B4 : Hid (Below w.heap.size w u4) := Lib.hid (B3.out.next b4); have hcv := HCV.out u4; clear b4)
      | (go_at_call 30; rw [HJ.out]; obtain ⟨u5, hu5⟩ : ∃ u5, u5 = u4.alloc (.cells #[.int .u8 0, .int .u8 0] 5) := ⟨_, rfl⟩; rw [← hu5]; have B5 : Hid (Below w.heap.size w u5) := Lib.hid (by rw [hu5]; exact B4.out.next (alloc_below _ _)); clear hu5; (with_reducible refine (HSM.out u5).mono ?_); rintro e u6 ⟨rfl, rfl⟩)
      | (go_at_call 29; (with_reducible refine (HP4.out u5).mono ?_); rintro e u7 ⟨rfl, b7⟩; have B7 : Hid (Below w.heap.size w u7) := Lib.hid (B5.out.next b7); clear b7))
    go_ret
    exact ⟨rfl, B7.out⟩
  · have hxe : (x == 4294967295) = false := by simpa using hx
    have HMX := HM.out
    rw [if_neg hx] at HMX
    subst HMX
    clear hx HM
    go_enter Try.func13, Try.ntmps13
    go_wp2_with (first
      | ((with_reducible refine wpBoxK V 27 ?_ ?_); rfl; intro u1 r1 b1 s1; have R1 := Lib.hid r1; have B1 := Lib.hid b1; have c0 : u1.cell? ⟨w.heap.size, 0, none⟩ = some (.int .i64 k) := (r1.cell 0).trans H0.out; have c1 : u1.cell? ⟨w.heap.size, 1, none⟩ = some (.int .i64 s) := (r1.cell 1).trans H1.out; clear r1 b1 s1)
      | (go_at_call 29; (with_reducible refine (HP1.out u1).mono ?_); rintro e u2 ⟨rfl, b2⟩; have R2 := Lib.hid (R1.out.step b2); have c2 : u2.cell? ⟨w.heap.size, 2, none⟩ = some (.int .i64 n) := (R2.out.cell 2).trans H2.out; have B2 : Hid (Below w.heap.size w u2) := Lib.hid (B1.out.next b2); clear b2)
      | (go_at_call 29; (with_reducible refine (HP2.out u2).mono ?_); rintro e u3 ⟨rfl, b3⟩; have R3 := Lib.hid (R2.out.step b3); have c3 : u3.cell? ⟨w.heap.size, 3, none⟩ = some (.int .i64 v) := (R3.out.cell 3).trans H3.out; have B3 : Hid (Below w.heap.size w u3) := Lib.hid (B2.out.next b3); clear b3)
      | (go_at_call 29; (with_reducible refine (HP3.out u3).mono ?_); rintro e u4 ⟨rfl, b4⟩; have B4 : Hid (Below w.heap.size w u4) := Lib.hid (B3.out.next b4); have hcv := HCV.out u4; clear b4)
      | (go_at_call 30; rw [HJ.out]; obtain ⟨u5, hu5⟩ : ∃ u5, u5 = u4.alloc (.cells #[.int .u8 0, .int .u8 0] 5) := ⟨_, rfl⟩; rw [← hu5]; have B5 : Hid (Below w.heap.size w u5) := Lib.hid (by rw [hu5]; exact B4.out.next (alloc_below _ _)); clear hu5; (with_reducible refine (HSM.out u5).mono ?_); rintro e u6 ⟨rfl, rfl⟩)
      | (go_at_call 29; (with_reducible refine (HP4.out u5).mono ?_); rintro e u7 ⟨rfl, b7⟩; have B7 : Hid (Below w.heap.size w u7) := Lib.hid (B5.out.next b7); clear b7))
    go_ret
    exact ⟨rfl, B7.out⟩
end Go.Proofs.Ytpeofjlecgenbaa
