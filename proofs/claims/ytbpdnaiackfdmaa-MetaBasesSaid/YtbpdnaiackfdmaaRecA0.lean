/- fit and Right of the program. -/
import Derived.Test.YtbpdnaiackfdmaaRec0
import Derived.Test.YtbpdnaiackfdmaaOpK
namespace Go.Proofs.Ytbpdnaiackfdmaa
open Go.RowKit
set_option linter.unusedVariables false
set_option maxRecDepth 100000

def prs (l : List (Nat × Int)) : List Value := l.flatMap fun p => [.int .i64 (p.1 : Int), .int .i64 p.2]
theorem prs_cons (p : Nat × Int) (l : List (Nat × Int)) : prs (p :: l) = .int .i64 (p.1 : Int) :: .int .i64 p.2 :: prs l := rfl
theorem prs_length (l : List (Nat × Int)) : (prs l).length = 2 * l.length := by
  induction l with
  | nil => rfl
  | cons p l ih => rw [prs_cons, List.length_cons, List.length_cons, ih, List.length_cons]; omega
theorem prs_get (l : List (Nat × Int)) (k : Nat) (h : k < l.length) : (prs l)[k * 2]? = some (.int .i64 (l[k].1 : Int)) ∧ (prs l)[k * 2 + 1]? = some (.int .i64 l[k].2) := by
  induction l generalizing k with
  | nil => exact absurd h (by simp)
  | cons p l ih =>
    cases k with
    | zero => exact ⟨rfl, rfl⟩
    | succ k =>
      have := ih k (by simpa using h)
      have e : (k + 1) * 2 = k * 2 + 2 := by omega
      rw [e, prs_cons]
      exact this
theorem Lies.pair {w : World} {bl off : Nat} {l : List (Nat × Int)} (hc : ∀ j u, (prs l)[j]? = some u → w.cell? ⟨bl, off + j, none⟩ = some u) (k : Nat) (h : k < l.length) : w.rangeAt bl (off + k * 2) [.int .i64 (l[k].1 : Int), .int .i64 l[k].2] := by
  intro j v hv
  obtain ⟨h0, h1⟩ := prs_get l k h
  match j, hv with
  | 0, hv => rw [Nat.add_zero]; rw [← Option.some.inj hv]; exact hc _ _ h0
  | 1, hv => rw [Nat.add_assoc]; rw [← Option.some.inj hv]; exact hc _ _ h1
  | j + 2, hv => exact absurd hv (by simp)
def fit1 (p : Nat × Int) : Bool := p.2 / 2 ^ p.1 == 0
theorem fit1_is (b : Nat) (x m : Int) (hm : 2 ^ b = m) (h0 : 0 < m) : fit1 (b, x) = decide (0 ≤ x ∧ x < m) := by
  unfold fit1
  simp only [hm]
  rw [Bool.eq_iff_iff]
  simp only [beq_iff_eq, decide_eq_true_eq]
  constructor
  · intro e
    have h1 := Int.emod_nonneg x (Int.ne_of_gt h0)
    have h2 := Int.emod_lt_of_pos x h0
    have h3 := Int.mul_ediv_add_emod x m
    rw [e] at h3
    omega
  · rintro ⟨h1, h2⟩
    exact Int.ediv_eq_zero_of_lt h1 h2
theorem zero_two : ∀ u, (zeroValue 61).run Try.prog u = .ok (.agg [Value.int .i64 0, .int .i64 0].toArray) u := fun u => by kernel_rfl
theorem fits_two : Fits Try.prog 61 2 := ⟨⟨_, Try.underlying61, rfl⟩, by kernel_rfl⟩

set_option maxHeartbeats 1000000 in
theorem rec_fit_any (a : Option Addr) (n cap : Nat) (l : List (Nat × Int)) (w : World) (hn : l.length = n) (hl : n ≤ 100000) (hb : ∀ p ∈ l, p.1 < 64) (hr : Lies w w.heap.size a (prs l)) :
    Calls Try.prog 25 #[.slice a n cap] w fun e w' => e = .returned (.bool (l.all fit1)) ∧ Below w.heap.size w w' := by
  have HR := Lib.hid hr
  clear hr
  go_enter Try.func25, Try.ntmps25
  go_wp2
  go_loopw [7] (fun i wr => ∃ k : Nat, k ≤ n ∧ i = .int .i64 k ∧ (l.take k).all fit1 = true ∧ Below w.heap.size w wr) (fun i _ => n - (intOf i).toNat)
  case atStart => exact ⟨0, by omega, rfl, rfl, Below.refl _ _⟩
  case round =>
    obtain ⟨k, hk, rfl, hall, hbw⟩ := hrel
    by_cases hlt : k < n
    · have hkl : k < l.length := by omega
      obtain ⟨bl, off, rfl, hbb, hc⟩ := HR.out (by rw [prs_length]; omega)
      obtain ⟨b, x, hp⟩ : ∃ b x, l[k] = (b, x) := ⟨_, _, rfl⟩
      have hb64 : b < 64 := by have := hb _ (List.getElem_mem hkl); rw [hp] at this; exact this
      have HRG : Hid (wr.rangeAt bl (off + k * 2) [.int .i64 (b : Int), .int .i64 x]) := Lib.hid (by
        have := Lies.pair (w := wr) (fun j u hj => (hbw.cell (p := ⟨bl, off + j, none⟩) hbb).trans (hc j u hj)) k hkl
        rw [hp] at this
        exact this)
      have HT : Hid (l.take (k + 1) = l.take k ++ [(b, x)]) := Lib.hid (by rw [take_snoc l k hkl, hp])
      have HA := Lib.hid hall
      have HBW := Lib.hid hbw
      have HN := Lib.hid hn
      clear hc hbw hall hp hn hb
      cases hf : fit1 (b, x) with
      | true =>
        have hq : (x / 2 ^ b == 0) = true := hf
        go_wp2_with (first
          | ((with_reducible refine wpLoadRK HRG.out 61 fits_two rfl ?_ ?_); rfl)
          | ((with_reducible refine wpAllocK (w := wr) [.int .i64 0, .int .i64 0] 61 zero_two ?_ ?_); rfl; intro u1 r1 b1 s1; have R1 := Lib.hid r1; have W1 := Lib.hid b1; have B1 : Hid (Below w.heap.size w u1) := Lib.hid (HBW.out.next b1); clear r1 b1 s1)
          | ((with_reducible refine R1.out.wpStoreK 61 [.int .i64 (b : Int), .int .i64 x] fits_two rfl rfl rfl ?_ ?_); rfl; intro u2 r2 o2 s2; have c0 : u2.cell? ⟨wr.heap.size, 0, none⟩ = some (.int .i64 (b : Int)) := r2.cell 0; have c1 : u2.cell? ⟨wr.heap.size, 1, none⟩ = some (.int .i64 x) := r2.cell 1; have B2 : Hid (Below w.heap.size w u2) := Lib.hid (B1.out.trans (o2.below HBW.out.size B1.out.size)); clear r2 o2 s2))
        go_roundw
        case rel => exact ⟨k + 1, by omega, by go_num, by rw [HT.out, List.all_append, HA.out]; simp [hf], B2.out⟩
        case measure => simp [intOf]; omega
      | false =>
        have hq : (x / 2 ^ b == 0) = false := hf
        go_wp2_with (first
          | ((with_reducible refine wpLoadRK HRG.out 61 fits_two rfl ?_ ?_); rfl)
          | ((with_reducible refine wpAllocK (w := wr) [.int .i64 0, .int .i64 0] 61 zero_two ?_ ?_); rfl; intro u1 r1 b1 s1; have R1 := Lib.hid r1; have W1 := Lib.hid b1; have B1 : Hid (Below w.heap.size w u1) := Lib.hid (HBW.out.next b1); clear r1 b1 s1)
          | ((with_reducible refine R1.out.wpStoreK 61 [.int .i64 (b : Int), .int .i64 x] fits_two rfl rfl rfl ?_ ?_); rfl; intro u2 r2 o2 s2; have c0 : u2.cell? ⟨wr.heap.size, 0, none⟩ = some (.int .i64 (b : Int)) := r2.cell 0; have c1 : u2.cell? ⟨wr.heap.size, 1, none⟩ = some (.int .i64 x) := r2.cell 1; have B2 : Hid (Below w.heap.size w u2) := Lib.hid (B1.out.trans (o2.below HBW.out.size B1.out.size)); clear r2 o2 s2))
        go_ret
        have hno : l.all fit1 = false := by
          cases hh : l.all fit1 with
          | false => rfl
          | true =>
            have e : l = l.take (k + 1) ++ l.drop (k + 1) := (List.take_append_drop _ _).symm
            rw [e, HT.out] at hh
            simp [hf] at hh
        exact ⟨ret_bool hno.symm, B2.out⟩
    · have HE : Hid (l.take k = l) := Lib.hid (List.take_of_length_le (by omega))
      have HA := Lib.hid hall
      clear hall
      go_wp2
      go_ret
      have h1 := HA.out
      rw [HE.out] at h1
      exact ⟨ret_bool h1.symm, hbw⟩

def rcv (k s n v : Int) : List Value := [.int .i64 k, .int .i64 s, .int .i64 n, .int .i64 v]
theorem fits_rec : Fits Try.prog 31 4 := ⟨⟨_, Try.underlying31, rfl⟩, by kernel_rfl⟩
theorem zero_rec : ∀ u, (zeroValue 31).run Try.prog u = .ok (.agg (rcv 0 0 0 0).toArray) u := fun u => by kernel_rfl
theorem rOk_all (k s n v : Int) : [((7 : Nat), k), (2, s), (16, n), (48, v)].all fit1 = rOk k s n v := by
  simp only [List.all_cons, List.all_nil, Bool.and_true]
  rw [fit1_is 7 k 128 (by decide) (by omega), fit1_is 2 s 4 (by decide) (by omega), fit1_is 16 n 65536 (by decide) (by omega), fit1_is 48 v 281474976710656 (by decide) (by omega), rOk, ← Bool.decide_and, ← Bool.decide_and, ← Bool.decide_and, decide_eq_decide]
  omega
set_option maxHeartbeats 1000000 in
theorem rec_right_any (k s n v : Int) (w : World) :
    Calls Try.prog 16 #[.agg (rcv k s n v).toArray] w fun e w' => e = .returned (.bool (rOk k s n v)) ∧ Below w.heap.size w w' := by
  obtain ⟨R, hR⟩ : ∃ R, rOk k s n v = R := ⟨_, rfl⟩
  have HF : Hid (∀ u, Calls Try.prog 25 #[.slice (some ⟨u.heap.size, 0, none⟩) 4 4] (u.alloc (.cells #[.int .i64 7, .int .i64 k, .int .i64 2, .int .i64 s, .int .i64 16, .int .i64 n, .int .i64 48, .int .i64 v] 61)) fun e u' => e = .returned (.bool R) ∧ Below u.heap.size u u') := Lib.hid fun u => by
    rw [← hR, ← rOk_all]
    exact (rec_fit_any _ 4 4 [((7 : Nat), k), (2, s), (16, n), (48, v)] _ rfl (by omega) (by simp) (Lies.new (prs [((7 : Nat), k), (2, s), (16, n), (48, v)]) u 61)).mono fun e u' h => ⟨h.1, (alloc_below u _).next h.2⟩
  rw [hR]
  obtain ⟨V, hV⟩ : ∃ V, rcv k s n v = V := ⟨_, rfl⟩
  have H0 : Hid (V[0]? = some (.int .i64 k)) := Lib.hid (by rw [← hV]; rfl)
  have H1 : Hid (V[1]? = some (.int .i64 s)) := Lib.hid (by rw [← hV]; rfl)
  have H2 : Hid (V[2]? = some (.int .i64 n)) := Lib.hid (by rw [← hV]; rfl)
  have H3 : Hid (V[3]? = some (.int .i64 v)) := Lib.hid (by rw [← hV]; rfl)
  rw [hV]
  clear hR hV
  go_enter Try.func16, Try.ntmps16
  go_wp2_with (first
    | ((with_reducible refine wpBoxK V 31 ?_ ?_); rfl; intro u1 r1 b1 s1; have B1 := Lib.hid b1; have c0 : u1.cell? ⟨w.heap.size, 0, none⟩ = some (.int .i64 k) := (r1.cell 0).trans H0.out; have c1 : u1.cell? ⟨w.heap.size, 1, none⟩ = some (.int .i64 s) := (r1.cell 1).trans H1.out; have c2 : u1.cell? ⟨w.heap.size, 2, none⟩ = some (.int .i64 n) := (r1.cell 2).trans H2.out; have c3 : u1.cell? ⟨w.heap.size, 3, none⟩ = some (.int .i64 v) := (r1.cell 3).trans H3.out; clear r1 b1 s1)
    | (go_at_call 25; (with_reducible refine (HF.out u1).mono ?_); rintro e u2 ⟨rfl, b2⟩; have B2 : Hid (Below w.heap.size w u2) := Lib.hid (B1.out.next b2); clear b2))
  go_ret
  exact ⟨rfl, B2.out⟩
end Go.Proofs.Ytbpdnaiackfdmaa
