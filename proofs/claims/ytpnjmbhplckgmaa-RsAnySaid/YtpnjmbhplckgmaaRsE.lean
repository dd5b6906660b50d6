/- Contracts of rs's Right. The first two are poly's text with another function (gen in NOTES: index of the first that isn't 0). -/
import Derived.Test.YtpnjmbhplckgmaaRsD
namespace Go.Proofs.Ytpnjmbhplckgmaa
open Go.RowKit GfMath PolyMath RsMath
set_option linter.unusedVariables false

theorem rsnz_any (x : Nat) (w : World) :
    Calls Try.prog 30 #[.int .u8 (x : Int)] w fun e w' => e = .returned (.bool (decide (x ≠ 0))) ∧ w = w' := by
  by_cases h : x = 0
  · subst h
    go_enter Try.func30, Try.ntmps30
    go_wp2
    go_ret
    exact ⟨rfl, rfl⟩
  · have h1 : ((x : Int) != 0) = true := by simp; omega
    have h2 : ¬ (x : Int) = 0 := by omega
    have h3 : decide (x ≠ 0) = true := by simpa using h
    go_enter Try.func30, Try.ntmps30
    go_wp2
    go_ret
    exact ⟨ret_bool h3.symm, rfl⟩

theorem rsindex_any (a : Option Addr) (cap : Nat) (l : List Nat) (w : World) (hl : l.length ≤ 140737488355328) (hr : Lies w w.heap.size a (u8s l)) :
    Calls Try.prog 47 #[.slice a l.length cap, .func (.func 30) #[] #[]] w fun e w' => e = .returned (.int .i64 (firstOf l)) ∧ w = w' := by
  go_enter Try.func47, Try.ntmps47
  go_wp2
  go_loop [8] (fun i => ∃ k : Nat, k ≤ l.length ∧ i = .int .i64 k ∧ ∀ j, j < k → sq l j = 0) (fun i => l.length - (intOf i).toNat)
  case atStart => exact ⟨0, Nat.zero_le _, rfl, fun j hj => absurd hj (by omega)⟩
  case round =>
    obtain ⟨k, hk, rfl, hz⟩ := hrel
    have HZ := Lib.hid hz
    clear hz
    by_cases hlt : k < l.length
    · obtain ⟨b2, off, rfl, hbb, hc⟩ := hr (by rw [u8s_length]; omega)
      have hcell : w.cell? ⟨b2, off + k, none⟩ = some (.int .u8 (sq l k : Int)) := by rw [sq_get l k hlt]; exact hc k _ (u8s_get l k hlt)
      obtain ⟨x, hx⟩ : ∃ x, sq l k = x := ⟨_, rfl⟩
      rw [hx] at hcell
      have hk1 : (k : Int) < l.length := by omega
      by_cases h0 : x = 0
      · have HN : Hid (∀ u, Calls Try.prog 30 #[.int .u8 (x : Int)] u fun e w' => e = .returned (.bool false) ∧ u = w') := Lib.hid fun u => by have := rsnz_any x u; rwa [decide_eq_false (by omega)] at this
        have HX : Hid (sq l k = 0) := Lib.hid (by rw [hx, h0])
        clear hr hc hx h0
        go_wp2_with (go_at_call 30; (with_reducible refine (HN.out _).mono ?_); rintro e w1 ⟨rfl, rfl⟩)
        go_round
        case rel => exact ⟨k + 1, by omega, by go_num, fun j hj => by
          by_cases e : j = k
          · rw [e]; exact HX.out
          · exact HZ.out j (by omega)⟩
        case measure => simp [intOf]; omega
      · have HN : Hid (∀ u, Calls Try.prog 30 #[.int .u8 (x : Int)] u fun e w' => e = .returned (.bool true) ∧ u = w') := Lib.hid fun u => by have := rsnz_any x u; rwa [decide_eq_true (by omega)] at this
        have HX : Hid (firstOf l = (k : Int)) := Lib.hid (by
          have := zs_eq l k HZ.out (by rw [hx]; exact h0)
          rw [firstOf, this, if_pos hlt])
        clear hr hc hx h0
        go_wp2_with (go_at_call 30; (with_reducible refine (HN.out _).mono ?_); rintro e w1 ⟨rfl, rfl⟩)
        go_ret
        exact ⟨ret_int HX.out.symm, rfl⟩
    · have HX : Hid (firstOf l = -1) := Lib.hid (by
        have := zs_all l fun j hj => HZ.out j (by omega)
        rw [firstOf, this, if_neg (by omega)])
      clear hr
      go_wp2
      go_ret
      exact ⟨ret_int HX.out.symm, rfl⟩


theorem contains_any (a : Option Addr) (cap : Nat) (l : List Nat) (w : World) (hl : l.length ≤ 140737488355328) (hr : Lies w w.heap.size a (u8s l)) :
    Calls Try.prog 29 #[.slice a l.length cap, .func (.func 30) #[] #[]] w fun e w' => e = .returned (.bool (!allz l)) ∧ w = w' := by
  have HI := Lib.hid (rsindex_any a cap l w hl hr)
  have hz := zs_le l
  by_cases hlt : zs l < l.length
  · have hf : firstOf l = (zs l : Int) := if_pos hlt
    have hb : (!allz l) = true := by unfold allz; rw [decide_eq_false (by omega)]; rfl
    have HB := Lib.hid hb
    rw [hf] at HI
    generalize zs l = z at *
    have hz0 : 0 ≤ (z : Int) := by omega
    have hz1 : (z : Int) ≤ l.length := by omega
    clear hf hr hb
    go_enter Try.func29, Try.ntmps29
    go_wp2_with (go_at_call 47; (with_reducible refine HI.out.mono ?_); rintro e w1 ⟨rfl, rfl⟩)
    go_ret
    exact ⟨ret_bool HB.out.symm, rfl⟩
  · have hf : firstOf l = -1 := if_neg hlt
    have hb : (!allz l) = false := by unfold allz; rw [decide_eq_true (by omega)]; rfl
    have HB := Lib.hid hb
    rw [hf] at HI
    clear hf hr hb
    go_enter Try.func29, Try.ntmps29
    go_wp2_with (go_at_call 47; (with_reducible refine HI.out.mono ?_); rintro e w1 ⟨rfl, rfl⟩)
    go_ret
    exact ⟨ret_bool HB.out.symm, rfl⟩

theorem right_nil (a : Option Addr) (n cap : Nat) (w : World) : Calls Try.prog 15 #[.pointer none, .slice a n cap] w fun e w' => e = .returned (.bool false) ∧ Below w.heap.size w w' := by
  have HS := Lib.hid (syn_nil a n cap w)
  go_enter Try.func15, Try.ntmps15
  go_wp2_with (go_at_call 17; (with_reducible refine HS.out.mono ?_); rintro e w1 ⟨rfl, b1⟩; have B1 := Lib.hid b1; clear b1)
  go_ret
  exact ⟨rfl, B1.out⟩
theorem right_bad (c b k p : Nat) (v : Value) (a : Option Addr) (n cap : Nat) (w : World) (h : Cor w c b k p v) (hn : n ≠ k + p) (hl : n ≤ 140737488355328) : Calls Try.prog 15 #[.pointer (some ⟨c, 0, none⟩), .slice a n cap] w fun e w' => e = .returned (.bool false) ∧ Below w.heap.size w w' := by
  have HS := Lib.hid (syn_bad c b k p v a n cap w h hn hl)
  clear h hn
  go_enter Try.func15, Try.ntmps15
  go_wp2_with (go_at_call 17; (with_reducible refine HS.out.mono ?_); rintro e w1 ⟨rfl, b1⟩; have B1 := Lib.hid b1; clear b1)
  go_ret
  exact ⟨rfl, B1.out⟩
theorem right_any (c b k p : Nat) (v : Value) (a : Option Addr) (cap : Nat) (l : List Nat) (w : World) (h : Cor w c b k p v) (hn : k + p ≤ 255) (hl : l.length = k + p) (hby : By l) (hcap : l.length ≤ cap) (hr : Lies w w.heap.size a (u8s l)) :
    Calls Try.prog 15 #[.pointer (some ⟨c, 0, none⟩), .slice a (k + p) cap] w fun e w' => e = .returned (.bool (allz (vals l p))) ∧ Below w.heap.size w w' := by
  have HS := Lib.hid (syn_any c b k p v a cap l w h hn hl hby hcap hr)
  have HC : Hid (∀ (u : World) (g : Nat), Row u g 5 (u8s (vals l p)) → Calls Try.prog 29 #[.slice (some ⟨g, 0, none⟩) p p, .func (.func 30) #[] #[]] u fun e w' => e = .returned (.bool (!allz (vals l p))) ∧ u = w') := Lib.hid fun u g h1 => by
    have := contains_any (some ⟨g, 0, none⟩) p (vals l p) u (by rw [vals_length]; omega) (row_lies h1)
    rwa [vals_length] at this
  obtain ⟨m, hm⟩ : ∃ m, k + p = m := ⟨_, rfl⟩
  rw [hm] at HS ⊢
  have HV : Hid (∀ w' g, Row w' g 5 (u8s (tab p fun i => ev l (ex i))) → Row w' g 5 (u8s (vals l p))) := Lib.hid fun _ _ h => h
  obtain ⟨z, hz⟩ : ∃ z, allz (vals l p) = z := ⟨_, rfl⟩
  rw [hz] at HC ⊢
  clear h hn hl hr hby hm hz
  go_enter Try.func15, Try.ntmps15
  go_wp2_with (first
    | (go_at_call 17; (with_reducible refine HS.out.mono ?_); rintro e w1 ⟨⟨g, rfl, _, r1⟩, b1⟩; have R1 := Lib.hid (HV.out _ _ r1); have B1 := Lib.hid b1; clear b1 r1)
    | (go_at_call 29; (with_reducible refine (HC.out w1 g R1.out).mono ?_); rintro e w2 ⟨rfl, rfl⟩))
  go_ret
  exact ⟨by cases z <;> rfl, B1.out⟩

end Go.Proofs.Ytpnjmbhplckgmaa
