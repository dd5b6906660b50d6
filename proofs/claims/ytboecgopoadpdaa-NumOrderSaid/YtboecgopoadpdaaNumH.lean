/- The statements NumOrder and NumTakes: their walks. -/
import Derived.Test.YtboecgopoadpdaaNumG
import Derived.WalkLawsBesides
import Derived.Deep.RegionWith
namespace Go.Proofs.Ytboecgopoadpdaa
open Go.RowKit NumMath

theorem less_cons (a b : UInt8) (x y : List UInt8) : Op.bytesLess (a :: x) (b :: y) = (decide (a.toNat < b.toNat) || (a == b && Op.bytesLess x y)) := by
  simp [Op.bytesLess, UInt8.lt_iff_toNat_lt]

theorem be_less (s n m : Nat) (hn : n < 256 ^ s) (hm : m < 256 ^ s) : Op.bytesLess (be s n) (be s m) = decide (n < m) := by
  induction s generalizing n m with
  | zero =>
    have h1 : n = 0 := by simpa using hn
    have h2 : m = 0 := by simpa using hm
    subst h1
    subst h2
    rfl
  | succ s ih =>
    rw [be_cons, be_cons, less_cons]
    have hp : 0 < 256 ^ s := Nat.pow_pos (by omega)
    have hq : (256 : Nat) ^ (s + 1) = 256 ^ s * 256 := Nat.pow_succ ..
    have dn : n / 256 ^ s < 256 := by rw [Nat.div_lt_iff_lt_mul hp]; rw [hq, Nat.mul_comm] at hn; exact hn
    have dm : m / 256 ^ s < 256 := by rw [Nat.div_lt_iff_lt_mul hp]; rw [hq, Nat.mul_comm] at hm; exact hm
    rw [toNat_mod, toNat_mod, Nat.mod_eq_of_lt dn, Nat.mod_eq_of_lt dm]
    have en := Nat.div_add_mod n (256 ^ s)
    have em := Nat.div_add_mod m (256 ^ s)
    have ln := Nat.mod_lt n hp
    have lm := Nat.mod_lt m hp
    have bn : be s n = be s (n % 256 ^ s) := be_mod s n
    have bm : be s m = be s (m % 256 ^ s) := be_mod s m
    rw [bn, bm, ih _ _ ln lm]
    rcases Nat.lt_trichotomy (n / 256 ^ s) (m / 256 ^ s) with h | h | h
    · have : 256 ^ s * (n / 256 ^ s) + 256 ^ s ≤ 256 ^ s * (m / 256 ^ s) := by
        have := Nat.mul_le_mul_left (256 ^ s) h
        rw [Nat.mul_succ] at this
        exact this
      have hlt : n < m := by omega
      simp [h, hlt]
    · have e : UInt8.ofNat (n / 256 ^ s) = UInt8.ofNat (m / 256 ^ s) := by rw [h]
      rw [h] at en
      rw [e, h]
      simp
      omega
    · have : 256 ^ s * (m / 256 ^ s) + 256 ^ s ≤ 256 ^ s * (n / 256 ^ s) := by
        have := Nat.mul_le_mul_left (256 ^ s) h
        rw [Nat.mul_succ] at this
        exact this
      have hlt : ¬ n < m := by omega
      have hne : (UInt8.ofNat (n / 256 ^ s) == UInt8.ofNat (m / 256 ^ s)) = false := by
        rw [beq_eq_false_iff_ne]
        intro e
        have := congrArg UInt8.toNat e
        rw [UInt8.toNat_ofNat', UInt8.toNat_ofNat', Nat.mod_eq_of_lt (show n / 256 ^ s < 2 ^ 8 from dn), Nat.mod_eq_of_lt (show m / 256 ^ s < 2 ^ 8 from dm)] at this
        exact Nat.ne_of_gt h this
      simp [hlt, hne]
      omega

theorem one_lies (w : World) (x : Int) : Lies (w.alloc (.cells #[.int .i64 x] 3)) (w.alloc (.cells #[.int .i64 x] 3)).heap.size (some ⟨w.heap.size, 0, none⟩) (ints [x]) := by
  intro _
  refine ⟨w.heap.size, 0, rfl, by simp, fun j u hu => ?_⟩
  rw [World.cell?_alloc_at _ _ _ _ rfl]
  simpa [ints] using hu

theorem put_one (s x : Int) (L : List UInt8) (c : Int) (w : World) (hR : putR s [x] = (L, c)) :
    Calls Try.prog 7 #[.int .i64 s, .slice (some ⟨w.heap.size, 0, none⟩) 1 1] (w.alloc (.cells #[.int .i64 x] 3)) fun e w' => e = .returned (.tuple #[.string (str L), .int .i64 c]) ∧ Below w.heap.size w w' := by
  refine (put_at s _ 1 1 [x] L c _ rfl hR (by omega) (one_lies w x)).mono fun e w' ⟨he, hb⟩ => ⟨he, ?_⟩
  exact ((Below.refl _ _).alloc (Nat.le_refl _) _).trans (hb.mono (by simp))

theorem put_single (s x : Int) : (okB s = true ∧ fitB s x = true ∧ putR s [x] = (be s.toNat x.toNat, 0)) ∨ ∃ c, putR s [x] = ([], c) ∧ c ≠ 0 := by
  by_cases h : okB s = true
  · by_cases hf : fitB s x = true
    · refine .inl ⟨h, hf, ?_⟩
      rw [putR_ok h (by simp [fitAll, hf])]
      simp [putBytes]
    · exact .inr ⟨2, putR_range h (by simpa [fitAll] using hf), by omega⟩
  · exact .inr ⟨1, putR_arg (by simpa using h), by omega⟩

theorem numOrder_walk (s x y : Int) (w : World) :
    Calls Try.prog 5 #[.int .i64 s, .int .i64 x, .int .i64 y] w fun e w' => e = .returned (.bool true) ∧ Below w.heap.size w w' := by
  rcases put_single s x with ⟨ho, hx, hX⟩ | ⟨c, hX, hc⟩
  · rcases put_single s y with ⟨_, hy, hY⟩ | ⟨d, hY, hd⟩
    · have hs2 : 1 ≤ s ∧ s ≤ 7 := by simpa [okB] using ho
      obtain ⟨n, rfl⟩ := Int.eq_ofNat_of_zero_le (show 0 ≤ s by omega)
      have hx2 : 0 ≤ x ∧ x < 256 ^ n := by simpa [fitB] using hx
      have hy2 : 0 ≤ y ∧ y < 256 ^ n := by simpa [fitB] using hy
      obtain ⟨x, rfl⟩ := Int.eq_ofNat_of_zero_le hx2.1
      obtain ⟨y, rfl⟩ := Int.eq_ofNat_of_zero_le hy2.1
      have e : ((256 ^ n : Nat) : Int) = 256 ^ n := by simp
      have hxn : x < 256 ^ n := by omega
      have hyn : y < 256 ^ n := by omega
      simp only [Int.toNat_natCast] at hX hY
      obtain ⟨S, hS⟩ : ∃ S, S = str (be n x) := ⟨_, rfl⟩
      obtain ⟨T, hT⟩ : ∃ T, T = str (be n y) := ⟨_, rfl⟩
      have HX := Lib.hid hX
      have HY := Lib.hid hY
      have HS := Lib.hid hS
      have HT := Lib.hid hT
      have hz1 : ((S.size : Int) == (n : Int)) = true := by rw [hS, str_size, be_length]; simp
      have hz2 : ((T.size : Int) == (n : Int)) = true := by rw [hT, str_size, be_length]; simp
      have hq1 : (decide (x < y) == Op.bytesLess S.toList T.toList) = true := by
        rw [hS, hT, str_toList, str_toList, be_less n x y hxn hyn]
        simp
      have hq2 : (((x : Int) == (y : Int)) == (S.toList == T.toList)) = true := by
        rw [hS, hT, str_toList, str_toList]
        by_cases h : x = y
        · subst h; simp
        · have h2 : be n x ≠ be n y := fun h2 => h (be_inj n x y hxn hyn h2)
          have h3 : (be n x == be n y) = false := by simpa using h2
          have h4 : ((x : Int) == (y : Int)) = false := by rw [beq_eq_false_iff_ne]; omega
          rw [h3, h4]; rfl
      clear hX hY hS hT hx hy hx2 hy2 e hxn hyn ho hs2
      go_enter Try.func5, Try.ntmps5
      go_wp2_with (first
        | (go_at_call 6; refine (awake_any _).mono ?_; rintro e w1 ⟨rfl, hb1⟩)
        | (go_at_call_of 7 (Value.slice (some ⟨w1.heap.size, 0, none⟩) 1 1); refine (put_one _ _ _ _ w1 HX.out).mono ?_; rintro e w2 ⟨rfl, hb2⟩; rw [← HS.out])
        | (go_at_call 7; refine (put_one _ _ _ _ _ HY.out).mono ?_; rintro e w3 ⟨rfl, hb3⟩; rw [← HT.out]))
      go_ret
      exact ⟨rfl, hb1.trans ((hb2.mono hb1.size).trans (hb3.mono (Nat.le_trans hb1.size hb2.size)))⟩
    · obtain ⟨S, hS⟩ : ∃ S, S = str (be s.toNat x.toNat) := ⟨_, rfl⟩
      have HS := Lib.hid hS
      have HX := Lib.hid hX
      have HY := Lib.hid hY
      have hne : (d != 0) = true := by rw [bne_iff_ne]; exact hd
      clear hX hY hS hx hd ho
      go_enter Try.func5, Try.ntmps5
      go_wp2_with (first
        | (go_at_call 6; refine (awake_any _).mono ?_; rintro e w1 ⟨rfl, hb1⟩)
        | (go_at_call_of 7 (Value.slice (some ⟨w1.heap.size, 0, none⟩) 1 1); refine (put_one _ _ _ _ w1 HX.out).mono ?_; rintro e w2 ⟨rfl, hb2⟩; rw [← HS.out])
        | (go_at_call 7; refine (put_one _ _ _ _ _ HY.out).mono ?_; rintro e w3 ⟨rfl, hb3⟩))
      go_ret
      exact ⟨rfl, hb1.trans ((hb2.mono hb1.size).trans (hb3.mono (Nat.le_trans hb1.size hb2.size)))⟩
  · obtain ⟨L, d, hY⟩ : ∃ L d, putR s [y] = (L, d) := ⟨_, _, rfl⟩
    have HX := Lib.hid hX
    have HY := Lib.hid hY
    have hne : (c != 0) = true := by rw [bne_iff_ne]; exact hc
    clear hX hY hc
    go_enter Try.func5, Try.ntmps5
    go_wp2_with (first
      | (go_at_call 6; refine (awake_any _).mono ?_; rintro e w1 ⟨rfl, hb1⟩)
      | (go_at_call_of 7 (Value.slice (some ⟨w1.heap.size, 0, none⟩) 1 1); refine (put_one _ _ _ _ w1 HX.out).mono ?_; rintro e w2 ⟨rfl, hb2⟩)
      | (go_at_call 7; refine (put_one _ _ _ _ _ HY.out).mono ?_; rintro e w3 ⟨rfl, hb3⟩))
    go_ret
    exact ⟨rfl, hb1.trans ((hb2.mono hb1.size).trans (hb3.mono (Nat.le_trans hb1.size hb2.size)))⟩

end Go.Proofs.Ytboecgopoadpdaa
