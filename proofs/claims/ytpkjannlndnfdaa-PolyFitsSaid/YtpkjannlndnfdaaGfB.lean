/- Contracts of the field's functions. -/
import Derived.Test.YtpkjannlndnfdaaGfA
namespace Go.Proofs.Ytpkjannlndnfdaa
open Go.RowKit GfMath

/-- The numbers of a list are bytes. -/
def Bys (l : List Nat) : Prop := ∀ x ∈ l, x < 256
theorem Bys.get {l : List Nat} (h : Bys l) (j : Nat) (hj : j < l.length) : l[j] < 256 := h _ (List.getElem_mem hj)
theorem Bys.take {l : List Nat} (h : Bys l) (k : Nat) : Bys (l.take k) := fun x hx => h x (List.mem_of_mem_take hx)

set_option maxHeartbeats 1000000 in
theorem mul_any (b : Nat) (a : Option Addr) (cap : Nat) (l : List Nat) (w : World) (hf : Fld w b) (hb : Bys l) (hl : l.length ≤ 140737488355328) (hr : Lies w w.heap.size a (u8s l)) :
    Calls Try.prog 24 #[.pointer (some ⟨b, 0, none⟩), .slice a l.length cap] w fun e w' => e = .returned (.int .u8 (prod l : Int)) ∧ Below w.heap.size w w' := by
  have HF := Lib.hid hf
  have HR := Lib.hid hr
  have HB := Lib.hid hb
  clear hf hr hb
  go_enter Try.func24, Try.ntmps24
  go_wp2_with (go_at_call 30; refine (filled_any b _ HF.out).mono ?_; rintro e w1 ⟨rfl, rfl⟩)
  go_loopw [5, 14] (fun p i wr => ∃ k : Nat, k ≤ l.length ∧ i = .int .i64 k ∧ p = .int .u8 (prod (l.take k) : Int) ∧ Fld wr b ∧ Lies wr wr.heap.size a (u8s l) ∧ Below w.heap.size w wr) (fun _ i _ => l.length - (intOf i).toNat)
  case atStart => exact ⟨0, Nat.zero_le _, rfl, rfl, HF.out, HR.out, Below.refl _ _⟩
  case round =>
    clear HF HR
    obtain ⟨k, hk, rfl, rfl, hf, hr, hbw⟩ := hrel
    by_cases hlt : k < l.length
    · obtain ⟨b2, off, rfl, hbb, hc⟩ := hr (by rw [u8s_length]; omega)
      have hcell : wr.cell? ⟨b2, off + k, none⟩ = some (.int .u8 (l[k] : Int)) := hc k _ (u8s_get l k hlt)
      have hx := HB.out.get k hlt
      have hp : prod (l.take k) < 256 := prod_lt _ (HB.out.take k)
      have hst : prod (l.take (k + 1)) = gm (prod (l.take k)) l[k] := by rw [take_snoc l k hlt, prod_snoc]
      obtain ⟨x, hxe⟩ : ∃ x, l[k] = x := ⟨_, rfl⟩
      obtain ⟨p, hpe⟩ : ∃ p, prod (l.take k) = p := ⟨_, rfl⟩
      rw [hxe] at hcell hx hst
      rw [hpe] at hp hst
      rw [hpe]
      have HF := Lib.hid hf
      have HR : Hid (Lies wr wr.heap.size (some ⟨b2, off, none⟩) (u8s l)) := Lib.hid fun _ => ⟨b2, off, rfl, hbb, hc⟩
      have HW := Lib.hid hbw
      have HS := Lib.hid hst
      have hk1 : (k : Int) < l.length := by omega
      clear hf hr hbw hst hc hxe hpe
      go_wp2_with (go_at_call 31; refine (times_any b p x _ HF.out hp hx).mono ?_; rintro e w1 ⟨rfl, b1⟩; have B1 := Lib.hid b1; clear b1)
      go_roundw
      case rel => exact ⟨k + 1, by omega, by go_num, by rw [HS.out], HF.out.step B1.out, HR.out.step B1.out, HW.out.next B1.out⟩
      case measure => simp [intOf]; omega
    · have ek : k = l.length := by omega
      have HP : Hid (prod (l.take k) = prod l) := Lib.hid (by rw [ek, List.take_of_length_le (Nat.le_refl _)])
      have HW := Lib.hid hbw
      subst ek
      clear hf hr hbw
      go_wp2
      go_ret
      exact ⟨by rw [← HP.out]; rfl, HW.out⟩

theorem add_any (b : Nat) (a : Option Addr) (cap : Nat) (l : List Nat) (w : World) (hb : Bys l) (hl : l.length ≤ 140737488355328) (hr : Lies w w.heap.size a (u8s l)) :
    Calls Try.prog 18 #[.pointer (some ⟨b, 0, none⟩), .slice a l.length cap] w fun e w' => e = .returned (.int .u8 (sum l : Int)) ∧ w = w' := by
  have HB := Lib.hid hb
  clear hb
  go_enter Try.func18, Try.ntmps18
  go_wp2
  go_loop [5, 12] (fun p i => ∃ k : Nat, k ≤ l.length ∧ i = .int .i64 k ∧ p = .int .u8 (sum (l.take k) : Int)) (fun _ i => l.length - (intOf i).toNat)
  case atStart => exact ⟨0, Nat.zero_le _, rfl, rfl⟩
  case round =>
    obtain ⟨k, hk, rfl, rfl⟩ := hrel
    by_cases hlt : k < l.length
    · obtain ⟨b2, off, rfl, hbb, hc⟩ := hr (by rw [u8s_length]; omega)
      have hcell : w.cell? ⟨b2, off + k, none⟩ = some (.int .u8 (l[k] : Int)) := hc k _ (u8s_get l k hlt)
      have hx := HB.out.get k hlt
      have hp : sum (l.take k) < 256 := sum_lt _ (HB.out.take k)
      have hst : sum (l.take (k + 1)) = sum (l.take k) ^^^ l[k] := by rw [take_snoc l k hlt, sum_snoc]
      have ha := u8_xor_nat _ _ hp hx
      rw [← hst] at ha
      obtain ⟨x, hxe⟩ : ∃ x, l[k] = x := ⟨_, rfl⟩
      obtain ⟨p, hpe⟩ : ∃ p, sum (l.take k) = p := ⟨_, rfl⟩
      obtain ⟨q, hqe⟩ : ∃ q, sum (l.take (k + 1)) = q := ⟨_, rfl⟩
      rw [hxe] at hcell ha
      rw [hpe, hqe] at ha
      rw [hpe]
      have HQ := Lib.hid hqe
      have hk1 : (k : Int) < l.length := by omega
      clear hr hst hc hxe hpe hp hx hqe
      go_wp2
      go_round
      case rel => exact ⟨k + 1, by omega, by go_num, by rw [HQ.out]⟩
      case measure => simp [intOf]; omega
    · have ek : k = l.length := by omega
      have HP : Hid (sum (l.take k) = sum l) := Lib.hid (by rw [ek, List.take_of_length_le (Nat.le_refl _)])
      subst ek
      clear hr
      go_wp2
      go_ret
      exact ⟨by rw [← HP.out]; rfl, rfl⟩

theorem exp_any (b : Nat) (n : Int) (w : World) (hf : Fld w b) :
    Calls Try.prog 33 #[.pointer (some ⟨b, 0, none⟩), .int .i64 n] w fun e w' => e = .returned (.int .u8 (exI n : Int)) ∧ Below w.heap.size w w' := by
  have hbd := tmod_bd n
  have h1 : 0 ≤ n.tmod 255 + 255 := by omega
  have h2 : n.tmod 255 + 255 < 510 := by omega
  have h3 : ((n.tmod 255 + 255).toNat : Int) = n.tmod 255 + 255 := by omega
  have hc := hf.pw (i := (n.tmod 255 + 255).toNat) (by omega)
  rw [show ex (n.tmod 255 + 255).toNat = exI n from rfl] at hc
  obtain ⟨y, hy⟩ : ∃ y, exI n = y := ⟨_, rfl⟩
  have HF := Lib.hid hf
  rw [hy] at hc ⊢
  clear hf hy hbd
  go_enter Try.func33, Try.ntmps33
  go_wp2_with (go_at_call 30; refine (filled_any b _ HF.out).mono ?_; rintro e w1 ⟨rfl, rfl⟩)
  go_ret
  exact ⟨rfl, Below.refl _ _⟩

theorem log_zero (b : Nat) (w : World) :
    Calls Try.prog 32 #[.pointer (some ⟨b, 0, none⟩), .int .u8 0] w fun e w' => e = .returned (.tuple #[.int .i64 0, .bool false]) ∧ w = w' := by
  go_enter Try.func32, Try.ntmps32
  go_wp2
  go_ret2
  exact ⟨rfl, rfl⟩

set_option maxRecDepth 100000 in
theorem log_any (b x : Nat) (w : World) (hf : Fld w b) (hx : x < 256) (h0 : x ≠ 0) :
    Calls Try.prog 32 #[.pointer (some ⟨b, 0, none⟩), .int .u8 (x : Int)] w fun e w' => e = .returned (.tuple #[.int .i64 (lg x : Int), .bool true]) ∧ w = w' := by
  have hc := hf.lg hx
  have hl := lg_lt x
  obtain ⟨y, hy⟩ : ∃ y, lg x = y := ⟨_, rfl⟩
  rw [hy] at hc hl ⊢
  have HF := Lib.hid hf
  have hi : ¬ (x : Int) = 0 := by omega
  have hi2 : (x : Int) < 256 := by omega
  have hi3 : 0 ≤ (x : Int) := by omega
  clear hf hy h0
  go_enter Try.func32, Try.ntmps32
  go_wp2_with (go_at_call 30; refine (filled_any b _ HF.out).mono ?_; rintro e w1 ⟨rfl, rfl⟩)
  go_ret2
  exact ⟨rfl, rfl⟩

theorem inv_zero (b : Nat) (w : World) :
    Calls Try.prog 27 #[.pointer (some ⟨b, 0, none⟩), .int .u8 0] w fun e w' => e = .returned (.tuple #[.int .u8 0, .bool false]) ∧ w = w' := by
  go_enter Try.func27, Try.ntmps27
  go_wp2_with (go_at_call 32; refine (log_zero b _).mono ?_; rintro e w1 ⟨rfl, rfl⟩)
  go_ret2
  exact ⟨rfl, rfl⟩

theorem inv_any (b x : Nat) (w : World) (hf : Fld w b) (hx : x < 256) (h0 : x ≠ 0) :
    Calls Try.prog 27 #[.pointer (some ⟨b, 0, none⟩), .int .u8 (x : Int)] w fun e w' => e = .returned (.tuple #[.int .u8 (iv x : Int), .bool true]) ∧ Below w.heap.size w w' := by
  have HE : Hid (Calls Try.prog 33 #[.pointer (some ⟨b, 0, none⟩), .int .i64 (-(lg x : Int))] w fun e w' => e = .returned (.int .u8 (iv x : Int)) ∧ Below w.heap.size w w') := Lib.hid (by rw [← exI_neg h0]; exact exp_any b _ w hf)
  have HL := Lib.hid (log_any b x w hf hx h0)
  have hl := lg_lt x
  obtain ⟨y, hy⟩ : ∃ y, lg x = y := ⟨_, rfl⟩
  obtain ⟨z, hz⟩ : ∃ z, iv x = z := ⟨_, rfl⟩
  rw [hy] at HE HL hl
  rw [hz] at HE ⊢
  clear hy hz hf
  go_enter Try.func27, Try.ntmps27
  go_wp2_with (first
    | (go_at_call 32; refine HL.out.mono ?_; rintro e w1 ⟨rfl, rfl⟩)
    | (go_at_call 33; refine HE.out.mono ?_; rintro e w1 ⟨rfl, b1⟩; have B1 := Lib.hid b1; clear b1))
  go_ret2
  exact ⟨rfl, B1.out⟩

theorem div_zero (b x : Nat) (w : World) :
    Calls Try.prog 17 #[.pointer (some ⟨b, 0, none⟩), .int .u8 (x : Int), .int .u8 0] w fun e w' => e = .returned (.tuple #[.int .u8 0, .bool false]) ∧ w = w' := by
  go_enter Try.func17, Try.ntmps17
  go_wp2_with (go_at_call 27; refine (inv_zero b _).mono ?_; rintro e w1 ⟨rfl, rfl⟩)
  go_ret2
  exact ⟨rfl, rfl⟩

theorem prod_two {a b : Nat} (ha : a < 256) : prod [a, b] = gm a b := by
  simp [prod, gm_one_left ha]
theorem sum_two (a b : Nat) : sum [a, b] = a ^^^ b := by simp [sum]
theorem sum_three (a b c : Nat) : sum [a, b, c] = a ^^^ b ^^^ c := by simp [sum]
theorem prod_three {a b c : Nat} (ha : a < 256) : prod [a, b, c] = gm (gm a b) c := by
  simp [prod, gm_one_left ha]
theorem bys_two {a b : Nat} (ha : a < 256) (hb : b < 256) : Bys [a, b] := by intro x hx; simp at hx; omega
theorem bys_three {a b c : Nat} (ha : a < 256) (hb : b < 256) (hc : c < 256) : Bys [a, b, c] := by intro x hx; simp at hx; omega

/-- Products and sums of two, whose list was just laid. -/
theorem mul_two (b g cap x y : Nat) (w : World) (hf : Fld w b) (hx : x < 256) (hy : y < 256) (hr : Lies w w.heap.size (some ⟨g, 0, none⟩) (u8s [x, y])) :
    Calls Try.prog 24 #[.pointer (some ⟨b, 0, none⟩), .slice (some ⟨g, 0, none⟩) 2 cap] w fun e w' => e = .returned (.int .u8 (gm x y : Int)) ∧ Below w.heap.size w w' := by
  have h := mul_any b (some ⟨g, 0, none⟩) cap [x, y] w hf (bys_two hx hy) (by simp) hr
  rwa [prod_two hx] at h
theorem mul_three (b g cap x y z : Nat) (w : World) (hf : Fld w b) (hx : x < 256) (hy : y < 256) (hz : z < 256) (hr : Lies w w.heap.size (some ⟨g, 0, none⟩) (u8s [x, y, z])) :
    Calls Try.prog 24 #[.pointer (some ⟨b, 0, none⟩), .slice (some ⟨g, 0, none⟩) 3 cap] w fun e w' => e = .returned (.int .u8 (gm (gm x y) z : Int)) ∧ Below w.heap.size w w' := by
  have h := mul_any b (some ⟨g, 0, none⟩) cap [x, y, z] w hf (bys_three hx hy hz) (by simp) hr
  rwa [prod_three hx] at h
theorem add_two (b g cap x y : Nat) (w : World) (hx : x < 256) (hy : y < 256) (hr : Lies w w.heap.size (some ⟨g, 0, none⟩) (u8s [x, y])) :
    Calls Try.prog 18 #[.pointer (some ⟨b, 0, none⟩), .slice (some ⟨g, 0, none⟩) 2 cap] w fun e w' => e = .returned (.int .u8 ((x ^^^ y : Nat) : Int)) ∧ w = w' := by
  have h := add_any b (some ⟨g, 0, none⟩) cap [x, y] w (bys_two hx hy) (by simp) hr
  rwa [sum_two] at h
theorem add_three (b g cap x y z : Nat) (w : World) (hx : x < 256) (hy : y < 256) (hz : z < 256) (hr : Lies w w.heap.size (some ⟨g, 0, none⟩) (u8s [x, y, z])) :
    Calls Try.prog 18 #[.pointer (some ⟨b, 0, none⟩), .slice (some ⟨g, 0, none⟩) 3 cap] w fun e w' => e = .returned (.int .u8 ((x ^^^ y ^^^ z : Nat) : Int)) ∧ w = w' := by
  have h := add_any b (some ⟨g, 0, none⟩) cap [x, y, z] w (bys_three hx hy hz) (by simp) hr
  rwa [sum_three] at h
theorem laid_two (x y : Nat) (w : World) (t : TypeId) : Lies (w.alloc (.cells #[.int .u8 (x : Int), .int .u8 (y : Int)] t)) (w.alloc (.cells #[.int .u8 (x : Int), .int .u8 (y : Int)] t)).heap.size (some ⟨w.heap.size, 0, none⟩) (u8s [x, y]) := Lies.new _ w t
theorem laid_three (x y z : Nat) (w : World) (t : TypeId) : Lies (w.alloc (.cells #[.int .u8 (x : Int), .int .u8 (y : Int), .int .u8 (z : Int)] t)) (w.alloc (.cells #[.int .u8 (x : Int), .int .u8 (y : Int), .int .u8 (z : Int)] t)).heap.size (some ⟨w.heap.size, 0, none⟩) (u8s [x, y, z]) := Lies.new _ w t

theorem div_any (b x y : Nat) (w : World) (hf : Fld w b) (hx : x < 256) (hy : y < 256) (h0 : y ≠ 0) :
    Calls Try.prog 17 #[.pointer (some ⟨b, 0, none⟩), .int .u8 (x : Int), .int .u8 (y : Int)] w fun e w' => e = .returned (.tuple #[.int .u8 (gm x (iv y) : Int), .bool true]) ∧ Below w.heap.size w w' := by
  have HI := Lib.hid (inv_any b y w hf hy h0)
  have hz := iv_lt y
  obtain ⟨z, hze⟩ : ∃ z, iv y = z := ⟨_, rfl⟩
  rw [hze] at HI hz ⊢
  have HF := Lib.hid hf
  clear hf hze
  go_enter Try.func17, Try.ntmps17
  go_wp2_with (first
    | (go_at_call 27; refine HI.out.mono ?_; rintro e w1 ⟨rfl, b1⟩; have B1 := Lib.hid b1; clear b1)
    | (go_at_call 24; refine (mul_two b _ _ x z _ ((HF.out.step B1.out).step (alloc_below _ _)) hx hz (laid_two x z w1 _)).mono ?_; rintro e w2 ⟨rfl, b2⟩; have B2 := Lib.hid b2; clear b2))
  go_ret2
  exact ⟨rfl, (B1.out.next (alloc_below _ _)).next B2.out⟩

end Go.Proofs.Ytpkjannlndnfdaa
