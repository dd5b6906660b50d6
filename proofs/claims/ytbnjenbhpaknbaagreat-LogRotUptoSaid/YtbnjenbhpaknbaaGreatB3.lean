/- The texts OpK, RecA, Bd, BdS, RecB, ResT, RecC, RecD, Lst, RecF, RefNum, RecG, RecH, Eq, RecI, Grow, SliceM, GrowM, GeoMath, GeoA, GeoB, GeoMath2, GeoG, LogA, LogB, FlaZ, FlaT, FlaV, RecJ, GeoC, GeoD, one behind the other. -/
import Derived.Test.YtbnjenbhpaknbaaGreatShelf
import Derived.Shelf.Strings.Builder1
import Derived.Lib.MinMax
import Derived.Deep.QuietTactic
import Derived.Lib.Strings
import Derived.WalkSpells
import Derived.PlainAid
import Derived.Test.YtbnjenbhpaknbaaGreatB2
/- Loads and stores of whole blocks by value, in a region that draws its order (for region_invX's, region_storeT's steps). -/
namespace Go.Proofs.YtbnjenbhpaknbaaGreat
open Go.RowKit
section
variable {P : Program} {o : Oper} {A : Act} {wx : World} {K : Act → World → Prop} {Q : Exit → Act → World → Prop} {φ : Value → World → Prop} {G : World → Prop}
theorem put_defers (a : Act) (d : Option Nat) (v : Value) : (a.put d v).defers = a.defers := by cases d <;> rfl
theorem opLoadK {g : Nat} {t : TypeId} {l : List Value} (h : Row wx g t l) (ty : TypeId) {n : Nat} (hf : Fits P ty n) (hl : l.length = n) (d : Nat) (hd : o.dst = some d) (hs : d < A.tmps.size)
    (hK : ∀ a' w', (a'.defers = A.defers ∧ φ (a'.tmps.getD d undef) w' ∧ G w' ∧ Below wx.heap.size wx w') → K a' w')
    (x : Operand) (hop : o.op = .load ty x) (hx : A.eval x = .pointer (some ⟨g, 0, none⟩)) (hφ : φ (.agg l.toArray) wx) (hG : G wx) : o.wp P A wx K Q := by
  obtain ⟨d', hu, hd'⟩ := hf.row
  refine wp_load_row ty x hop g hx t l.toArray (0, 0) d' h hu (by cases d' <;> simp_all) (by simpa [hl] using hf.size) (hK _ _ ⟨put_defers _ _ _, ?_, hG, Below.refl _ _⟩)
  rw [hd, put_get A d _ hs]
  exact hφ
theorem opLoadRK {g i : Nat} {l : List Value} (h : wx.rangeAt g i l) (ty : TypeId) {n : Nat} (hf : Fits P ty n) (hl : l.length = n) (d : Nat) (hd : o.dst = some d) (hs : d < A.tmps.size)
    (hK : ∀ a' w', (a'.defers = A.defers ∧ φ (a'.tmps.getD d undef) w' ∧ G w' ∧ Below wx.heap.size wx w') → K a' w')
    (x : Operand) (hop : o.op = .load ty x) (hx : A.eval x = .pointer (some ⟨g, i, none⟩)) (hφ : φ (.agg l.toArray) wx) (hG : G wx) : o.wp P A wx K Q := by
  obtain ⟨d', hu, hd'⟩ := hf.row
  refine wp_load_mid ty x hop g i hx l d' h hu hd' (by rw [hl]; exact hf.size) (hK _ _ ⟨put_defers _ _ _, ?_, hG, Below.refl _ _⟩)
  rw [hd, put_get A d _ hs]
  exact hφ
theorem opStoreK {H : World → Prop} {g : Nat} {t : TypeId} {l : List Value} (h : Row wx g t l) (ty : TypeId) (m : List Value) {n : Nat} (hf : Fits P ty n) (hl : l.length = n) (hm : m.length = n) (h1 : m.all (·.oneCell') = true)
    (hK : ∀ a' w', (a'.defers = A.defers ∧ H w') → K a' w')
    (x y : Operand) (hop : o.op = .store ty x y) (hx : A.eval x = .pointer (some ⟨g, 0, none⟩)) (hy : A.eval y = .agg m.toArray)
    (hH : ∀ w', Row w' g t m → Only g wx w' → w'.heap.size = wx.heap.size → H w') : o.wp P A wx K Q :=
  wp_store_row ty x y hop g m.toArray hx hy t l.toArray h (by simpa [hm] using hf.size) (by simp [hl, hm]) (by simpa using h1)
    (hK _ _ ⟨put_defers _ _ _, hH _ (h.put m) ((Only.refl g wx).putRow g _ (Or.inl rfl)) (by simp)⟩)
/-- A variable's zero value. -/
theorem opAllocK (Z : List Value) (ty : TypeId) (hz : ∀ u, (zeroValue ty).run P u = .ok (.agg Z.toArray) u) (d : Nat) (hd : o.dst = some d) (hs : d < A.tmps.size)
    (hK : ∀ a' w', (a'.defers = A.defers ∧ φ (a'.tmps.getD d undef) w' ∧ G w' ∧ Below wx.heap.size wx w') → K a' w') (hop : o.op = .alloc ty)
    (hφ : ∀ w', Row w' wx.heap.size ty Z → Below wx.heap.size wx w' → φ (.pointer (some ⟨wx.heap.size, 0, none⟩)) w' ∧ G w') : o.wp P A wx K Q := by
  have h := hz wx
  unfold Oper.wp execOp
  simp only [hop, Instr.alloc, Sem.run_bind, h, Result.andThen_ok, newVar, Value.cells]
  simp [go_sem]
  have hb : Below wx.heap.size wx (wx.alloc (.cells Z.toArray ty)) := (Below.refl _ _).alloc (Nat.le_refl _) _
  have := hφ _ (Row.new wx ty Z) hb
  refine hK _ _ ⟨put_defers _ _ _, ?_, this.2, hb⟩
  rw [hd]
  show φ ((A.put (some d) (.pointer (some ⟨wx.heap.size, 0, none⟩))).tmps.getD d undef) _
  rw [put_get A d _ hs]
  exact this.1
/-- A part of a block, by value. -/
theorem wpLoadRK {ops : Array Oper} {rest : List Oper} {o : Oper} {a : Act} {w : World} {Q : Exit → Act → World → Prop} {g i : Nat} {y : List Value} (h : w.rangeAt g i y) (ty : TypeId) {n : Nat} (hf : Fits P ty n) (hy : y.length = n)
    (ho : loadOf o a = some (ty, .pointer (some ⟨g, i, none⟩))) (k : wpList P ops Q rest (a.put o.dst (.agg y.toArray)) w) : wpList P ops Q (o :: rest) a w := by
  obtain ⟨hg, p, ho, hp⟩ := loadOf_spec ho
  obtain ⟨d, hu, hd⟩ := hf.row
  exact wpList_load_mid hg ty p ho g i hp y d h hu hd (by rw [hy]; exact hf.size) k
theorem madeCells_same (v : Value) (m n : Nat) (hm : 0 < m) : madeCells (List.replicate m v).toArray n = (List.replicate n v).toArray := by
  apply Array.ext
  · simp [madeCells]
  · intro i h1 h2
    simp [madeCells, Nat.mod_lt _ hm]
/-- make([]T, n), T of s cells that are all alike. -/
theorem wpMakeS {ops : Array Oper} {rest : List Oper} {o : Oper} {a : Act} {w : World} {Q : Exit → Act → World → Prop} (T e : TypeId) (v : Value) (s n : Nat) (hT : P.underlying T = some (.slice e)) (hz : (P.info? e).map (fun i => (i.zero, i.size)) = some (some (.agg (List.replicate s v).toArray), s)) (hb : ((P.info? e).map fun i => decide (i.bytes ≤ 4096)) = some true) (hs : 0 < s)
    (hn : n ≤ 1000000) (ho : makeOf o a = some (T, .int .i64 (n : Int), .int .i64 (n : Int)))
    (k : ∀ w', Row w' w.heap.size e (List.replicate (n * s) v) → Below w.heap.size w w' → w'.heap.size = w.heap.size + 1 → wpList P ops Q rest (a.put o.dst (.slice (some ⟨w.heap.size, 0, none⟩) n n)) w') : wpList P ops Q (o :: rest) a w := by
  obtain ⟨hg, x, y, hop, hx, hy⟩ := makeOf_spec ho
  cases hq : P.info? e with
  | none => rw [hq] at hz; cases hz
  | some i =>
    rw [hq] at hz hb
    simp only [Option.map_some, Option.some.injEq, Prod.mk.injEq] at hz
    simp only [Option.map_some, Option.some.injEq, decide_eq_true_eq] at hb
    have hbb : (i.bytes : Int) * (n : Int) ≤ 281474976710656 := by
      have h1 : i.bytes * n ≤ 4096 * 1000000 := Nat.mul_le_mul hb hn
      have h2 : ((i.bytes * n : Nat) : Int) ≤ 281474976710656 := by omega
      rwa [Int.natCast_mul] at h2
    have hr := run_make (P := P) w T e i _ hT hq hz.1 .i64 .i64 (n : Int) (n : Int) (by omega) (by omega) hbb (by omega)
    rw [Int.toNat_natCast, hz.2] at hr
    have hm : madeCells (Value.agg (List.replicate s v).toArray).cells (n * s) = (List.replicate (n * s) v).toArray := madeCells_same v s (n * s) hs
    rw [hm] at hr
    refine wpList_plain hg fun K hK => ?_
    unfold Oper.wp execOp
    simp only [hop, hx, hy, Sem.run_bind, hr, Result.andThen_ok]
    exact hK _ _ (k _ (Row.new w e _) ((Below.refl _ _).alloc (Nat.le_refl _) _) (by simp))
end
/-- A new block that holds these values. -/
def Nb (base : World) (t : TypeId) (l : List Value) : Value → World → Prop := fun v w => ∃ g, v = .pointer (some ⟨g, 0, none⟩) ∧ base.heap.size ≤ g ∧ Row w g t l
theorem Nb.monot (base : World) (t : TypeId) (l : List Value) : Monot (Nb base t l) := fun _ _ _ ⟨g, h1, h2, h3⟩ hb => ⟨g, h1, h2, h3.step hb⟩
end Go.Proofs.YtbnjenbhpaknbaaGreat

/- fit and Right of the program. -/
namespace Go.Proofs.YtbnjenbhpaknbaaGreat
open Go.RowKit CrcMath NumMath
set_option linter.unusedVariables false
set_option maxRecDepth 100000

def prs (l : List (Nat × Int)) : List Value := l.flatMap fun p => [.int .i64 (p.1 : Int), .int .i64 p.2]
theorem prs_cons (p : Nat × Int) (l : List (Nat × Int)) : prs (p :: l) = .int .i64 (p.1 : Int) :: .int .i64 p.2 :: prs l := rfl
theorem prs_length (l : List (Nat × Int)) : (prs l).length = 2 * l.length := by
  induction l with
  | nil => rfl
  | cons p l ih => rw [prs_cons, List.length_cons, List.length_cons, ih, List.length_cons]; omega
theorem prs_get (l : List (Nat × Int)) (k : Nat) (h : k < l.length) : (prs l)[k * 2]? = some (.int .i64 (l[k].1 : Int)) ∧ (prs l)[k * 2 + 1]? = some (.int .i64 l[k].2) := by
  induction l generalizing k with
  | nil => exact absurd h (by simp)
  | cons p l ih =>
    cases k with
    | zero => exact ⟨rfl, rfl⟩
    | succ k =>
      have := ih k (by simpa using h)
      have e : (k + 1) * 2 = k * 2 + 2 := by omega
      rw [e, prs_cons]
      exact this
theorem Lies.pair {w : World} {bl off : Nat} {l : List (Nat × Int)} (hc : ∀ j u, (prs l)[j]? = some u → w.cell? ⟨bl, off + j, none⟩ = some u) (k : Nat) (h : k < l.length) : w.rangeAt bl (off + k * 2) [.int .i64 (l[k].1 : Int), .int .i64 l[k].2] := by
  intro j v hv
  obtain ⟨h0, h1⟩ := prs_get l k h
  match j, hv with
  | 0, hv => rw [Nat.add_zero]; rw [← Option.some.inj hv]; exact hc _ _ h0
  | 1, hv => rw [Nat.add_assoc]; rw [← Option.some.inj hv]; exact hc _ _ h1
  | j + 2, hv => exact absurd hv (by simp)
def fit1 (p : Nat × Int) : Bool := p.2 / 2 ^ p.1 == 0
theorem fit1_is (b : Nat) (x m : Int) (hm : 2 ^ b = m) (h0 : 0 < m) : fit1 (b, x) = decide (0 ≤ x ∧ x < m) := by
  unfold fit1
  simp only [hm]
  rw [Bool.eq_iff_iff]
  simp only [beq_iff_eq, decide_eq_true_eq]
  constructor
  · intro e
    have h1 := Int.emod_nonneg x (Int.ne_of_gt h0)
    have h2 := Int.emod_lt_of_pos x h0
    have h3 := Int.mul_ediv_add_emod x m
    rw [e] at h3
    omega
  · rintro ⟨h1, h2⟩
    exact Int.ediv_eq_zero_of_lt h1 h2
theorem zero_two : ∀ u, (zeroValue 133).run Tryz.prog u = .ok (.agg [Value.int .i64 0, .int .i64 0].toArray) u := fun u => by kernel_rfl
theorem fits_two : Fits Tryz.prog 133 2 := ⟨⟨_, Tryz.underlying133, rfl⟩, by kernel_rfl⟩

set_option maxHeartbeats 1000000 in
theorem rec_fit_any (a : Option Addr) (n cap : Nat) (l : List (Nat × Int)) (w : World) (hn : l.length = n) (hl : n ≤ 100000) (hb : ∀ p ∈ l, p.1 < 64) (hr : Lies w w.heap.size a (prs l)) :
    Calls Tryz.prog 79 #[.slice a n cap] w fun e w' => e = .returned (.bool (l.all fit1)) ∧ Below w.heap.size w w' := by
  have HR := Lib.hid hr
  clear hr
  go_enter Tryz.func79, Tryz.ntmps79
  go_wp2
  go_loopw [7] (fun i wr => ∃ k : Nat, k ≤ n ∧ i = .int .i64 k ∧ (l.take k).all fit1 = true ∧ Below w.heap.size w wr) (fun i _ => n - (intOf i).toNat)
  case atStart => exact ⟨0, by omega, rfl, rfl, Below.refl _ _⟩
  case round =>
    obtain ⟨k, hk, rfl, hall, hbw⟩ := hrel
    by_cases hlt : k < n
    · have hkl : k < l.length := by omega
      obtain ⟨bl, off, rfl, hbb, hc⟩ := HR.out (by rw [prs_length]; omega)
      obtain ⟨b, x, hp⟩ : ∃ b x, l[k] = (b, x) := ⟨_, _, rfl⟩
      have hb64 : b < 64 := by have := hb _ (List.getElem_mem hkl); rw [hp] at this; exact this
      have HRG : Hid (wr.rangeAt bl (off + k * 2) [.int .i64 (b : Int), .int .i64 x]) := Lib.hid (by
        have := Lies.pair (w := wr) (fun j u hj => (hbw.cell (p := ⟨bl, off + j, none⟩) hbb).trans (hc j u hj)) k hkl
        rw [hp] at this
        exact this)
      have HT : Hid (l.take (k + 1) = l.take k ++ [(b, x)]) := Lib.hid (by rw [take_snoc l k hkl, hp])
      have HA := Lib.hid hall
      have HBW := Lib.hid hbw
      have HN := Lib.hid hn
      clear hc hbw hall hp hn hb
      cases hf : fit1 (b, x) with
      | true =>
        have hq : (x / 2 ^ b == 0) = true := hf
        go_wp2_with (first
          | ((with_reducible refine wpLoadRK HRG.out 133 fits_two rfl ?_ ?_); rfl)
          | ((with_reducible refine wpAllocK (w := wr) [.int .i64 0, .int .i64 0] 133 zero_two ?_ ?_); rfl; intro u1 r1 b1 s1; have R1 := Lib.hid r1; have W1 := Lib.hid b1; have B1 : Hid (Below w.heap.size w u1) := Lib.hid (HBW.out.next b1); clear r1 b1 s1)
          | ((with_reducible refine R1.out.wpStoreK 133 [.int .i64 (b : Int), .int .i64 x] fits_two rfl rfl rfl ?_ ?_); rfl; intro u2 r2 o2 s2; have c0 : u2.cell? ⟨wr.heap.size, 0, none⟩ = some (.int .i64 (b : Int)) := r2.cell 0; have c1 : u2.cell? ⟨wr.heap.size, 1, none⟩ = some (.int .i64 x) := r2.cell 1; have B2 : Hid (Below w.heap.size w u2) := Lib.hid (B1.out.trans (o2.below HBW.out.size B1.out.size)); clear r2 o2 s2))
        go_roundw
        case rel => exact ⟨k + 1, by omega, by go_num, by rw [HT.out, List.all_append, HA.out]; simp [hf], B2.out⟩
        case measure => simp [intOf]; omega
      | false =>
        have hq : (x / 2 ^ b == 0) = false := hf
        go_wp2_with (first
          | ((with_reducible refine wpLoadRK HRG.out 133 fits_two rfl ?_ ?_); rfl)
          | ((with_reducible refine wpAllocK (w := wr) [.int .i64 0, .int .i64 0] 133 zero_two ?_ ?_); rfl; intro u1 r1 b1 s1; have R1 := Lib.hid r1; have W1 := Lib.hid b1; have B1 : Hid (Below w.heap.size w u1) := Lib.hid (HBW.out.next b1); clear r1 b1 s1)
          | ((with_reducible refine R1.out.wpStoreK 133 [.int .i64 (b : Int), .int .i64 x] fits_two rfl rfl rfl ?_ ?_); rfl; intro u2 r2 o2 s2; have c0 : u2.cell? ⟨wr.heap.size, 0, none⟩ = some (.int .i64 (b : Int)) := r2.cell 0; have c1 : u2.cell? ⟨wr.heap.size, 1, none⟩ = some (.int .i64 x) := r2.cell 1; have B2 : Hid (Below w.heap.size w u2) := Lib.hid (B1.out.trans (o2.below HBW.out.size B1.out.size)); clear r2 o2 s2))
        go_ret
        have hno : l.all fit1 = false := by
          cases hh : l.all fit1 with
          | false => rfl
          | true =>
            have e : l = l.take (k + 1) ++ l.drop (k + 1) := (List.take_append_drop _ _).symm
            rw [e, HT.out] at hh
            simp [hf] at hh
        exact ⟨ret_bool hno.symm, B2.out⟩
    · have HE : Hid (l.take k = l) := Lib.hid (List.take_of_length_le (by omega))
      have HA := Lib.hid hall
      clear hall
      go_wp2
      go_ret
      have h1 := HA.out
      rw [HE.out] at h1
      exact ⟨ret_bool h1.symm, hbw⟩

def rcv (k s n v : Int) : List Value := [.int .i64 k, .int .i64 s, .int .i64 n, .int .i64 v]
theorem fits_rec : Fits Tryz.prog 36 4 := ⟨⟨_, Tryz.underlying36, rfl⟩, by kernel_rfl⟩
theorem zero_rec : ∀ u, (zeroValue 36).run Tryz.prog u = .ok (.agg (rcv 0 0 0 0).toArray) u := fun u => by kernel_rfl
theorem rOk_all (k s n v : Int) : [((7 : Nat), k), (2, s), (16, n), (48, v)].all fit1 = rOk k s n v := by
  simp only [List.all_cons, List.all_nil, Bool.and_true]
  rw [fit1_is 7 k 128 (by decide) (by omega), fit1_is 2 s 4 (by decide) (by omega), fit1_is 16 n 65536 (by decide) (by omega), fit1_is 48 v 281474976710656 (by decide) (by omega), rOk, ← Bool.decide_and, ← Bool.decide_and, ← Bool.decide_and, decide_eq_decide]
  omega
set_option maxHeartbeats 1000000 in
theorem rec_right_any (k s n v : Int) (w : World) :
    Calls Tryz.prog 54 #[.agg (rcv k s n v).toArray] w fun e w' => e = .returned (.bool (rOk k s n v)) ∧ Below w.heap.size w w' := by
  obtain ⟨R, hR⟩ : ∃ R, rOk k s n v = R := ⟨_, rfl⟩
  have HF : Hid (∀ u, Calls Tryz.prog 79 #[.slice (some ⟨u.heap.size, 0, none⟩) 4 4] (u.alloc (.cells #[.int .i64 7, .int .i64 k, .int .i64 2, .int .i64 s, .int .i64 16, .int .i64 n, .int .i64 48, .int .i64 v] 133)) fun e u' => e = .returned (.bool R) ∧ Below u.heap.size u u') := Lib.hid fun u => by
    rw [← hR, ← rOk_all]
    exact (rec_fit_any _ 4 4 [((7 : Nat), k), (2, s), (16, n), (48, v)] _ rfl (by omega) (by simp) (Lies.new (prs [((7 : Nat), k), (2, s), (16, n), (48, v)]) u 133)).mono fun e u' h => ⟨h.1, (alloc_below u _).next h.2⟩
  rw [hR]
  obtain ⟨V, hV⟩ : ∃ V, rcv k s n v = V := ⟨_, rfl⟩
  have H0 : Hid (V[0]? = some (.int .i64 k)) := Lib.hid (by rw [← hV]; rfl)
  have H1 : Hid (V[1]? = some (.int .i64 s)) := Lib.hid (by rw [← hV]; rfl)
  have H2 : Hid (V[2]? = some (.int .i64 n)) := Lib.hid (by rw [← hV]; rfl)
  have H3 : Hid (V[3]? = some (.int .i64 v)) := Lib.hid (by rw [← hV]; rfl)
  rw [hV]
  clear hR hV
  go_enter Tryz.func54, Tryz.ntmps54
  go_wp2_with (first
    | ((with_reducible refine wpBoxK V 36 ?_ ?_); rfl; intro u1 r1 b1 s1; have B1 := Lib.hid b1; have c0 : u1.cell? ⟨w.heap.size, 0, none⟩ = some (.int .i64 k) := (r1.cell 0).trans H0.out; have c1 : u1.cell? ⟨w.heap.size, 1, none⟩ = some (.int .i64 s) := (r1.cell 1).trans H1.out; have c2 : u1.cell? ⟨w.heap.size, 2, none⟩ = some (.int .i64 n) := (r1.cell 2).trans H2.out; have c3 : u1.cell? ⟨w.heap.size, 3, none⟩ = some (.int .i64 v) := (r1.cell 3).trans H3.out; clear r1 b1 s1)
    | (go_at_call 79; (with_reducible refine (HF.out u1).mono ?_); rintro e u2 ⟨rfl, b2⟩; have B2 : Hid (Below w.heap.size w u2) := Lib.hid (B1.out.next b2); clear b2))
  go_ret
  exact ⟨rfl, B2.out⟩
end Go.Proofs.YtbnjenbhpaknbaaGreat

/- A strings.Builder that holds some bytes. -/
namespace Go.Proofs.YtbnjenbhpaknbaaGreat
open Go.RowKit
set_option linter.unusedVariables false
set_option maxRecDepth 100000

/-- A builder in block b that holds the bytes l. -/
def Bd (B b : Nat) (l : List UInt8) (w : World) : Prop := Lib.IsBuilder 151 5 B b (bytes l) w

theorem Bd.below {B b : Nat} {l : List UInt8} {w w' : World} (h : Bd B b l w) (hb : Below w.heap.size w w') : Bd B b l w' := by
  have key : ∀ p, Lib.BuilderAt 151 5 B b p (bytes l) w → Lib.BuilderAt 151 5 B b p (bytes l) w' := by
    rintro p ⟨h1, v, h2, h3, h4⟩
    exact ⟨h1, v, (hb.block b (Array.getElem?_eq_some_iff.1 h2).1).trans h2, own_below h3 hb, h4⟩
  rcases h with h | h
  · exact Or.inl (key _ h)
  · exact Or.inr (key _ h)
theorem Bd.lt {B b : Nat} {l : List UInt8} {w : World} (h : Bd B b l w) : b < w.heap.size := by
  rcases h with h | h
  · exact h.lt
  · exact h.lt
theorem Bd.new (w : World) : Bd w.heap.size w.heap.size [] (w.alloc (.cells #[.pointer none, .slice none 0 0] 151)) := Lib.fresh_isBuilder _ _ _


end Go.Proofs.YtbnjenbhpaknbaaGreat

/- A strings.Builder: WriteString. -/
namespace Go.Proofs.YtbnjenbhpaknbaaGreat
open Go.RowKit
set_option linter.unusedVariables false
set_option maxRecDepth 100000
/-- WriteString's laying: the shelf's table lays it out of strings.Repeat's. -/
theorem lay166 : Go.Proofs.Lays.n166 Tryz.prog Tryz.lays105_ren := { Tryz.lays105 with }
theorem bwriteS_any (B b : Nat) (l : List UInt8) (s : ByteArray) (L : List UInt8) (w : World) (hs : s.data.toList = L) (h : Bd B b l w) (hlen : l.length + s.size ≤ 1099511627776) (hBw : B ≤ w.heap.size) :
    Calls Tryz.prog 95 #[.pointer (some ⟨b, 0, none⟩), .string s] w fun e w' => e = .returned (.tuple #[.int .i64 (s.size : Int), .nilIface]) ∧ Bd B b (l ++ L) w' ∧ Below B w w' := by
  refine (Any.Builder_WriteString lay166 Tryz.Builder_Extra_105 B b (bytes l) s w h (by rw [bytes_length]; omega) hBw).mono ?_
  rintro e w' ⟨rfl, h1, h2⟩
  refine ⟨rfl, Or.inr ?_, h2⟩
  rw [bytes_append, ← hs]
  exact h1
end Go.Proofs.YtbnjenbhpaknbaaGreat

/- lay and Put of the program. -/
namespace Go.Proofs.YtbnjenbhpaknbaaGreat
open Go.RowKit CrcMath NumMath
set_option linter.unusedVariables false
set_option maxRecDepth 100000

def layB (l : List (Nat × Int)) : List UInt8 := l.flatMap fun p => be p.1 p.2.toNat
theorem layB_snoc (l : List (Nat × Int)) (p : Nat × Int) : layB (l ++ [p]) = layB l ++ be p.1 p.2.toNat := by simp [layB]
def layOk (p : Nat × Int) : Prop := 1 ≤ p.1 ∧ p.1 ≤ 7 ∧ fitB p.1 p.2 = true
theorem layB_length (l : List (Nat × Int)) (h : ∀ p ∈ l, layOk p) : (layB l).length ≤ 7 * l.length := by
  induction l with
  | nil => simp [layB]
  | cons p l ih =>
    have h1 := ih fun q hq => h q (List.mem_cons_of_mem _ hq)
    have h2 := h p (List.mem_cons_self ..)
    have e : layB (p :: l) = be p.1 p.2.toNat ++ layB l := by simp [layB]
    rw [e, List.length_append, be_length, List.length_cons]
    unfold layOk at h2
    omega

set_option maxHeartbeats 1000000 in
theorem rec_lay_any (a : Option Addr) (n cap : Nat) (l : List (Nat × Int)) (w : World) (hn : l.length = n) (hl : n ≤ 1000) (hb : ∀ p ∈ l, layOk p) (hr : Lies w w.heap.size a (prs l)) :
    Calls Tryz.prog 80 #[.slice a n cap] w fun e w' => e = .returned (.string (str (layB l))) ∧ Below w.heap.size w w' := by
  have HR := Lib.hid hr
  have HB0 := Lib.hid (Bd.new w)
  clear hr
  go_enter Tryz.func80, Tryz.ntmps80
  go_wp2
  go_loopw [10] (fun i wr => ∃ k : Nat, k ≤ n ∧ i = .int .i64 k ∧ Bd w.heap.size w.heap.size (layB (l.take k)) wr ∧ Below w.heap.size w wr) (fun i _ => n - (intOf i).toNat)
  case atStart => exact ⟨0, by omega, rfl, HB0.out, alloc_below _ _⟩
  case round =>
    obtain ⟨k, hk, rfl, hbd, hbw⟩ := hrel
    by_cases hlt : k < n
    · have hkl : k < l.length := by omega
      obtain ⟨bl, off, rfl, hbb, hc⟩ := HR.out (by rw [prs_length]; omega)
      obtain ⟨b, x, hp⟩ : ∃ b x, l[k] = (b, x) := ⟨_, _, rfl⟩
      have hok : layOk (b, x) := by have := hb _ (List.getElem_mem hkl); rw [hp] at this; exact this
      have HRG : Hid (wr.rangeAt bl (off + k * 2) [.int .i64 (b : Int), .int .i64 x]) := Lib.hid (by
        have := Lies.pair (w := wr) (fun j u hj => (hbw.cell (p := ⟨bl, off + j, none⟩) hbb).trans (hc j u hj)) k hkl
        rw [hp] at this
        exact this)
      obtain ⟨T, hT⟩ : ∃ T, str (be b x.toNat) = T := ⟨_, rfl⟩
      have HTL : Hid (T.data.toList = be b x.toNat) := Lib.hid (by rw [← hT, str_list])
      have HTZ : T.size ≤ 7 := by rw [← hT, str_size, be_length]; exact hok.2.1
      have HP : Hid (∀ u, Calls Tryz.prog 94 #[.int .i64 (b : Int), .slice (some ⟨u.heap.size, 0, none⟩) 1 1] (u.alloc (.cells #[.int .i64 x] 3)) fun e u' => e = .returned (.tuple #[.string T, .int .i64 0]) ∧ Below u.heap.size u u') := Lib.hid fun u => by
        rw [← hT]
        exact (put_at (b : Int) _ 1 1 [x] _ 0 (u.alloc (.cells #[.int .i64 x] 3)) rfl (by rw [putR_ok (okB_yes (by have := hok.1; omega) (by have := hok.2.1; omega)) (by simp [fitAll, hok.2.2])]; simp [putBytes]) (by omega) (Lies.new (ints [x]) u 3)).mono fun e u' h => ⟨h.1, (alloc_below u _).next h.2⟩
      have HT : Hid (layB (l.take (k + 1)) = layB (l.take k) ++ be b x.toNat) := Lib.hid (by rw [take_snoc l k hkl, hp, layB_snoc])
      have HZ : Hid ((layB (l.take k)).length + T.size ≤ 1099511627776) := Lib.hid (by
        have := layB_length (l.take k) fun p h => hb p (List.mem_of_mem_take h)
        rw [List.length_take] at this
        omega)
      have HBD := Lib.hid hbd
      have HBW := Lib.hid hbw
      obtain ⟨D, hD⟩ : ∃ D, layB (l.take k) = D := ⟨_, rfl⟩
      rw [hD] at HT HBD HZ
      clear hc hbw hbd hp hn hb hok hT hD HTZ
      go_wp2_with (first
        | ((with_reducible refine wpLoadRK HRG.out 133 fits_two rfl ?_ ?_); rfl)
        | ((with_reducible refine wpAllocK (w := wr) [.int .i64 0, .int .i64 0] 133 zero_two ?_ ?_); rfl; intro u1 r1 b1 s1; have R1 := Lib.hid r1; have W1 := Lib.hid b1; have B1 : Hid (Below w.heap.size w u1) := Lib.hid (HBW.out.next b1); clear r1 b1 s1)
        | ((with_reducible refine R1.out.wpStoreK 133 [.int .i64 (b : Int), .int .i64 x] fits_two rfl rfl rfl ?_ ?_); rfl; intro u2 r2 o2 s2; have c0 : u2.cell? ⟨wr.heap.size, 0, none⟩ = some (.int .i64 (b : Int)) := r2.cell 0; have c1 : u2.cell? ⟨wr.heap.size, 1, none⟩ = some (.int .i64 x) := r2.cell 1; have B2 : Hid (Below w.heap.size w u2) := Lib.hid (B1.out.trans (o2.below HBW.out.size B1.out.size)); have D2 : Hid (Bd w.heap.size w.heap.size D u2) := Lib.hid (HBD.out.below (W1.out.trans (o2.below (Nat.le_refl _) W1.out.size))); clear r2 o2 s2)
        | (go_at_call 94; (with_reducible refine (HP.out u2).mono ?_); rintro e u3 ⟨rfl, b3⟩; have D3 : Hid (Bd w.heap.size w.heap.size D u3) := Lib.hid (D2.out.below b3); have B3 : Hid (Below w.heap.size w u3) := Lib.hid (B2.out.next b3); clear b3)
        | (go_at_call 95; (with_reducible refine (bwriteS_any _ _ D T _ u3 HTL.out D3.out HZ.out B3.out.size).mono ?_); rintro e u4 ⟨rfl, d4, b4⟩; have D4 := Lib.hid d4; have B4 : Hid (Below w.heap.size w u4) := Lib.hid (B3.out.trans b4); clear d4 b4))
      go_roundw
      case rel => exact ⟨k + 1, by omega, by go_num, by rw [HT.out]; exact D4.out, B4.out⟩
      case measure => simp [intOf]; omega
    · have HE : Hid (l.take k = l) := Lib.hid (List.take_of_length_le (by omega))
      rw [HE.out] at hbd
      have HS := Lib.hid (Tryz.Builder_String_any w.heap.size w.heap.size (layB l) wr hbd hbw.size)
      clear hbd
      go_wp2_with (go_at_call 96; (with_reducible refine HS.out.mono ?_); rintro e w3 ⟨rfl, hb3⟩)
      go_ret
      exact ⟨rfl, hbw.trans hb3⟩

/-- A record in memory: its four cells. -/
theorem rcv_length (k s n v : Int) : (rcv k s n v).length = 4 := rfl
theorem rcv_one (k s n v : Int) : (rcv k s n v).all (·.oneCell') = true := rfl

theorem rec_put_nil (k s n v : Int) (w : World) :
    Calls Tryz.prog 55 #[.pointer none, .agg (rcv k s n v).toArray] w fun e w' => e = .returned (.tuple #[.string ByteArray.empty, .int .i64 1]) ∧ Below w.heap.size w w' := by
  obtain ⟨V, hV⟩ : ∃ V, rcv k s n v = V := ⟨_, rfl⟩
  rw [hV]
  clear hV
  go_enter Tryz.func55, Tryz.ntmps55
  go_wp2_with (first
    | ((with_reducible refine wpBoxK V 36 ?_ ?_); rfl; intro u1 r1 b1 s1; have B1 := Lib.hid b1; clear r1 b1 s1))
  go_ret2
  exact ⟨rfl, B1.out⟩

theorem rec_put_no (b : Nat) (k s n v : Int) (w : World) (hok : rOk k s n v = false) :
    Calls Tryz.prog 55 #[.pointer (some ⟨b, 0, none⟩), .agg (rcv k s n v).toArray] w fun e w' => e = .returned (.tuple #[.string ByteArray.empty, .int .i64 1]) ∧ Below w.heap.size w w' := by
  have HRT : Hid (∀ u, Calls Tryz.prog 54 #[.agg (rcv k s n v).toArray] u fun e u' => e = .returned (.bool false) ∧ Below u.heap.size u u') := Lib.hid fun u => by rw [← hok]; exact rec_right_any k s n v u
  have HL : Hid ((rcv k s n v).length = 4) := Lib.hid rfl
  obtain ⟨V, hV⟩ : ∃ V, rcv k s n v = V := ⟨_, rfl⟩
  rw [hV] at HRT HL ⊢
  clear hV hok
  go_enter Tryz.func55, Tryz.ntmps55
  go_wp2_with (first
    | ((with_reducible refine wpBoxK V 36 ?_ ?_); rfl; intro u1 r1 b1 s1; have R1 := Lib.hid r1; have B1 := Lib.hid b1; clear r1 b1 s1)
    | ((with_reducible refine R1.out.wpLoadG 36 fits_rec HL.out ?_ ?_); rfl)
    | (go_at_call 54; (with_reducible refine (HRT.out u1).mono ?_); rintro e u2 ⟨rfl, b2⟩; have B2 : Hid (Below w.heap.size w u2) := Lib.hid (B1.out.next b2); clear b2))
  go_ret2
  exact ⟨rfl, B2.out⟩

theorem lay_txt {k s n v : Int} (h : rOk k s n v = true) : layB [((1 : Nat), k), (1, s), (2, n), (6, v), (2, 0)] = txtB k s n v ∧ ∀ p ∈ [((1 : Nat), k), (1, s), (2, n), (6, v), (2, 0)], layOk p := by
  obtain ⟨h1, h2, h3, h4, h5, h6, h7, h8⟩ := rOk_is h
  refine ⟨by simp [layB, txtB], fun p hp => ?_⟩
  have f1 : (256 : Int) ^ (1 : Nat) = 256 := rfl
  have f2 : (256 : Int) ^ (2 : Nat) = 65536 := rfl
  have f6 : (256 : Int) ^ (6 : Nat) = 281474976710656 := rfl
  simp only [List.mem_cons, List.not_mem_nil, or_false] at hp
  rcases hp with rfl | rfl | rfl | rfl | rfl <;> simp only [layOk, fitB, Int.toNat_natCast, f1, f2, f6, decide_eq_true_eq] <;> omega
theorem lay_sum (l : List UInt8) : layB [((4 : Nat), sumM l)] = be 4 (sumM l).toNat ∧ ∀ p ∈ [((4 : Nat), sumM l)], layOk p := by
  have := sumM_bd l
  refine ⟨by simp [layB], fun p hp => ?_⟩
  have f4 : (256 : Int) ^ (4 : Nat) = 4294967296 := rfl
  simp only [List.mem_cons, List.not_mem_nil, or_false] at hp
  subst hp
  simp only [layOk, fitB, Int.toNat_natCast, f4, decide_eq_true_eq]
  omega
theorem sumM_min (l : List UInt8) : min (sumI l) 4294967294 = sumM l := by
  have := sumI_bd l
  unfold sumM
  split <;> omega

set_option maxHeartbeats 1000000 in
theorem rec_put_yes (b : Nat) (k s n v : Int) (w : World) (ht : Tab w b 0) (hb : b < w.heap.size) (hok : rOk k s n v = true) :
    Calls Tryz.prog 55 #[.pointer (some ⟨b, 0, none⟩), .agg (rcv k s n v).toArray] w fun e w' => e = .returned (.tuple #[.string (str (pageB k s n v)), .int .i64 0]) ∧ Below w.heap.size w w' := by
  have HRT : Hid (∀ u, Calls Tryz.prog 54 #[.agg (rcv k s n v).toArray] u fun e u' => e = .returned (.bool true) ∧ Below u.heap.size u u') := Lib.hid fun u => by rw [← hok]; exact rec_right_any k s n v u
  have HL : Hid ((rcv k s n v).length = 4) := Lib.hid rfl
  obtain ⟨hl1, hl2⟩ := lay_txt hok
  obtain ⟨hm1, hm2⟩ := lay_sum (txtB k s n v)
  obtain ⟨T, hT⟩ : ∃ T, str (txtB k s n v) = T := ⟨_, rfl⟩
  obtain ⟨M, hM⟩ : ∃ M, str (be 4 (sumM (txtB k s n v)).toNat) = M := ⟨_, rfl⟩
  obtain ⟨x, hx⟩ : ∃ x, sumI (txtB k s n v) = x := ⟨_, rfl⟩
  obtain ⟨m, hm⟩ : ∃ m, sumM (txtB k s n v) = m := ⟨_, rfl⟩
  have hmin : min x 4294967294 = m := by rw [← hx, ← hm]; exact sumM_min _
  have zT : T.size = 12 := by rw [← hT, str_size, txtB_length]
  have zM : M.size = 4 := by rw [← hM, str_size, be_length]
  have HRES : Hid (T ++ M = str (pageB k s n v)) := Lib.hid (by rw [← hT, ← hM, str_append]; rfl)
  have HL1 : Hid (∀ u, Calls Tryz.prog 80 #[.slice (some ⟨u.heap.size, 0, none⟩) 5 5] (u.alloc (.cells #[.int .i64 1, .int .i64 k, .int .i64 1, .int .i64 s, .int .i64 2, .int .i64 n, .int .i64 6, .int .i64 v, .int .i64 2, .int .i64 0] 133)) fun e u' => e = .returned (.string T) ∧ Below u.heap.size u u') := Lib.hid fun u => by
    rw [← hT, ← hl1]
    exact (rec_lay_any _ 5 5 _ _ rfl (by omega) hl2 (Lies.new (prs [((1 : Nat), k), (1, s), (2, n), (6, v), (2, 0)]) u 133)).mono fun e u' h => ⟨h.1, (alloc_below u _).next h.2⟩
  have HL2 : Hid (∀ u, Calls Tryz.prog 80 #[.slice (some ⟨u.heap.size, 0, none⟩) 1 1] (u.alloc (.cells #[.int .i64 4, .int .i64 m] 133)) fun e u' => e = .returned (.string M) ∧ Below u.heap.size u u') := Lib.hid fun u => by
    rw [← hM, ← hm1, ← hm]
    exact (rec_lay_any _ 1 1 _ _ rfl (by omega) hm2 (Lies.new (prs [((4 : Nat), sumM (txtB k s n v))]) u 133)).mono fun e u' h => ⟨h.1, (alloc_below u _).next h.2⟩
  have HSM : Hid (∀ u, Tab u b 0 → b < u.heap.size → Calls Tryz.prog 81 #[.pointer (some ⟨b, 0, none⟩), .slice (some ⟨u.heap.size, 0, none⟩) 1 1] (u.alloc (.cells #[.string T] 9)) fun e u' => e = .returned (.int .i64 x) ∧ Below u.heap.size u u') := Lib.hid fun u h1 h2 => by
    refine (sum_at b _ 1 1 [T] (u.alloc (.cells #[.string T] 9)) rfl (h1.below (alloc_below u _) h2) (Nat.lt_of_lt_of_le h2 (alloc_below u _).size) (by omega) (by intro s hs; simp at hs; subst hs; unfold maxLen; omega) (Lies.new (strs [T]) u 9)).mono fun e u' h => ⟨?_, (alloc_below u _).next h.2⟩
    rw [h.1, cat_one, ← hT, str_list, hx]
  have HT0 := Lib.hid ht
  have HB0 := Lib.hid hb
  obtain ⟨V, hV⟩ : ∃ V, rcv k s n v = V := ⟨_, rfl⟩
  have H0 : Hid (V[0]? = some (.int .i64 k)) := Lib.hid (by rw [← hV]; rfl)
  have H1 : Hid (V[1]? = some (.int .i64 s)) := Lib.hid (by rw [← hV]; rfl)
  have H2 : Hid (V[2]? = some (.int .i64 n)) := Lib.hid (by rw [← hV]; rfl)
  have H3 : Hid (V[3]? = some (.int .i64 v)) := Lib.hid (by rw [← hV]; rfl)
  rw [← HRES.out]
  rw [hV] at HRT HL ⊢
  clear hV hok hl1 hl2 hm1 hm2 hT hM hx hm ht hb HRES
  go_enter Tryz.func55, Tryz.ntmps55
  go_wp2_with (first
    | ((with_reducible refine wpBoxK V 36 ?_ ?_); rfl; intro u1 r1 b1 s1; have R1 := Lib.hid r1; have B1 := Lib.hid b1; clear r1 b1 s1)
    | ((with_reducible refine R1.out.wpLoadG 36 fits_rec HL.out ?_ ?_); rfl)
    | (go_at_call 54; (with_reducible refine (HRT.out u1).mono ?_); rintro e u2 ⟨rfl, b2⟩; have B2 : Hid (Below w.heap.size w u2) := Lib.hid (B1.out.next b2); have R2 := R1.out.step b2; have c0 : u2.cell? ⟨w.heap.size, 0, none⟩ = some (.int .i64 k) := (R2.cell 0).trans H0.out; have c1 : u2.cell? ⟨w.heap.size, 1, none⟩ = some (.int .i64 s) := (R2.cell 1).trans H1.out; have c2 : u2.cell? ⟨w.heap.size, 2, none⟩ = some (.int .i64 n) := (R2.cell 2).trans H2.out; have c3 : u2.cell? ⟨w.heap.size, 3, none⟩ = some (.int .i64 v) := (R2.cell 3).trans H3.out; clear b2 R2)
    | (go_at_call 80; (with_reducible refine (HL1.out u2).mono ?_); rintro e u3 ⟨rfl, b3⟩; have B3 : Hid (Below w.heap.size w u3) := Lib.hid (B2.out.next b3); have T3 : Hid (Tab u3 b 0) := Lib.hid (HT0.out.below B3.out HB0.out); have Z3 : Hid (b < u3.heap.size) := Lib.hid (Nat.lt_of_lt_of_le HB0.out B3.out.size); clear b3)
    | (go_at_call 81; (with_reducible refine (HSM.out u3 T3.out Z3.out).mono ?_); rintro e u4 ⟨rfl, b4⟩; have B4 : Hid (Below w.heap.size w u4) := Lib.hid (B3.out.next b4); clear b4)
    | (go_at_call 80; (with_reducible refine (HL2.out u4).mono ?_); rintro e u5 ⟨rfl, b5⟩; have B5 : Hid (Below w.heap.size w u5) := Lib.hid (B4.out.next b5); clear b5))
  go_ret2
  exact ⟨rfl, B5.out⟩

/-- Put, whatever the record. -/
def putE (k s n v : Int) : ByteArray × Int := if rOk k s n v then (str (pageB k s n v), 0) else (ByteArray.empty, 1)
theorem rec_put_any (b : Nat) (k s n v : Int) (w : World) (ht : Tab w b 0) (hb : b < w.heap.size) (T : ByteArray) (E : Int) (h : putE k s n v = (T, E)) :
    Calls Tryz.prog 55 #[.pointer (some ⟨b, 0, none⟩), .agg (rcv k s n v).toArray] w fun e w' => e = .returned (.tuple #[.string T, .int .i64 E]) ∧ Below w.heap.size w w' := by
  unfold putE at h
  cases hr : rOk k s n v with
  | true =>
    rw [hr, if_pos rfl] at h
    obtain ⟨rfl, rfl⟩ := Prod.mk.inj h
    exact rec_put_yes b k s n v w ht hb hr
  | false =>
    rw [hr, if_neg (by decide)] at h
    obtain ⟨rfl, rfl⟩ := Prod.mk.inj h
    exact rec_put_no b k s n v w hr
end Go.Proofs.YtbnjenbhpaknbaaGreat

/- Results of which one lies in a block. -/
namespace Go.Proofs.YtbnjenbhpaknbaaGreat
open Go.RowKit

theorem Row.resultT {w : World} {g : Nat} {t : TypeId} {l : List Value} (h : Row w g t l) {fn : Func} {p q : Tmp} {ty : TypeId} (hf : fn.results = #[.cell p ty, .tmp q]) (tmps : Array Value) (d : TypeDesc)
    (hp : tmps.getD p undef = .pointer (some ⟨g, 0, none⟩)) (hu : Tryz.prog.underlying ty = some d) (hd : d.isRow = true) (hi : (Tryz.prog.info? ty).map (·.size) = some l.length) :
    (results fn tmps).run Tryz.prog w = .ok (.tuple #[.agg l.toArray, tmps.getD q undef]) w := by
  have hp' : tmps[p]?.getD undef = .pointer (some ⟨g, 0, none⟩) := by simpa using hp
  have := run_loadVar_row (P := Tryz.prog) w g t ty l.toArray (0, 0) d h hu (by cases d <;> simp_all) (by simpa using hi)
  simp [results, hf, hp', asAddr, this]

end Go.Proofs.YtbnjenbhpaknbaaGreat

/- Number and Version of the program. -/
namespace Go.Proofs.YtbnjenbhpaknbaaGreat
open Go.RowKit CrcMath NumMath
set_option linter.unusedVariables false
set_option maxRecDepth 100000

def vcv (a b c : Int) : List Value := [.int .i64 a, .int .i64 b, .int .i64 c]
theorem fitB_two (x : Int) : fitB 2 x = decide (0 ≤ x ∧ x < 65536) := by
  have f2 : (256 : Int) ^ (2 : Nat) = 65536 := rfl
  unfold fitB
  rw [show ((2 : Int).toNat) = 2 from rfl, f2]
theorem fitB_six (x : Int) : fitB 6 x = decide (0 ≤ x ∧ x < 281474976710656) := by
  have f6 : (256 : Int) ^ (6 : Nat) = 281474976710656 := rfl
  unfold fitB
  rw [show ((6 : Int).toNat) = 6 from rfl, f6]
theorem fitAll_ver (a b c : Int) : fitAll 2 [a, b, c] = vOk a b c := by
  simp only [fitAll, List.all_cons, List.all_nil, Bool.and_true, fitB_two, vOk]
  rw [← Bool.decide_and, ← Bool.decide_and, decide_eq_decide]
  omega
def verB' (a b c : Int) : List UInt8 := be 2 a.toNat ++ be 2 b.toNat ++ be 2 c.toNat
theorem putR_v {a b c : Int} (h : vOk a b c = true) : putR 2 [a, b, c] = (verB' a b c, 0) := by
  rw [putR_ok (okB_yes (by omega) (by omega)) (by rw [fitAll_ver, h])]
  simp [putBytes, verB']
theorem putR_vno {a b c : Int} (h : vOk a b c = false) : putR 2 [a, b, c] = ([], 2) := putR_range (okB_yes (by omega) (by omega)) (by rw [fitAll_ver, h])
theorem verB'_length (a b c : Int) : (verB' a b c).length = 6 := by simp [verB', be_length]
theorem takeR_v {a b c : Int} (h : vOk a b c = true) : takeR (verB' a b c) [6] = ([numV a b c], 0) := by
  rw [takeR_ok (by decide) (by rw [verB'_length]; decide), verB', nnums_one h]
theorem takeR_n {n : Int} (h : 0 ≤ n ∧ n < 281474976710656) : takeR (be 6 n.toNat) [2, 2, 2] = ([verA n, verB n, verC n], 0) := by
  rw [takeR_ok (by decide) (by rw [be_length]; decide), nnums_three h]

def numR (a b c : Int) : Int := if vOk a b c then numV a b c else 0
def vIn (n : Int) : Bool := decide (0 ≤ n ∧ n < 281474976710656)
def verR (n : Int) : List Value := if vIn n then vcv (verA n) (verB n) (verC n) else vcv 0 0 0
end Go.Proofs.YtbnjenbhpaknbaaGreat

/- The document's example: awake. -/
namespace Go.Proofs.YtbnjenbhpaknbaaGreat
open Go.RowKit CrcMath NumMath
set_option linter.unusedVariables false
set_option maxRecDepth 100000

theorem aw_number : numR 1 2 3 = 4295098371 ∧ vOk 1 2 3 = true := by decide
theorem aw_page : (pageB 1 2 3 4).take 10 = [1, 2, 0, 3, 0, 0, 0, 0, 0, 4] := by
  have e : (pageB 1 2 3 4).take 10 = ((pageB 1 2 3 4).take 12).take 10 := by rw [List.take_take]; rfl
  rw [e, pageB_txt]
  decide
end Go.Proofs.YtbnjenbhpaknbaaGreat

/- A slice just laid, in a region that draws its order; a struct built of parts. -/
namespace Go.Proofs.YtbnjenbhpaknbaaGreat
open Go.RowKit
/-- A slice literal's value. -/
def Lst (xs : List Value) : Value → World → Prop := fun v w => ∃ g n, v = .slice (some ⟨g, 0, none⟩) n n ∧ xs.length = n ∧ Lies w w.heap.size (some ⟨g, 0, none⟩) xs
theorem Lst.monot (xs : List Value) : Monot (Lst xs) := fun _ _ _ ⟨g, n, h1, h2, h3⟩ hb => ⟨g, n, h1, h2, h3.step hb⟩
theorem lst_new (xs : List Value) (w : World) (t : TypeId) (n : Nat) (h : xs.length = n) : Lst xs (.slice (some ⟨w.heap.size, 0, none⟩) n n) (w.alloc (.cells xs.toArray t)) := ⟨_, n, rfl, h, Lies.new xs w t⟩
section
variable {P : Program} {o : Oper} {A : Act} {wx : World} {K : Act → World → Prop} {Q : Exit → Act → World → Prop} {φ : Value → World → Prop} {G : World → Prop}
theorem opBuildK (l : List Value) (ty : TypeId) (ps : List (Nat × Value)) (hb : P.built ty ps = some l.toArray) (d : Nat) (hd : o.dst = some d) (hs : d < A.tmps.size)
    (hK : ∀ a' w', (a'.defers = A.defers ∧ φ (a'.tmps.getD d undef) w' ∧ G w' ∧ Below wx.heap.size wx w') → K a' w')
    (parts : Array (Nat × Operand)) (hop : o.op = .build ty parts) (he : (parts.map fun (i, x) => (i, A.eval x)).toList = ps) (hφ : φ (.agg l.toArray) wx) (hG : G wx) : o.wp P A wx K Q := by
  refine wp_build ty parts hop (by rw [he, hb]; rfl) (hK _ _ ⟨put_defers _ _ _, ?_, hG, Below.refl _ _⟩)
  rw [hd, put_get A d _ hs, he, hb]
  exact hφ
end
end Go.Proofs.YtbnjenbhpaknbaaGreat

/- Get of the program (gen_rec_f.py). -/
namespace Go.Proofs.YtbnjenbhpaknbaaGreat
open Go.RowKit CrcMath NumMath
set_option linter.unusedVariables false
set_option maxRecDepth 100000

theorem built_rec (k s n v : Int) : Tryz.prog.built 36 [(0, .int .i64 k), (1, .int .i64 s), (2, .int .i64 n), (3, .int .i64 v)] = some (rcv k s n v).toArray := by kernel_rfl
theorem built_rec0 : Tryz.prog.built 36 [] = some (rcv 0 0 0 0).toArray := by kernel_rfl
theorem takeR_page {L : List UInt8} (h : 10 ≤ L.length) : takeR L [1, 1, 2, 6] = ([pK L, pS L, pN L, pV L], 0) := by
  rw [takeR_ok (by decide) (by exact h), nnums_page]
theorem takeR_few {L : List UInt8} (h : L.length < 10) : takeR L [1, 1, 2, 6] = ([], 13) := takeR_short (by decide) (by exact h)

set_option maxHeartbeats 1000000 in
theorem rec_get_short (cp : Option Addr) (s : ByteArray) (w : World) (h : s.size < 10) :
    Calls Tryz.prog 100 #[.pointer cp, .string s] w fun e w' => e = .returned (.tuple #[.agg (rcv 0 0 0 0).toArray, .bool false]) ∧ Below w.heap.size w w' := by
  have HK : Hid (∀ u, Calls Tryz.prog 108 #[.string s, .slice (some ⟨u.heap.size, 0, none⟩) 4 4] (u.alloc (.cells #[.int .i64 1, .int .i64 1, .int .i64 2, .int .i64 6] 3)) fun e u' => ∃ a cap, e = .returned (.tuple #[.slice a 0 cap, .int .i64 13]) ∧ Below u.heap.size u u') := Lib.hid fun u => by
    refine (num_take_at s s.data.toList _ 4 4 [1, 1, 2, 6] [] 13 (u.alloc (.cells #[.int .i64 1, .int .i64 1, .int .i64 2, .int .i64 6] 3)) rfl (by omega) rfl (takeR_few (by rw [size_list]; exact h)) (by omega) (Lies.new (ints [1, 1, 2, 6]) u 3)).mono fun e u' h => ?_
    obtain ⟨a, cap, h1, h2, h3⟩ := h
    exact ⟨a, cap, h1, (alloc_below u _).next h3⟩
  have HB0 := Lib.hid built_rec0
  clear h
  go_enter Tryz.func100, Tryz.ntmps100
  go_wp2_with (first
    | ((with_reducible refine wpAllocK (w := w) (rcv 0 0 0 0) 36 zero_rec ?_ ?_); rfl; intro u1 r1 b1 s1; have R1 := Lib.hid r1; have B1 := Lib.hid b1; clear r1 b1 s1)
    | (go_at_call 108; (with_reducible refine (HK.out u1).mono ?_); rintro e u2 ⟨a2, c2, rfl, b2⟩; have R2 := Lib.hid (R1.out.step b2); have B2 : Hid (Below w.heap.size w u2) := Lib.hid (B1.out.next b2); clear b2)
    | ((with_reducible refine wpBuildZeroK (rcv 0 0 0 0) 36 HB0.out ?_ ?_); rfl)
    | ((with_reducible refine R2.out.wpStoreK 36 (rcv 0 0 0 0) fits_rec rfl rfl rfl ?_ ?_); rfl; intro u4 r4 o4 s4; have R4 := Lib.hid r4; have B4 : Hid (Below w.heap.size w u4) := Lib.hid (B2.out.trans (o4.below (Nat.le_refl _) B2.out.size)); clear r4 o4 s4))
  exact bodyPost_ret (R4.out.resultT rfl _ _ rfl Tryz.underlying36 rfl fits_rec.size) rfl ⟨rfl, B4.out⟩

set_option maxHeartbeats 2000000 in
/-- Of bytes enough: what Put answers of what stands there decides. -/
theorem rec_get_core (cp : Option Addr) (s T : ByteArray) (E k sl n v : Int) (w : World) (h10 : 10 ≤ s.size) (hz : s.size ≤ 140737488355328) (hk : pK s.data.toList = k) (hsl : pS s.data.toList = sl) (hn : pN s.data.toList = n) (hv : pV s.data.toList = v)
    (hp : ∀ u, Below w.heap.size w u → Calls Tryz.prog 55 #[.pointer cp, .agg (rcv k sl n v).toArray] u fun e u' => e = .returned (.tuple #[.string T, .int .i64 E]) ∧ Below u.heap.size u u') (W : List Value) (r : Bool)
    (hc : (E = 0 ∧ T = s ∧ W = rcv k sl n v ∧ r = true) ∨ (E = 1 ∧ W = rcv 0 0 0 0 ∧ r = false) ∨ (E = 0 ∧ T ≠ s ∧ W = rcv 0 0 0 0 ∧ r = false)) :
    Calls Tryz.prog 100 #[.pointer cp, .string s] w fun e w' => e = .returned (.tuple #[.agg W.toArray, .bool r]) ∧ Below w.heap.size w w' := by
  have HK : Hid (∀ u, Calls Tryz.prog 108 #[.string s, .slice (some ⟨u.heap.size, 0, none⟩) 4 4] (u.alloc (.cells #[.int .i64 1, .int .i64 1, .int .i64 2, .int .i64 6] 3)) fun e u' => ∃ g cap, e = .returned (.tuple #[.slice (some ⟨g, 0, none⟩) 4 cap, .int .i64 0]) ∧ g < u'.heap.size ∧ u'.cell? ⟨g, 0, none⟩ = some (.int .i64 k) ∧ u'.cell? ⟨g, 1, none⟩ = some (.int .i64 sl) ∧ u'.cell? ⟨g, 2, none⟩ = some (.int .i64 n) ∧ u'.cell? ⟨g, 3, none⟩ = some (.int .i64 v) ∧ Below u.heap.size u u') := Lib.hid fun u => by
    refine (num_take_new s s.data.toList _ 4 4 [1, 1, 2, 6] [k, sl, n, v] 0 (u.alloc (.cells #[.int .i64 1, .int .i64 1, .int .i64 2, .int .i64 6] 3)) rfl hz rfl (by rw [takeR_page (by rw [size_list]; exact h10), hk, hsl, hn, hv]) (by simp) (by omega) (Lies.new (ints [1, 1, 2, 6]) u 3)).mono fun e u' h => ?_
    obtain ⟨g, cap, ys, h1, h2, h3, h4, h5⟩ := h
    exact ⟨g, cap, h1, h4.lt, h4.cell 0, h4.cell 1, h4.cell 2, h4.cell 3, (alloc_below u _).next h5⟩
  have HP := Lib.hid hp
  have HB0 := Lib.hid built_rec0
  have HCS := Lib.hid hc
  clear hk hsl hn hv hp hc h10 hz
  go_enter Tryz.func100, Tryz.ntmps100
  go_wp2_with (first
    | ((with_reducible refine wpAllocK (w := w) (rcv 0 0 0 0) 36 zero_rec ?_ ?_); rfl; intro u1 r1 b1 s1; have R1 := Lib.hid r1; have B1 := Lib.hid b1; clear r1 b1 s1)
    | (go_at_call 108; (with_reducible refine (HK.out u1).mono ?_); rintro e u2 ⟨g, cap, rfl, hgl, hc0, hc1, hc2, hc3, b2⟩; have HGL := Lib.hid hgl; have HC0 := Lib.hid hc0; have HC1 := Lib.hid hc1; have HC2 := Lib.hid hc2; have HC3 := Lib.hid hc3; have R2 := Lib.hid (R1.out.step b2); have B2 : Hid (Below w.heap.size w u2) := Lib.hid (B1.out.next b2); clear b2 hgl hc0 hc1 hc2 hc3))
  refine region_storeT 14 13 [] (by decide) [(0, 20), (1, 21), (2, 22), (3, 23), (4, 24), (5, 25), (6, 26), (7, 27), (8, 28), (9, 29), (10, 30), (11, 31), (12, 32), (13, 8)]
    (fun ii => [Is (.slice (some ⟨g, 0, none⟩) 4 cap), Is (.pointer (some ⟨g, 0, none⟩)), Is (.int .i64 k), Is (.slice (some ⟨g, 0, none⟩) 4 cap), Is (.pointer (some ⟨g, 1, none⟩)), Is (.int .i64 sl), Is (.slice (some ⟨g, 0, none⟩) 4 cap), Is (.pointer (some ⟨g, 2, none⟩)), Is (.int .i64 n), Is (.slice (some ⟨g, 0, none⟩) 4 cap), Is (.pointer (some ⟨g, 3, none⟩)), Is (.int .i64 v), Is (.agg (rcv k sl n v).toArray), Nb u2 36 (rcv 0 0 0 0), Is undef].getD ii (Is undef))
    (fun w' => Below u2.heap.size u2 w') (fun zz w' => ∃ g2, zz = .pointer (some ⟨g2, 0, none⟩) ∧ Row w' g2 36 (rcv k sl n v) ∧ Below u2.heap.size u2 w') (by kernel_rfl) (by decide) (by kernel_rfl) (by kernel_rfl) (by decide) (by decide) (by kernel_rfl) rfl (by kernel_rfl) ?monoA ((Below.refl _ _).drew) ?stepA ?stepXA ?stepSA ?finA
  case monoA =>
    intro i
    match i with
    | 0 | 1 | 2 | 3 | 4 | 5 | 6 | 7 | 8 | 9 | 10 | 11 | 12 | 14 => exact Is.monot _
    | 13 => exact Nb.monot _ _ _
    | _ + 15 => exact Is.monot _
  case stepA =>
    refine List.forall_mem_cons.2 ⟨?As0, List.forall_mem_cons.2 ⟨?As1, List.forall_mem_cons.2 ⟨?As2, List.forall_mem_cons.2 ⟨?As3, List.forall_mem_cons.2 ⟨?As4, List.forall_mem_cons.2 ⟨?As5, List.forall_mem_cons.2 ⟨?As6, List.forall_mem_cons.2 ⟨?As7, List.forall_mem_cons.2 ⟨?As8, List.forall_mem_cons.2 ⟨?As9, List.forall_mem_cons.2 ⟨?As10, List.forall_mem_cons.2 ⟨?As11, List.forall_mem_cons.2 ⟨?As12, List.forall_mem_cons.2 ⟨?As13, List.forall_mem_nil _⟩⟩⟩⟩⟩⟩⟩⟩⟩⟩⟩⟩⟩⟩
    case As0 =>
      intro _
      intro u wx hg hC
      clear hC
      refine wpOp_step rfl (fun K hK => ?_)
      simp only [puts, List.foldl]
      go_simp
      exact hK _ _ ⟨rfl, rfl, hg, Below.refl _ _⟩
    case As1 =>
      intro _
      intro u wx hg hC
      have hJ0 : u 0 = (.slice (some ⟨g, 0, none⟩) 4 cap) := hC.at 0 (by kernel_rfl)
      clear hC
      refine wpOp_step rfl (fun K hK => ?_)
      simp only [puts, List.foldl]
      go_simp
      exact hK _ _ ⟨rfl, rfl, hg, Below.refl _ _⟩
    case As2 =>
      intro _
      intro u wx hg hC
      have hJ1 : u 1 = (.pointer (some ⟨g, 0, none⟩)) := hC.at 1 (by kernel_rfl)
      clear hC
      have hcl : wx.cell? ⟨g, 0, none⟩ = some (.int .i64 k) := (hg.cell (p := ⟨g, 0, none⟩) HGL.out).trans HC0.out
      refine wpOp_step rfl (fun K hK => ?_)
      simp only [puts, List.foldl]
      go_simp
      exact hK _ _ ⟨rfl, rfl, hg, Below.refl _ _⟩
    case As3 =>
      intro _
      intro u wx hg hC
      clear hC
      refine wpOp_step rfl (fun K hK => ?_)
      simp only [puts, List.foldl]
      go_simp
      exact hK _ _ ⟨rfl, rfl, hg, Below.refl _ _⟩
    case As4 =>
      intro _
      intro u wx hg hC
      have hJ3 : u 3 = (.slice (some ⟨g, 0, none⟩) 4 cap) := hC.at 3 (by kernel_rfl)
      clear hC
      refine wpOp_step rfl (fun K hK => ?_)
      simp only [puts, List.foldl]
      go_simp
      exact hK _ _ ⟨rfl, rfl, hg, Below.refl _ _⟩
    case As5 =>
      intro _
      intro u wx hg hC
      have hJ4 : u 4 = (.pointer (some ⟨g, 1, none⟩)) := hC.at 4 (by kernel_rfl)
      clear hC
      have hcl : wx.cell? ⟨g, 1, none⟩ = some (.int .i64 sl) := (hg.cell (p := ⟨g, 1, none⟩) HGL.out).trans HC1.out
      refine wpOp_step rfl (fun K hK => ?_)
      simp only [puts, List.foldl]
      go_simp
      exact hK _ _ ⟨rfl, rfl, hg, Below.refl _ _⟩
    case As6 =>
      intro _
      intro u wx hg hC
      clear hC
      refine wpOp_step rfl (fun K hK => ?_)
      simp only [puts, List.foldl]
      go_simp
      exact hK _ _ ⟨rfl, rfl, hg, Below.refl _ _⟩
    case As7 =>
      intro _
      intro u wx hg hC
      have hJ6 : u 6 = (.slice (some ⟨g, 0, none⟩) 4 cap) := hC.at 6 (by kernel_rfl)
      clear hC
      refine wpOp_step rfl (fun K hK => ?_)
      simp only [puts, List.foldl]
      go_simp
      exact hK _ _ ⟨rfl, rfl, hg, Below.refl _ _⟩
    case As8 =>
      intro _
      intro u wx hg hC
      have hJ7 : u 7 = (.pointer (some ⟨g, 2, none⟩)) := hC.at 7 (by kernel_rfl)
      clear hC
      have hcl : wx.cell? ⟨g, 2, none⟩ = some (.int .i64 n) := (hg.cell (p := ⟨g, 2, none⟩) HGL.out).trans HC2.out
      refine wpOp_step rfl (fun K hK => ?_)
      simp only [puts, List.foldl]
      go_simp
      exact hK _ _ ⟨rfl, rfl, hg, Below.refl _ _⟩
    case As9 =>
      intro _
      intro u wx hg hC
      clear hC
      refine wpOp_step rfl (fun K hK => ?_)
      simp only [puts, List.foldl]
      go_simp
      exact hK _ _ ⟨rfl, rfl, hg, Below.refl _ _⟩
    case As10 =>
      intro _
      intro u wx hg hC
      have hJ9 : u 9 = (.slice (some ⟨g, 0, none⟩) 4 cap) := hC.at 9 (by kernel_rfl)
      clear hC
      refine wpOp_step rfl (fun K hK => ?_)
      simp only [puts, List.foldl]
      go_simp
      exact hK _ _ ⟨rfl, rfl, hg, Below.refl _ _⟩
    case As11 =>
      intro _
      intro u wx hg hC
      have hJ10 : u 10 = (.pointer (some ⟨g, 3, none⟩)) := hC.at 10 (by kernel_rfl)
      clear hC
      have hcl : wx.cell? ⟨g, 3, none⟩ = some (.int .i64 v) := (hg.cell (p := ⟨g, 3, none⟩) HGL.out).trans HC3.out
      refine wpOp_step rfl (fun K hK => ?_)
      simp only [puts, List.foldl]
      go_simp
      exact hK _ _ ⟨rfl, rfl, hg, Below.refl _ _⟩
    case As12 =>
      intro _
      intro u wx hg hC
      have hJ2 : u 2 = (.int .i64 k) := hC.at 2 (by kernel_rfl)
      have hJ5 : u 5 = (.int .i64 sl) := hC.at 5 (by kernel_rfl)
      have hJ8 : u 8 = (.int .i64 n) := hC.at 8 (by kernel_rfl)
      have hJ11 : u 11 = (.int .i64 v) := hC.at 11 (by kernel_rfl)
      clear hC
      generalize hA : puts [(0, 20), (1, 21), (2, 22), (3, 23), (4, 24), (5, 25), (6, 26), (7, 27), (8, 28), (9, 29), (10, 30), (11, 31), (12, 32), (13, 8)] _ u = A
      have q0 : A.tmps.getD 22 undef = (.int .i64 k) := by rw [← hA]; exact (puts_get u 2 22 _ _ (by decide) (by decide) (by kernel_rfl)).trans hJ2
      have q1 : A.tmps.getD 25 undef = (.int .i64 sl) := by rw [← hA]; exact (puts_get u 5 25 _ _ (by decide) (by decide) (by kernel_rfl)).trans hJ5
      have q2 : A.tmps.getD 28 undef = (.int .i64 n) := by rw [← hA]; exact (puts_get u 8 28 _ _ (by decide) (by decide) (by kernel_rfl)).trans hJ8
      have q3 : A.tmps.getD 31 undef = (.int .i64 v) := by rw [← hA]; exact (puts_get u 11 31 _ _ (by decide) (by decide) (by kernel_rfl)).trans hJ11
      have hsz : 32 < A.tmps.size := by rw [← hA]; exact puts_room u (by kernel_rfl)
      refine wpOp_step rfl (fun K hK => ?_)
      clear hA
      exact opBuildK (φ := Is (.agg (rcv k sl n v).toArray)) _ _ _ (built_rec k sl n v) 32 rfl hsz hK _ rfl (by rw [Array.toList_map]; show [(0, A.tmps.getD 22 undef), (1, A.tmps.getD 25 undef), (2, A.tmps.getD 28 undef), (3, A.tmps.getD 31 undef)] = _; rw [q0, q1, q2, q3]) rfl hg
    case As13 =>
      intro _
      intro u wx hg hC
      clear hC
      generalize hA : puts [(0, 20), (1, 21), (2, 22), (3, 23), (4, 24), (5, 25), (6, 26), (7, 27), (8, 28), (9, 29), (10, 30), (11, 31), (12, 32), (13, 8)] _ u = A
      have hsz : 8 < A.tmps.size := by rw [← hA]; exact puts_room u (by kernel_rfl)
      refine wpOp_step rfl (fun K hK => ?_)
      clear hA
      exact opAllocK (φ := Nb u2 36 (rcv 0 0 0 0)) ((rcv 0 0 0 0)) _ (zero_rec) 8 rfl hsz hK rfl fun w' hr hb => ⟨⟨_, rfl, hg.size, hr⟩, hg.next hb⟩
  case stepXA =>
    refine List.forall_mem_cons.2 ⟨?Ax0, List.forall_mem_cons.2 ⟨?Ax1, List.forall_mem_cons.2 ⟨?Ax2, List.forall_mem_cons.2 ⟨?Ax3, List.forall_mem_cons.2 ⟨?Ax4, List.forall_mem_cons.2 ⟨?Ax5, List.forall_mem_cons.2 ⟨?Ax6, List.forall_mem_cons.2 ⟨?Ax7, List.forall_mem_cons.2 ⟨?Ax8, List.forall_mem_cons.2 ⟨?Ax9, List.forall_mem_cons.2 ⟨?Ax10, List.forall_mem_cons.2 ⟨?Ax11, List.forall_mem_cons.2 ⟨?Ax12, List.forall_mem_cons.2 ⟨?Ax13, List.forall_mem_nil _⟩⟩⟩⟩⟩⟩⟩⟩⟩⟩⟩⟩⟩⟩
    case Ax0 =>
      intro hx; exact absurd hx (by decide)
    case Ax1 =>
      intro hx; exact absurd hx (by decide)
    case Ax2 =>
      intro hx; exact absurd hx (by decide)
    case Ax3 =>
      intro hx; exact absurd hx (by decide)
    case Ax4 =>
      intro hx; exact absurd hx (by decide)
    case Ax5 =>
      intro hx; exact absurd hx (by decide)
    case Ax6 =>
      intro hx; exact absurd hx (by decide)
    case Ax7 =>
      intro hx; exact absurd hx (by decide)
    case Ax8 =>
      intro hx; exact absurd hx (by decide)
    case Ax9 =>
      intro hx; exact absurd hx (by decide)
    case Ax10 =>
      intro hx; exact absurd hx (by decide)
    case Ax11 =>
      intro hx; exact absurd hx (by decide)
    case Ax12 =>
      intro hx; exact absurd hx (by decide)
    case Ax13 =>
      intro hx; exact absurd hx (by decide)
  case stepSA =>
    intro u wx hg hC
    have hJ12 : u 12 = .agg (rcv k sl n v).toArray := hC (12, 32) (by decide) (by decide)
    obtain ⟨g2, hJ13, hge, hr13⟩ : Nb u2 36 (rcv 0 0 0 0) (u 13) wx := hC (13, 8) (by decide) (by decide)
    clear hC
    generalize hA : puts [(0, 20), (1, 21), (2, 22), (3, 23), (4, 24), (5, 25), (6, 26), (7, 27), (8, 28), (9, 29), (10, 30), (11, 31), (12, 32), (13, 8)] _ u = A
    have hp : A.tmps.getD 8 undef = .pointer (some ⟨g2, 0, none⟩) := by rw [← hA]; exact (puts_get u 13 8 _ _ (by decide) (by decide) (by kernel_rfl)).trans hJ13
    have hq : A.tmps.getD 32 undef = .agg (rcv k sl n v).toArray := by rw [← hA]; exact (puts_get u 12 32 _ _ (by decide) (by decide) (by kernel_rfl)).trans hJ12
    refine wpOp_step rfl (fun K hK => ?_)
    clear hA
    exact opStoreK (H := fun w' => ∃ g2, u 13 = .pointer (some ⟨g2, 0, none⟩) ∧ Row w' g2 36 (rcv k sl n v) ∧ Below u2.heap.size u2 w') hr13 _ (rcv k sl n v) fits_rec rfl rfl rfl hK (.tmp 8) (.tmp 32) rfl hp hq fun w' h1 h2 h3 => ⟨g2, hJ13, h1, hg.trans (h2.below hge hg.size)⟩
  case finA =>
    intro u ux hh hφ
    obtain ⟨g2, hJ13, rx, bx⟩ := hh
    clear hφ
    simp only [puts, List.foldl]
    rw [hJ13]
    clear hJ13
    go_simp
    have K3 := Lib.hid rx
    have R3 := Lib.hid (R2.out.step bx)
    have B3 : Hid (Below w.heap.size w ux) := Lib.hid (B2.out.next bx)
    clear rx bx
    rcases HCS.out with ⟨rfl, rfl, rfl, rfl⟩ | ⟨rfl, rfl, rfl⟩ | ⟨rfl, hne, rfl, rfl⟩
    · have heq : (T.toList == T.toList) = true := beq_self_eq_true _
      go_wp2_with (first
          | ((with_reducible refine K3.out.wpLoadK 36 fits_rec rfl ?_ ?_); rfl)
          | (go_at_call 55; (with_reducible refine (HP.out ux B3.out).mono ?_); rintro e u4 ⟨rfl, b4⟩; have K4 := Lib.hid (K3.out.step b4); have R4 := Lib.hid (R3.out.step b4); have B4 : Hid (Below w.heap.size w u4) := Lib.hid (B3.out.next b4); clear b4)
          | ((with_reducible refine K4.out.wpLoadK 36 fits_rec rfl ?_ ?_); rfl)
          | ((with_reducible refine R4.out.wpStoreK 36 (rcv k sl n v) fits_rec rfl rfl rfl ?_ ?_); rfl; intro u5 r5 o5 s5; have R5 := Lib.hid r5; have B5 : Hid (Below w.heap.size w u5) := Lib.hid (B4.out.trans (o5.below (Nat.le_refl _) B4.out.size)); clear r5 o5 s5))
      exact bodyPost_ret (R5.out.resultT rfl _ _ rfl Tryz.underlying36 rfl fits_rec.size) rfl ⟨rfl, B5.out⟩
    · skip
      go_wp2_with (first
          | ((with_reducible refine K3.out.wpLoadK 36 fits_rec rfl ?_ ?_); rfl)
          | (go_at_call 55; (with_reducible refine (HP.out ux B3.out).mono ?_); rintro e u4 ⟨rfl, b4⟩; have K4 := Lib.hid (K3.out.step b4); have R4 := Lib.hid (R3.out.step b4); have B4 : Hid (Below w.heap.size w u4) := Lib.hid (B3.out.next b4); clear b4)
          | ((with_reducible refine wpBuildZeroK (rcv 0 0 0 0) 36 HB0.out ?_ ?_); rfl)
          | ((with_reducible refine R4.out.wpStoreK 36 (rcv 0 0 0 0) fits_rec rfl rfl rfl ?_ ?_); rfl; intro u5 r5 o5 s5; have R5 := Lib.hid r5; have B5 : Hid (Below w.heap.size w u5) := Lib.hid (B4.out.trans (o5.below (Nat.le_refl _) B4.out.size)); clear r5 o5 s5))
      exact bodyPost_ret (R5.out.resultT rfl _ _ rfl Tryz.underlying36 rfl fits_rec.size) rfl ⟨rfl, B5.out⟩
    · have heq : (T.toList == s.toList) = false := beq_no hne
      go_wp2_with (first
          | ((with_reducible refine K3.out.wpLoadK 36 fits_rec rfl ?_ ?_); rfl)
          | (go_at_call 55; (with_reducible refine (HP.out ux B3.out).mono ?_); rintro e u4 ⟨rfl, b4⟩; have K4 := Lib.hid (K3.out.step b4); have R4 := Lib.hid (R3.out.step b4); have B4 : Hid (Below w.heap.size w u4) := Lib.hid (B3.out.next b4); clear b4)
          | ((with_reducible refine wpBuildZeroK (rcv 0 0 0 0) 36 HB0.out ?_ ?_); rfl)
          | ((with_reducible refine R4.out.wpStoreK 36 (rcv 0 0 0 0) fits_rec rfl rfl rfl ?_ ?_); rfl; intro u5 r5 o5 s5; have R5 := Lib.hid r5; have B5 : Hid (Below w.heap.size w u5) := Lib.hid (B4.out.trans (o5.below (Nat.le_refl _) B4.out.size)); clear r5 o5 s5))
      exact bodyPost_ret (R5.out.resultT rfl _ _ rfl Tryz.underlying36 rfl fits_rec.size) rfl ⟨rfl, B5.out⟩

/-- What Get answers. -/
def getV (L : List UInt8) : List Value := if isP L then rcv (pK L) (pS L) (pN L) (pV L) else rcv 0 0 0 0
theorem rec_get_any (b : Nat) (s : ByteArray) (w : World) (ht : Tab w b 0) (hb : b < w.heap.size) (hz : s.size ≤ 140737488355328) :
    Calls Tryz.prog 100 #[.pointer (some ⟨b, 0, none⟩), .string s] w fun e w' => e = .returned (.tuple #[.agg (getV s.data.toList).toArray, .bool (isP s.data.toList)]) ∧ Below w.heap.size w w' := by
  by_cases h10 : s.size < 10
  · have hno : isP s.data.toList = false := by
      cases h : isP s.data.toList with
      | false => rfl
      | true => have := (isP_is h).1; rw [size_list] at this; omega
    unfold getV
    rw [hno, if_neg (by decide)]
    exact rec_get_short _ s w h10
  · obtain ⟨L, hL⟩ : ∃ L, s.data.toList = L := ⟨_, rfl⟩
    obtain ⟨T, E, hTE⟩ : ∃ T E, putE (pK L) (pS L) (pN L) (pV L) = (T, E) := ⟨_, _, rfl⟩
    refine rec_get_core _ s T E (pK L) (pS L) (pN L) (pV L) w (by omega) hz (by rw [hL]) (by rw [hL]) (by rw [hL]) (by rw [hL]) (fun u hu => rec_put_any b _ _ _ _ u (ht.below hu hb) (Nat.lt_of_lt_of_le hb hu.size) T E hTE) _ _ ?_
    rw [hL]
    have hs : s = str L := by rw [← hL, str_of]
    unfold putE at hTE
    cases hr : rOk (pK L) (pS L) (pN L) (pV L) with
    | true =>
      rw [hr, if_pos rfl] at hTE
      obtain ⟨rfl, rfl⟩ := Prod.mk.inj hTE
      cases h : isP L with
      | true =>
        left
        refine ⟨rfl, by rw [(isP_is h).2.2, hs], by unfold getV; rw [h, if_pos rfl], rfl⟩
      | false =>
        right; right
        refine ⟨rfl, fun e => ?_, by unfold getV; rw [h, if_neg (by decide)], rfl⟩
        have e2 := str_inj (e.trans hs)
        have : isP L = true := by
          have h2 := page_is hr
          rw [e2] at h2
          exact h2
        rw [h] at this
        cases this
    | false =>
      rw [hr, if_neg (by decide)] at hTE
      obtain ⟨rfl, rfl⟩ := Prod.mk.inj hTE
      have hno : isP L = false := by
        cases h : isP L with
        | false => rfl
        | true => have := (isP_is h).2.1; rw [hr] at this; cases this
      rw [hno]
      exact .inr (.inl ⟨rfl, by unfold getV; rw [hno, if_neg (by decide)], rfl⟩)
end Go.Proofs.YtbnjenbhpaknbaaGreat

/- Contracts of the document's answers for num: Put, Take. -/
namespace Go.Proofs.YtbnjenbhpaknbaaGreat
open Go.RowKit NumMath
set_option maxRecDepth 100000

/-- A string out of a new block of one byte. -/
theorem num_one_string (w : World) (x : Int) (h0 : 0 ≤ x) (h1 : x ≤ 255) (g : Nat) (hg : w.cell? ⟨g, 0, none⟩ = some (.int .u8 x)) :
    (convert 76 9 (.slice (some ⟨g, 0, none⟩) 1 1)).run Tryz.prog w = .ok (.string (str [UInt8.ofNat x.toNat])) w := by
  refine run_convert_bytes_back w _ _ _ _ _ [UInt8.ofNat x.toNat] Tryz.underlying76 Tryz.underlying5 Tryz.underlying9 fun j hj => ?_
  have : j = 0 := by simpa using hj
  subst this
  have e : ((UInt8.ofNat x.toNat).toNat : Int) = x := by rw [UInt8.toNat_ofNat']; omega
  simp only [List.getElem_cons_zero, e]
  exact hg

/-- x stands in n bytes just if nothing is left behind n steps. -/
theorem fit_nat (n x : Nat) : fitB n x = decide (x / 256 ^ n = 0) := by
  unfold fitB
  rw [Bool.eq_iff_iff]
  simp only [decide_eq_true_eq, Int.toNat_natCast]
  have hp : 0 < 256 ^ n := Nat.pow_pos (by omega)
  have e : ((256 ^ n : Nat) : Int) = 256 ^ n := by simp
  rw [Nat.div_eq_zero_iff_lt hp]
  omega

theorem num_refPut_any (s : Int) (a : Option Addr) (cap : Nat) (l : List Int) (w : World) (hl : l.length ≤ 100000) (hwf : ∀ x ∈ l, x ≤ 9223372036854775807) (hr : Lies w w.heap.size a (ints l)) :
    Calls Tryz.prog 65 #[.int .i64 s, .slice a l.length cap] w (Answers s l w) := by
  by_cases hok : okB s = true
  · have hs2 : 1 ≤ s ∧ s ≤ 7 := by simpa [okB] using hok
    obtain ⟨n, rfl⟩ := Int.eq_ofNat_of_zero_le (show 0 ≤ s by omega)
    have hn1 : 1 ≤ n := by omega
    have hn7 : n ≤ 7 := by omega
    have HOK := Lib.hid hok
    clear hok
    go_enter Tryz.func65, Tryz.ntmps65
    go_wp2
    go_loopw [6, 7] (fun o i wr => ∃ k : Nat, k ≤ l.length ∧ i = .int .i64 k ∧ fitAll n (l.take k) = true ∧ o = .string (str (putBytes n (l.take k))) ∧ Below w.heap.size w wr)
      (fun _ i _ => l.length - (intOf i).toNat)
    case atStart => exact ⟨0, Nat.zero_le _, rfl, rfl, rfl, Below.refl _ _⟩
    case round =>
      obtain ⟨k, hk, rfl, hall, rfl, hbw⟩ := hrel
      by_cases hlt : k < l.length
      · obtain ⟨b, off, rfl, hbb, hc⟩ := hr (by rw [ints_length]; omega)
        have hcell : wr.cell? ⟨b, off + k, none⟩ = some (.int .i64 l[k]) := (hbw.cell (p := ⟨b, off + k, none⟩) hbb).trans (hc k _ (ints_get l k hlt))
        clear hc hr
        have HA := Lib.hid hall
        clear hall
        have HT := Lib.hid (take_snoc l k hlt)
        by_cases hneg : l[k] < 0
        · have hno : fitB n l[k] = false := by unfold fitB; simp; omega
          have hnot : Hid (fitAll n l = false) := Lib.hid <| by
            cases hh : fitAll n l with
            | false => rfl
            | true =>
              have := fitAll_take (k + 1) hh
              rw [HT.out, fitAll_snoc, hno, Bool.and_false] at this
              cases this
          clear hno
          have hne : (l[k] != 0) = true := by rw [bne_iff_ne]; omega
          go_wp2
          refine wp_loop_rounds 1 ?_
          rw [rounds_succ]
          go_wp2
          go_ret2
          exact ⟨by rw [putR_range HOK.out hnot.out]; rfl, hbw⟩
        · obtain ⟨x, hx⟩ : ∃ x : Nat, l[k] = (x : Int) := ⟨l[k].toNat, by omega⟩
          rw [hx] at hcell
          have hxb : x ≤ 9223372036854775807 := by have := hwf l[k] (List.getElem_mem hlt); omega
          have HX := Lib.hid hx
          clear hx hneg
          go_wp2
          go_loopw [8, 9, 10] (fun y t j w2 => ∃ q : Nat, q ≤ n ∧ j = .int .i64 q ∧ y = .int .i64 ((x / 256 ^ q : Nat) : Int) ∧ t = .string (str (be q x)) ∧ Below w.heap.size w w2)
            (fun _ _ j _ => n - (intOf j).toNat)
          case atStart => exact ⟨0, Nat.zero_le _, rfl, by simp, rfl, hbw⟩
          case round =>
            obtain ⟨q, hq, rfl, rfl, rfl, hb2⟩ := hrel
            obtain ⟨y, hy⟩ : ∃ y, y = x / 256 ^ q := ⟨_, rfl⟩
            have hyb : y ≤ 9223372036854775807 := by rw [hy]; exact Nat.le_trans (Nat.div_le_self _ _) hxb
            rw [← hy]
            have HY := Lib.hid hy
            clear hy hxb
            have hz1 : (str (be q x)).size ≤ 7 := by rw [str_size, be_length]; omega
            have hz2 : (str (putBytes n (l.take k))).size ≤ 700000 := by
              rw [str_size, putBytes_length, List.length_take]
              have := Nat.mul_le_mul (show min k l.length ≤ 100000 by omega) hn7
              simpa using this
            by_cases hqn : q < n
            · have hconv := num_one_string (wr.alloc (.cells #[.int .u8 ((y : Int) % 256)] 5)) ((y : Int) % 256) (by omega) (by omega) wr.heap.size (World.cell?_alloc_at _ _ _ _ rfl)
              have hz3 : (str [UInt8.ofNat (y % 256)]).size ≤ 1 := by rw [str_size]; simp
              go_wp2
              go_roundw
              case rel =>
                refine ⟨q + 1, by omega, by go_num, ?_, ?_, hb2.alloc hb2.size _⟩
                · rw [Nat.pow_succ, ← Nat.div_div_eq_div_mul, ← HY.out]
                  go_num
                · rw [str_append, be_cons, ← HY.out]
                  rfl
              case measure => simp [intOf]; omega
            · by_cases hy0 : y = 0
              · subst hy0
                go_wp2
                go_roundw
                case rel =>
                  have eq : q = n := by omega
                  subst eq
                  refine ⟨k + 1, by omega, by go_num, ?_, ?_, hb2⟩
                  · rw [HT.out, fitAll_snoc, HA.out, HX.out, fit_nat, ← HY.out]
                    rfl
                  · rw [HT.out, putBytes_snoc, str_append, HX.out]
                    rfl
                case measure => simp [intOf]; omega
              · have hne : ((y : Int) != 0) = true := by rw [bne_iff_ne]; omega
                go_wp2
                go_ret2
                have hnot : fitAll n l = false := by
                  cases hh : fitAll n l with
                  | false => rfl
                  | true =>
                    have := fitAll_take (k + 1) hh
                    have eq : q = n := by omega
                    subst eq
                    rw [HT.out, fitAll_snoc, HA.out, HX.out, fit_nat, ← HY.out] at this
                    simp [hy0] at this
                exact ⟨by rw [putR_range HOK.out hnot]; rfl, hb2⟩
      · have HE : Hid (l.take k = l) := Lib.hid (List.take_of_length_le (by omega))
        have HA := Lib.hid hall
        clear hall
        go_wp2
        go_ret2
        have h1 := HA.out
        rw [HE.out] at h1
        exact ⟨by rw [putR_ok HOK.out h1, HE.out]; rfl, hbw⟩
  · have hno : okB s = false := by simpa using hok
    have h2 : ¬ (1 ≤ s ∧ s ≤ 7) := by simpa [okB] using hno
    have HN := Lib.hid hno
    clear hok hno
    by_cases h1 : s < 1
    all_goals
      go_enter Tryz.func65, Tryz.ntmps65
      go_wp2
      go_ret2
      exact ⟨by rw [putR_arg HN.out]; rfl, Below.refl _ _⟩

theorem nwidth_step (l : List Int) (k : Nat) (h : k < l.length) : nwidth (l.take (k + 1)) = nwidth (l.take k) + l[k].toNat := by
  rw [take_snoc l k h, nwidth_snoc]

theorem val_more (L : List UInt8) (at0 q : Nat) (h : at0 + q < L.length) :
    (val ((L.drop at0).take (q + 1)) : Int) = 256 * (val ((L.drop at0).take q) : Int) + (L[at0 + q].toNat : Int) := by
  rw [List.take_succ_eq_append_getElem (by rw [List.length_drop]; omega), val_snoc, List.getElem_drop]
  omega

theorem val_small (L : List UInt8) (q : Nat) (h : q ≤ 6) : val (L.take q) < 281474976710656 := by
  have h1 := val_lt (L.take q)
  have h2 : (L.take q).length ≤ 6 := by rw [List.length_take]; omega
  have h3 : 256 ^ (L.take q).length ≤ 256 ^ 6 := Nat.pow_le_pow_right (by omega) h2
  have h4 : (256 : Nat) ^ 6 = 281474976710656 := rfl
  omega

theorem num_ok_bounds {l : List Int} {k : Nat} (hk : k < l.length) (h : nallOk l = true) : 1 ≤ l[k] ∧ l[k] ≤ 7 := by
  have := nallOk_take (k + 1) h
  rw [take_snoc l k hk, nallOk_snoc, Bool.and_eq_true] at this
  simpa [okB] using this.2

theorem num_refTake_any (s : ByteArray) (a : Option Addr) (cap : Nat) (l : List Int) (w : World) (hl : l.length ≤ 100000) (hs : s.size ≤ 140737488355328) (hr : Lies w w.heap.size a (ints l)) :
    Calls Tryz.prog 42 #[.string s, .slice a l.length cap] w (NTakes s.data.toList l w) := by
  obtain ⟨i0, hi, hz0, hz1, hz2⟩ := info_parts info_int
  go_enter Tryz.func42, Tryz.ntmps42
  go_wp2
  go_loop [6, 7] (fun t i => ∃ k : Nat, k ≤ l.length ∧ i = .int .i64 k ∧ nallOk (l.take k) = true ∧ t = .int .i64 (nwidth (l.take k))) (fun _ i => l.length - (intOf i).toNat)
  case atStart => exact ⟨0, Nat.zero_le _, rfl, rfl, rfl⟩
  case round =>
    obtain ⟨k, hk, rfl, hall, rfl⟩ := hrel
    have hbd := nsum_bd (l.take k) hall
    rw [nsum_width _ hall] at hbd
    have hlen : (l.take k).length ≤ k := List.length_take_le _ _
    by_cases hlt : k < l.length
    · obtain ⟨b, off, rfl, hbb, hc⟩ := hr (by rw [ints_length]; omega)
      have hcell : w.cell? ⟨b, off + k, none⟩ = some (.int .i64 l[k]) := hc k _ (ints_get l k hlt)
      clear hc hr
      have HA := Lib.hid hall
      clear hall
      have HT := Lib.hid (take_snoc l k hlt)
      have HN : Hid (okB l[k] = false → nallOk l = false) := Lib.hid fun hn => by
        cases hh : nallOk l with
        | false => rfl
        | true =>
          have := nallOk_take (k + 1) hh
          rw [HT.out, nallOk_snoc, hn, Bool.and_false] at this
          cases this
      by_cases h1 : l[k] < 1
      · go_wp2
        go_ret2
        have h2 := takeR_arg (L := s.data.toList) (HN.out (okB_no (by omega)))
        exact ⟨_, by rw [h2]; rfl, by rw [h2]; exact World.ownsRow_nil _ _ _ _, Below.refl _ _⟩
      · by_cases h7 : 7 < l[k]
        · go_wp2
          go_ret2
          have h2 := takeR_arg (L := s.data.toList) (HN.out (okB_no (by omega)))
          exact ⟨_, by rw [h2]; rfl, by rw [h2]; exact World.ownsRow_nil _ _ _ _, Below.refl _ _⟩
        · obtain ⟨m, hm⟩ : ∃ m : Nat, l[k] = (m : Int) := ⟨l[k].toNat, by omega⟩
          rw [hm] at hcell h1 h7
          have HM := Lib.hid hm
          clear hm
          go_wp2
          go_round
          case rel =>
            refine ⟨k + 1, by omega, by go_num, ?_, ?_⟩
            · rw [HT.out, nallOk_snoc, HA.out, HM.out, okB_yes (by omega) (by omega)]; rfl
            · rw [HT.out, nwidth_snoc, HM.out]; go_num
          case measure => simp [intOf]; omega
    · have HE : Hid (l.take k = l) := Lib.hid (List.take_of_length_le (by omega))
      rw [HE.out] at hall hbd
      rw [HE.out]
      have HA := Lib.hid hall
      clear hall
      have HP : Hid (∀ j, nwidth (l.take j) ≤ nwidth l) := Lib.hid (nwidth_take_le l)
      by_cases hshort : s.size < nwidth l
      · go_wp2
        go_ret2
        have h2 := takeR_short (L := s.data.toList) HA.out (by simpa using hshort)
        exact ⟨_, by rw [h2]; rfl, by rw [h2]; exact World.ownsRow_nil _ _ _ _, Below.refl _ _⟩
      · have hown0 : (w.alloc (.cells #[] 3)).ownsRow w.heap.size 3 1 (.slice (some ⟨w.heap.size, 0, none⟩) 0 0) 0 [] := World.ownsRow_made w #[] 0 (Nat.le_refl _) (Nat.zero_le _) rfl
        go_wp2
        clear hbd hlen hlt hk
        go_loopw [8, 9, 10] (fun v t i wr => ∃ j : Nat, j ≤ l.length ∧ i = .int .i64 j ∧ t = .int .i64 (nwidth (l.take j)) ∧ wr.ownsRow w.heap.size 3 1 v j (ints (nnums s.data.toList (l.take j))) ∧ Below w.heap.size w wr)
          (fun _ _ i _ => l.length - (intOf i).toNat)
        case atStart => exact ⟨0, Nat.zero_le _, rfl, rfl, by simpa [ints, nnums] using hown0, (Below.refl _ _).alloc (Nat.le_refl _) _⟩
        case round =>
          obtain ⟨j, hj, rfl, rfl, hownr, hbw⟩ := hrel
          clear hown0
          by_cases hlt : j < l.length
          · obtain ⟨b, off, rfl, hbb, hc⟩ := hr (by rw [ints_length]; omega)
            have hcell : wr.cell? ⟨b, off + j, none⟩ = some (.int .i64 l[j]) := (hbw.cell (p := ⟨b, off + j, none⟩) hbb).trans (hc j _ (ints_get l j hlt))
            clear hc hr
            obtain ⟨m, hm⟩ : ∃ m : Nat, l[j] = (m : Int) := ⟨l[j].toNat, by have := num_ok_bounds hlt HA.out; omega⟩
            have hm7 : m ≤ 7 := by have := num_ok_bounds hlt HA.out; omega
            rw [hm] at hcell
            have hws := nwidth_step l j hlt
            rw [hm, Int.toNat_natCast] at hws
            have hroom : nwidth (l.take j) + m ≤ s.size := by have := HP.out (j + 1); omega
            have HM := Lib.hid hm
            have HWS := Lib.hid hws
            have HT := Lib.hid (take_snoc l j hlt)
            clear hm hws
            obtain ⟨at0, hat⟩ : ∃ at0, at0 = nwidth (l.take j) := ⟨_, rfl⟩
            rw [← hat] at hroom ⊢
            have HAT := Lib.hid hat
            clear hat
            go_wp2
            go_loop [9, 11, 12] (fun t x i => ∃ q : Nat, q ≤ m ∧ i = .int .i64 q ∧ t = .int .i64 ((at0 + q : Nat) : Int) ∧ x = .int .i64 (val ((s.data.toList.drop at0).take q))) (fun _ _ i => m - (intOf i).toNat)
            case atStart => exact ⟨0, Nat.zero_le _, rfl, by simp, rfl⟩
            case round =>
              obtain ⟨q, hq, rfl, rfl, rfl⟩ := hrel
              by_cases hqm : q < m
              · have hsm := val_small (s.data.toList.drop at0) q (by omega)
                have hin : at0 + q < s.size := by omega
                have HV := Lib.hid (val_more s.data.toList at0 q (by simpa using hin))
                have hbyte : s[at0 + q].toNat < 256 := s[at0 + q].toNat_lt
                go_wp2
                go_round
                case rel => exact ⟨q + 1, by omega, by go_num, by go_num, by rw [HV.out]; rfl⟩
                case measure => simp [intOf]; omega
              · have eq : q = m := by omega
                subst eq
                clear hqm
                go_wp2_with (at_builtin; refine wpList_append_own _ rfl (.tmp 65) (.tmp 67) 83 rfl w.heap.size 3 i0 (.int .i64 0) 1 8 Tryz.underlying83 hi hz0 hz1 hz2 rfl (by decide) _ _ _ rfl (hownr.alloc _) ⟨wr.heap.size, 0, none⟩ 1 1 [.int .i64 ((val ((s.data.toList.drop at0).take q) : Nat) : Int)] rfl rfl ?c1 ?c2 ?c3 ?c4 ?c5 ?_)
                case c2 => rfl
                case c3 => unfold maxLen; omega
                case c4 => omega
                case c5 => have := hbw.size; simp; omega
                intro v' w1 hown1 hg1 _
                have hb1 : Below w.heap.size w w1 := (hbw.alloc hbw.size _).grown hg1 (by have := hbw.size; simp; omega) (fun g hg => (hownr.lt g hg).1)
                clear hg1
                go_wp2
                go_roundw
                case rel =>
                  refine ⟨j + 1, by omega, by go_num, ?_, ?_, hb1⟩
                  · rw [HWS.out, HAT.out]; go_num
                  · rw [HT.out, nnums_snoc, ints_append, HM.out, Int.toNat_natCast, ← HAT.out]
                    exact hown1
                case measure => simp [intOf]; omega
          · have ej : j = l.length := by omega
            subst ej
            go_wp2
            go_ret2
            have h2 := takeR_ok (L := s.data.toList) HA.out (by simpa using hshort)
            rw [List.take_length] at hownr
            exact ⟨_, by rw [h2]; rfl, by rw [h2]; rw [nnums_length]; exact hownr, hbw⟩

theorem num_refPut_at (s : Int) (a : Option Addr) (n cap : Nat) (l : List Int) (L : List UInt8) (c : Int) (w : World) (hn : l.length = n) (hR : putR s l = (L, c)) (hl : n ≤ 100000) (hwf : ∀ x ∈ l, x ≤ 9223372036854775807) (hr : Lies w w.heap.size a (ints l)) :
    Calls Tryz.prog 65 #[.int .i64 s, .slice a n cap] w fun e w' => e = .returned (.tuple #[.string (str L), .int .i64 c]) ∧ Below w.heap.size w w' := by
  subst hn
  refine (num_refPut_any s a cap l w hl hwf hr).mono fun e w' h => ?_
  unfold Answers at h
  rw [hR] at h
  exact h

theorem num_refTake_at (s : ByteArray) (L : List UInt8) (a : Option Addr) (n cap : Nat) (l r : List Int) (c : Int) (w : World) (hs : s.data.toList = L) (hz : s.size ≤ 140737488355328) (hn : l.length = n) (hR : takeR L l = (r, c)) (hl : n ≤ 100000) (hr : Lies w w.heap.size a (ints l)) :
    Calls Tryz.prog 42 #[.string s, .slice a n cap] w (NMade r c w) := by
  subst hn
  subst hs
  refine (num_refTake_any s a cap l w hl hz hr).mono fun e w' h => ?_
  obtain ⟨v, he, hown, hb⟩ := h
  rw [hR] at he hown
  obtain ⟨ra, rc, hv, hlies⟩ := own_form hown
  exact ⟨ra, rc, by rw [he, hv], hlies, hb⟩

theorem num_refTake_new (s : ByteArray) (L : List UInt8) (a : Option Addr) (n cap : Nat) (l r : List Int) (c : Int) (w : World) (hs : s.data.toList = L) (hz : s.size ≤ 140737488355328) (hn : l.length = n) (hR : takeR L l = (r, c)) (h0 : 0 < r.length) (hl : n ≤ 100000) (hr : Lies w w.heap.size a (ints l)) :
    Calls Tryz.prog 42 #[.string s, .slice a n cap] w (NMadeN r c w) := by
  subst hn
  subst hs
  exact (num_refTake_any s a cap l w hl hz hr).mono fun e w' h => h.new hR h0

end Go.Proofs.YtbnjenbhpaknbaaGreat

/- Blank; the document's Right and Put (gen_rec_g.py). -/
namespace Go.Proofs.YtbnjenbhpaknbaaGreat
open Go.RowKit CrcMath NumMath
set_option linter.unusedVariables false
set_option maxRecDepth 100000

theorem rec_rep (w : World) : Calls Tryz.prog 99 #[.string { data := #[255] }, .int .i64 16] w fun e w' => e = .returned (.string (str (List.replicate 16 255))) ∧ Below w.heap.size w w' := by
  have := Tryz.strings_Repeat { data := #[255] } 16 w (by omega) (by show 1 * 16 ≤ _; omega)
  exact this
def blankP : ByteArray := str (List.replicate 16 255)
theorem rec_blank_any (s : ByteArray) (w : World) :
    Calls Tryz.prog 82 #[.string s] w fun e w' => e = .returned (.bool (s.toList == blankP.toList)) ∧ Below w.heap.size w w' := by
  have HR : Hid (∀ u, Calls Tryz.prog 99 #[.string { data := #[255] }, .int .i64 16] u fun e w' => e = .returned (.string blankP) ∧ Below u.heap.size u w') := Lib.hid rec_rep
  obtain ⟨X, hX⟩ : ∃ X, blankP = X := ⟨_, rfl⟩
  rw [hX] at HR ⊢
  clear hX
  go_enter Tryz.func82, Tryz.ntmps82
  go_wp2_with (go_at_call 99; (with_reducible refine (HR.out w).mono ?_); rintro e u1 ⟨rfl, b1⟩)
  go_ret
  exact ⟨rfl, b1⟩

set_option maxHeartbeats 1000000 in
theorem rref_right_any (k s n v : Int) (w : World) :
    Calls Tryz.prog 20 #[.agg (rcv k s n v).toArray] w fun e w' => e = .returned (.bool (rOk k s n v)) ∧ Below w.heap.size w w' := by
  obtain ⟨V, hV⟩ : ∃ V, rcv k s n v = V := ⟨_, rfl⟩
  have H0 : Hid (V[0]? = some (.int .i64 k)) := Lib.hid (by rw [← hV]; rfl)
  have H1 : Hid (V[1]? = some (.int .i64 s)) := Lib.hid (by rw [← hV]; rfl)
  have H2 : Hid (V[2]? = some (.int .i64 n)) := Lib.hid (by rw [← hV]; rfl)
  have H3 : Hid (V[3]? = some (.int .i64 v)) := Lib.hid (by rw [← hV]; rfl)
  rw [hV]
  clear hV
  by_cases h0 : 0 ≤ k
  · by_cases h1 : k < 128
    · by_cases h2 : 0 ≤ s
      · by_cases h3 : s < 4
        · by_cases h4 : 0 ≤ n
          · by_cases h5 : n < 65536
            · by_cases h6 : 0 ≤ v
              · by_cases h7 : v < 281474976710656
                · have HR : Hid (rOk k s n v = true) := Lib.hid (by unfold rOk; rw [decide_eq_true_eq]; exact ⟨h0, h1, h2, h3, h4, h5, h6, h7⟩)
                  go_enter Tryz.func20, Tryz.ntmps20
                  go_wp2_with (first
                    | ((with_reducible refine wpBoxK V 47 ?_ ?_); rfl; intro u1 r1 b1 s1; have B1 := Lib.hid b1; have c0 : u1.cell? ⟨w.heap.size, 0, none⟩ = some (.int .i64 k) := (r1.cell 0).trans H0.out; have c1 : u1.cell? ⟨w.heap.size, 1, none⟩ = some (.int .i64 s) := (r1.cell 1).trans H1.out; have c2 : u1.cell? ⟨w.heap.size, 2, none⟩ = some (.int .i64 n) := (r1.cell 2).trans H2.out; have c3 : u1.cell? ⟨w.heap.size, 3, none⟩ = some (.int .i64 v) := (r1.cell 3).trans H3.out; clear r1 b1 s1))
                  go_ret
                  exact ⟨ret_bool HR.out.symm, B1.out⟩
                · have HR : Hid (rOk k s n v = false) := Lib.hid (by unfold rOk; rw [decide_eq_false_iff_not]; omega)
                  go_enter Tryz.func20, Tryz.ntmps20
                  go_wp2_with (first
                    | ((with_reducible refine wpBoxK V 47 ?_ ?_); rfl; intro u1 r1 b1 s1; have B1 := Lib.hid b1; have c0 : u1.cell? ⟨w.heap.size, 0, none⟩ = some (.int .i64 k) := (r1.cell 0).trans H0.out; have c1 : u1.cell? ⟨w.heap.size, 1, none⟩ = some (.int .i64 s) := (r1.cell 1).trans H1.out; have c2 : u1.cell? ⟨w.heap.size, 2, none⟩ = some (.int .i64 n) := (r1.cell 2).trans H2.out; have c3 : u1.cell? ⟨w.heap.size, 3, none⟩ = some (.int .i64 v) := (r1.cell 3).trans H3.out; clear r1 b1 s1))
                  go_ret
                  exact ⟨ret_bool HR.out.symm, B1.out⟩
              · have HR : Hid (rOk k s n v = false) := Lib.hid (by unfold rOk; rw [decide_eq_false_iff_not]; omega)
                go_enter Tryz.func20, Tryz.ntmps20
                go_wp2_with (first
                  | ((with_reducible refine wpBoxK V 47 ?_ ?_); rfl; intro u1 r1 b1 s1; have B1 := Lib.hid b1; have c0 : u1.cell? ⟨w.heap.size, 0, none⟩ = some (.int .i64 k) := (r1.cell 0).trans H0.out; have c1 : u1.cell? ⟨w.heap.size, 1, none⟩ = some (.int .i64 s) := (r1.cell 1).trans H1.out; have c2 : u1.cell? ⟨w.heap.size, 2, none⟩ = some (.int .i64 n) := (r1.cell 2).trans H2.out; have c3 : u1.cell? ⟨w.heap.size, 3, none⟩ = some (.int .i64 v) := (r1.cell 3).trans H3.out; clear r1 b1 s1))
                go_ret
                exact ⟨ret_bool HR.out.symm, B1.out⟩
            · have HR : Hid (rOk k s n v = false) := Lib.hid (by unfold rOk; rw [decide_eq_false_iff_not]; omega)
              go_enter Tryz.func20, Tryz.ntmps20
              go_wp2_with (first
                | ((with_reducible refine wpBoxK V 47 ?_ ?_); rfl; intro u1 r1 b1 s1; have B1 := Lib.hid b1; have c0 : u1.cell? ⟨w.heap.size, 0, none⟩ = some (.int .i64 k) := (r1.cell 0).trans H0.out; have c1 : u1.cell? ⟨w.heap.size, 1, none⟩ = some (.int .i64 s) := (r1.cell 1).trans H1.out; have c2 : u1.cell? ⟨w.heap.size, 2, none⟩ = some (.int .i64 n) := (r1.cell 2).trans H2.out; have c3 : u1.cell? ⟨w.heap.size, 3, none⟩ = some (.int .i64 v) := (r1.cell 3).trans H3.out; clear r1 b1 s1))
              go_ret
              exact ⟨ret_bool HR.out.symm, B1.out⟩
          · have HR : Hid (rOk k s n v = false) := Lib.hid (by unfold rOk; rw [decide_eq_false_iff_not]; omega)
            go_enter Tryz.func20, Tryz.ntmps20
            go_wp2_with (first
              | ((with_reducible refine wpBoxK V 47 ?_ ?_); rfl; intro u1 r1 b1 s1; have B1 := Lib.hid b1; have c0 : u1.cell? ⟨w.heap.size, 0, none⟩ = some (.int .i64 k) := (r1.cell 0).trans H0.out; have c1 : u1.cell? ⟨w.heap.size, 1, none⟩ = some (.int .i64 s) := (r1.cell 1).trans H1.out; have c2 : u1.cell? ⟨w.heap.size, 2, none⟩ = some (.int .i64 n) := (r1.cell 2).trans H2.out; have c3 : u1.cell? ⟨w.heap.size, 3, none⟩ = some (.int .i64 v) := (r1.cell 3).trans H3.out; clear r1 b1 s1))
            go_ret
            exact ⟨ret_bool HR.out.symm, B1.out⟩
        · have HR : Hid (rOk k s n v = false) := Lib.hid (by unfold rOk; rw [decide_eq_false_iff_not]; omega)
          go_enter Tryz.func20, Tryz.ntmps20
          go_wp2_with (first
            | ((with_reducible refine wpBoxK V 47 ?_ ?_); rfl; intro u1 r1 b1 s1; have B1 := Lib.hid b1; have c0 : u1.cell? ⟨w.heap.size, 0, none⟩ = some (.int .i64 k) := (r1.cell 0).trans H0.out; have c1 : u1.cell? ⟨w.heap.size, 1, none⟩ = some (.int .i64 s) := (r1.cell 1).trans H1.out; have c2 : u1.cell? ⟨w.heap.size, 2, none⟩ = some (.int .i64 n) := (r1.cell 2).trans H2.out; have c3 : u1.cell? ⟨w.heap.size, 3, none⟩ = some (.int .i64 v) := (r1.cell 3).trans H3.out; clear r1 b1 s1))
          go_ret
          exact ⟨ret_bool HR.out.symm, B1.out⟩
      · have HR : Hid (rOk k s n v = false) := Lib.hid (by unfold rOk; rw [decide_eq_false_iff_not]; omega)
        go_enter Tryz.func20, Tryz.ntmps20
        go_wp2_with (first
          | ((with_reducible refine wpBoxK V 47 ?_ ?_); rfl; intro u1 r1 b1 s1; have B1 := Lib.hid b1; have c0 : u1.cell? ⟨w.heap.size, 0, none⟩ = some (.int .i64 k) := (r1.cell 0).trans H0.out; have c1 : u1.cell? ⟨w.heap.size, 1, none⟩ = some (.int .i64 s) := (r1.cell 1).trans H1.out; have c2 : u1.cell? ⟨w.heap.size, 2, none⟩ = some (.int .i64 n) := (r1.cell 2).trans H2.out; have c3 : u1.cell? ⟨w.heap.size, 3, none⟩ = some (.int .i64 v) := (r1.cell 3).trans H3.out; clear r1 b1 s1))
        go_ret
        exact ⟨ret_bool HR.out.symm, B1.out⟩
    · have HR : Hid (rOk k s n v = false) := Lib.hid (by unfold rOk; rw [decide_eq_false_iff_not]; omega)
      go_enter Tryz.func20, Tryz.ntmps20
      go_wp2_with (first
        | ((with_reducible refine wpBoxK V 47 ?_ ?_); rfl; intro u1 r1 b1 s1; have B1 := Lib.hid b1; have c0 : u1.cell? ⟨w.heap.size, 0, none⟩ = some (.int .i64 k) := (r1.cell 0).trans H0.out; have c1 : u1.cell? ⟨w.heap.size, 1, none⟩ = some (.int .i64 s) := (r1.cell 1).trans H1.out; have c2 : u1.cell? ⟨w.heap.size, 2, none⟩ = some (.int .i64 n) := (r1.cell 2).trans H2.out; have c3 : u1.cell? ⟨w.heap.size, 3, none⟩ = some (.int .i64 v) := (r1.cell 3).trans H3.out; clear r1 b1 s1))
      go_ret
      exact ⟨ret_bool HR.out.symm, B1.out⟩
  · have HR : Hid (rOk k s n v = false) := Lib.hid (by unfold rOk; rw [decide_eq_false_iff_not]; omega)
    go_enter Tryz.func20, Tryz.ntmps20
    go_wp2_with (first
      | ((with_reducible refine wpBoxK V 47 ?_ ?_); rfl; intro u1 r1 b1 s1; have B1 := Lib.hid b1; have c0 : u1.cell? ⟨w.heap.size, 0, none⟩ = some (.int .i64 k) := (r1.cell 0).trans H0.out; have c1 : u1.cell? ⟨w.heap.size, 1, none⟩ = some (.int .i64 s) := (r1.cell 1).trans H1.out; have c2 : u1.cell? ⟨w.heap.size, 2, none⟩ = some (.int .i64 n) := (r1.cell 2).trans H2.out; have c3 : u1.cell? ⟨w.heap.size, 3, none⟩ = some (.int .i64 v) := (r1.cell 3).trans H3.out; clear r1 b1 s1))
    go_ret
    exact ⟨ret_bool HR.out.symm, B1.out⟩

theorem fits_rrec : Fits Tryz.prog 47 4 := ⟨⟨_, Tryz.underlying47, rfl⟩, by kernel_rfl⟩
theorem zero_rrec : ∀ u, (zeroValue 47).run Tryz.prog u = .ok (.agg (rcv 0 0 0 0).toArray) u := fun u => by kernel_rfl
theorem putR_one (s : Nat) (x : Int) (hs : 1 ≤ s) (h7 : s ≤ 7) (h0 : 0 ≤ x) (h1 : x.toNat < 256 ^ s) : putR (s : Int) [x] = (be s x.toNat, 0) := by
  rw [putR_ok (okB_yes (by omega) (by omega)) ?_]
  · simp [putBytes]
  · simp only [fitAll, List.all_cons, List.all_nil, Bool.and_true, fitB, decide_eq_true_eq, Int.toNat_natCast]
    refine ⟨h0, ?_⟩
    have e : ((256 ^ s : Nat) : Int) = (256 : Int) ^ s := by simp
    rw [← e]
    omega
set_option maxHeartbeats 2000000 in
theorem rref_put_any (k s n v : Int) (w : World) (hok : rOk k s n v = true) :
    Calls Tryz.prog 43 #[.agg (rcv k s n v).toArray] w fun e w' => e = .returned (.string (str (pageB k s n v))) ∧ Below w.heap.size w w' := by
  obtain ⟨h1, h2, h3, h4, h5, h6, h7, h8⟩ := rOk_is hok
  obtain ⟨A1, hA1⟩ : ∃ T, str (be 1 k.toNat ++ be 1 s.toNat) = T := ⟨_, rfl⟩
  obtain ⟨A2, hA2⟩ : ∃ T, str (be 2 n.toNat) = T := ⟨_, rfl⟩
  obtain ⟨A3, hA3⟩ : ∃ T, str (be 6 v.toNat) = T := ⟨_, rfl⟩
  obtain ⟨A4, hA4⟩ : ∃ T, str (be 4 (sumM (txtB k s n v)).toNat) = T := ⟨_, rfl⟩
  obtain ⟨TX, hTX⟩ : ∃ T, str (txtB k s n v) = T := ⟨_, rfl⟩
  obtain ⟨x, hx⟩ : ∃ x, sumI (txtB k s n v) = x := ⟨_, rfl⟩
  obtain ⟨m, hm⟩ : ∃ m, sumM (txtB k s n v) = m := ⟨_, rfl⟩
  have hmb := sumM_bd (txtB k s n v)
  have zA1 : A1.size = 2 := by rw [← hA1, str_size]; simp [be_length]
  have zA2 : A2.size = 2 := by rw [← hA2, str_size, be_length]
  have zA3 : A3.size = 6 := by rw [← hA3, str_size, be_length]
  have zA4 : A4.size = 4 := by rw [← hA4, str_size, be_length]
  have z5 : (str [0, 0]).size = 2 := rfl
  have zTX : TX.size = 12 := by rw [← hTX, str_size, txtB_length]
  have HJ : Hid (A1 ++ A2 ++ A3 ++ str [0, 0] = TX) := Lib.hid (by rw [← hA1, ← hA2, ← hA3, ← hTX, str_append, str_append, str_append]; rfl)
  have s2 : (A1 ++ A2).size = 4 := by rw [ByteArray.size_append, zA1, zA2]
  have s3 : (A1 ++ A2 ++ A3).size = 10 := by rw [ByteArray.size_append, s2, zA3]
  have HRES : Hid (TX ++ A4 = str (pageB k s n v)) := Lib.hid (by rw [← hTX, ← hA4, str_append]; rfl)
  have HP1 : Hid (∀ u, Calls Tryz.prog 65 #[.int .i64 1, .slice (some ⟨u.heap.size, 0, none⟩) 2 2] (u.alloc (.cells #[.int .i64 k, .int .i64 s] 3)) fun e u' => e = .returned (.tuple #[.string A1, .int .i64 0]) ∧ Below u.heap.size u u') := Lib.hid fun u => by
    rw [← hA1]
    refine (num_refPut_at 1 _ 2 2 [k, s] _ 0 (u.alloc (.cells #[.int .i64 k, .int .i64 s] 3)) rfl ?_ (by omega) (by intro x hx; simp at hx; omega) (Lies.new (ints [k, s]) u 3)).mono fun e u' h => ⟨h.1, (alloc_below u _).next h.2⟩
    have f1 : (256 : Int) ^ (1 : Nat) = 256 := rfl
    rw [putR_ok (okB_yes (by omega) (by omega)) (by simp only [fitAll, List.all_cons, List.all_nil, Bool.and_true, fitB, Int.toNat_one, f1, Bool.and_eq_true, decide_eq_true_eq]; omega)]
    simp [putBytes]
  have HP2 : Hid (∀ u, Calls Tryz.prog 65 #[.int .i64 2, .slice (some ⟨u.heap.size, 0, none⟩) 1 1] (u.alloc (.cells #[.int .i64 n] 3)) fun e u' => e = .returned (.tuple #[.string A2, .int .i64 0]) ∧ Below u.heap.size u u') := Lib.hid fun u => by
    rw [← hA2]
    exact (num_refPut_at 2 _ 1 1 [n] _ 0 (u.alloc (.cells #[.int .i64 n] 3)) rfl (putR_one 2 n (by omega) (by omega) h5 (by omega)) (by omega) (by intro x hx; simp at hx; omega) (Lies.new (ints [n]) u 3)).mono fun e u' h => ⟨h.1, (alloc_below u _).next h.2⟩
  have HP3 : Hid (∀ u, Calls Tryz.prog 65 #[.int .i64 6, .slice (some ⟨u.heap.size, 0, none⟩) 1 1] (u.alloc (.cells #[.int .i64 v] 3)) fun e u' => e = .returned (.tuple #[.string A3, .int .i64 0]) ∧ Below u.heap.size u u') := Lib.hid fun u => by
    rw [← hA3]
    exact (num_refPut_at 6 _ 1 1 [v] _ 0 (u.alloc (.cells #[.int .i64 v] 3)) rfl (putR_one 6 v (by omega) (by omega) h7 (by omega)) (by omega) (by intro x hx; simp at hx; omega) (Lies.new (ints [v]) u 3)).mono fun e u' h => ⟨h.1, (alloc_below u _).next h.2⟩
  have HP4 : Hid (∀ u, Calls Tryz.prog 65 #[.int .i64 4, .slice (some ⟨u.heap.size, 0, none⟩) 1 1] (u.alloc (.cells #[.int .i64 m] 3)) fun e u' => e = .returned (.tuple #[.string A4, .int .i64 0]) ∧ Below u.heap.size u u') := Lib.hid fun u => by
    rw [← hA4, ← hm]
    exact (num_refPut_at 4 _ 1 1 [sumM (txtB k s n v)] _ 0 (u.alloc (.cells #[.int .i64 (sumM (txtB k s n v))] 3)) rfl (putR_one 4 _ (by omega) (by omega) hmb.1 (by omega)) (by omega) (by intro x hx; simp at hx; omega) (Lies.new (ints [sumM (txtB k s n v)]) u 3)).mono fun e u' h => ⟨h.1, (alloc_below u _).next h.2⟩
  have HSM : Hid (∀ u, Calls Tryz.prog 66 #[.string TX] u fun e u' => e = .returned (.int .i64 x) ∧ u = u') := Lib.hid fun u => by
    have := refSum_any TX u (by omega)
    rw [← hTX, str_list, hx, hTX] at this
    exact this
  have HM : Hid (m = if x = 4294967295 then 4294967294 else x) := Lib.hid (by rw [← hm, ← hx]; rfl)
  obtain ⟨V, hV⟩ : ∃ V, rcv k s n v = V := ⟨_, rfl⟩
  have H0 : Hid (V[0]? = some (.int .i64 k)) := Lib.hid (by rw [← hV]; rfl)
  have H1 : Hid (V[1]? = some (.int .i64 s)) := Lib.hid (by rw [← hV]; rfl)
  have H2 : Hid (V[2]? = some (.int .i64 n)) := Lib.hid (by rw [← hV]; rfl)
  have H3 : Hid (V[3]? = some (.int .i64 v)) := Lib.hid (by rw [← hV]; rfl)
  rw [hV, ← HRES.out]
  clear hok hV hA1 hA2 hA3 hA4 hTX hx hm hmb h1 h2 h3 h4 h5 h6 h7 h8 HRES
  have HCV : Hid (∀ u : World, (convert 76 9 (.slice (some ⟨u.heap.size, 0, none⟩) 2 2)).run Tryz.prog (u.alloc (.cells #[.int .u8 0, .int .u8 0] 5)) = .ok (.string (str [0, 0])) (u.alloc (.cells #[.int .u8 0, .int .u8 0] 5))) := Lib.hid fun u =>
    conv_bytes u.heap.size 0 2 [0, 0] 2 (u.alloc (.cells #[.int .u8 0, .int .u8 0] 5)) rfl (fun j hj => by have h := (Row.new u 5 (bytes [0, 0])).cell j; rw [Nat.zero_add]; exact h.trans (bytes_get _ _ hj))
  by_cases hx : x = 4294967295
  · have hxe : (x == 4294967295) = true := by simpa using hx
    have HMX := HM.out
    rw [if_pos hx] at HMX
    subst HMX
    clear hx HM
    go_enter Tryz.func43, Tryz.ntmps43
    go_wp2_with (first
      | ((with_reducible refine wpBoxK V 47 ?_ ?_); rfl; intro u1 r1 b1 s1; have R1 := Lib.hid r1; have B1 := Lib.hid b1; have c0 : u1.cell? ⟨w.heap.size, 0, none⟩ = some (.int .i64 k) := (r1.cell 0).trans H0.out; have c1 : u1.cell? ⟨w.heap.size, 1, none⟩ = some (.int .i64 s) := (r1.cell 1).trans H1.out; clear r1 b1 s1)
      | (go_at_call 65; (with_reducible refine (HP1.out u1).mono ?_); rintro e u2 ⟨rfl, b2⟩; have R2 := Lib.hid (R1.out.step b2); have c2 : u2.cell? ⟨w.heap.size, 2, none⟩ = some (.int .i64 n) := (R2.out.cell 2).trans H2.out; have B2 : Hid (Below w.heap.size w u2) := Lib.hid (B1.out.next b2); clear b2)
      | (go_at_call 65; (with_reducible refine (HP2.out u2).mono ?_); rintro e u3 ⟨rfl, b3⟩; have R3 := Lib.hid (R2.out.step b3); have c3 : u3.cell? ⟨w.heap.size, 3, none⟩ = some (.int .i64 v) := (R3.out.cell 3).trans H3.out; have B3 : Hid (Below w.heap.size w u3) := Lib.hid (B2.out.next b3); clear b3)
      | (go_at_call 65; (with_reducible refine (HP3.out u3).mono ?_); rintro e u4 ⟨rfl, b4⟩; have B4 : Hid (Below w.heap.size w u4) := Lib.hid (B3.out.next b4); have hcv := HCV.out u4; clear b4)
      | (go_at_call 66; rw [HJ.out]; obtain ⟨u5, hu5⟩ : ∃ u5, u5 = u4.alloc (.cells #[.int .u8 0, .int .u8 0] 5) := ⟨_, rfl⟩; rw [← hu5]; have B5 : Hid (Below w.heap.size w u5) := Lib.hid (by rw [hu5]; exact B4.out.next (alloc_below _ _)); clear hu5; (with_reducible refine (HSM.out u5).mono ?_); rintro e u6 ⟨rfl, rfl⟩)
      | (go_at_call 65; (with_reducible refine (HP4.out u5).mono ?_); rintro e u7 ⟨rfl, b7⟩; have B7 : Hid (Below w.heap.size w u7) := Lib.hid (B5.out.next b7); clear b7))
    go_ret
    exact ⟨rfl, B7.out⟩
  · have hxe : (x == 4294967295) = false := by simpa using hx
    have HMX := HM.out
    rw [if_neg hx] at HMX
    subst HMX
    clear hx HM
    go_enter Tryz.func43, Tryz.ntmps43
    go_wp2_with (first
      | ((with_reducible refine wpBoxK V 47 ?_ ?_); rfl; intro u1 r1 b1 s1; have R1 := Lib.hid r1; have B1 := Lib.hid b1; have c0 : u1.cell? ⟨w.heap.size, 0, none⟩ = some (.int .i64 k) := (r1.cell 0).trans H0.out; have c1 : u1.cell? ⟨w.heap.size, 1, none⟩ = some (.int .i64 s) := (r1.cell 1).trans H1.out; clear r1 b1 s1)
      | (go_at_call 65; (with_reducible refine (HP1.out u1).mono ?_); rintro e u2 ⟨rfl, b2⟩; have R2 := Lib.hid (R1.out.step b2); have c2 : u2.cell? ⟨w.heap.size, 2, none⟩ = some (.int .i64 n) := (R2.out.cell 2).trans H2.out; have B2 : Hid (Below w.heap.size w u2) := Lib.hid (B1.out.next b2); clear b2)
      | (go_at_call 65; (with_reducible refine (HP2.out u2).mono ?_); rintro e u3 ⟨rfl, b3⟩; have R3 := Lib.hid (R2.out.step b3); have c3 : u3.cell? ⟨w.heap.size, 3, none⟩ = some (.int .i64 v) := (R3.out.cell 3).trans H3.out; have B3 : Hid (Below w.heap.size w u3) := Lib.hid (B2.out.next b3); clear b3)
      | (go_at_call 65; (with_reducible refine (HP3.out u3).mono ?_); rintro e u4 ⟨rfl, b4⟩; have B4 : Hid (Below w.heap.size w u4) := Lib.hid (B3.out.next b4); have hcv := HCV.out u4; clear b4)
      | (go_at_call 66; rw [HJ.out]; obtain ⟨u5, hu5⟩ : ∃ u5, u5 = u4.alloc (.cells #[.int .u8 0, .int .u8 0] 5) := ⟨_, rfl⟩; rw [← hu5]; have B5 : Hid (Below w.heap.size w u5) := Lib.hid (by rw [hu5]; exact B4.out.next (alloc_below _ _)); clear hu5; (with_reducible refine (HSM.out u5).mono ?_); rintro e u6 ⟨rfl, rfl⟩)
      | (go_at_call 65; (with_reducible refine (HP4.out u5).mono ?_); rintro e u7 ⟨rfl, b7⟩; have B7 : Hid (Below w.heap.size w u7) := Lib.hid (B5.out.next b7); clear b7))
    go_ret
    exact ⟨rfl, B7.out⟩
end Go.Proofs.YtbnjenbhpaknbaaGreat

/- The document's Get (gen_rec_h.py). -/
namespace Go.Proofs.YtbnjenbhpaknbaaGreat
open Go.RowKit CrcMath NumMath
set_option linter.unusedVariables false
set_option maxRecDepth 100000

theorem built_rrec (k s n v : Int) : Tryz.prog.built 47 [(0, .int .i64 k), (1, .int .i64 s), (2, .int .i64 n), (3, .int .i64 v)] = some (rcv k s n v).toArray := by kernel_rfl
theorem built_rrec0 : Tryz.prog.built 47 [] = some (rcv 0 0 0 0).toArray := by kernel_rfl

theorem rref_get_len (s : ByteArray) (w : World) (h : s.size ≠ 16) :
    Calls Tryz.prog 14 #[.string s] w fun e w' => e = .returned (.tuple #[.agg (rcv 0 0 0 0).toArray, .bool false]) ∧ Below w.heap.size w w' := by
  have HB0 := Lib.hid built_rrec0
  have hne : ((s.size : Int) == 16) = false := by simpa using (show ¬ (s.size : Int) = 16 by omega)
  clear h
  go_enter Tryz.func14, Tryz.ntmps14
  go_wp2_with (first
    | ((with_reducible refine wpAllocK (w := w) (rcv 0 0 0 0) 47 zero_rrec ?_ ?_); rfl; intro u1 r1 b1 s1; have R1 := Lib.hid r1; have B1 := Lib.hid b1; clear r1 b1 s1)
    | ((with_reducible refine wpBuildZeroK (rcv 0 0 0 0) 47 HB0.out ?_ ?_); rfl)
    | ((with_reducible refine R1.out.wpStoreK 47 (rcv 0 0 0 0) fits_rrec rfl rfl rfl ?_ ?_); rfl; intro u4 r4 o4 s4; have R4 := Lib.hid r4; have B4 : Hid (Below w.heap.size w u4) := Lib.hid (B1.out.trans (o4.below (Nat.le_refl _) B1.out.size)); clear r4 o4 s4))
  exact bodyPost_ret (R4.out.resultT rfl _ _ rfl Tryz.underlying47 rfl fits_rrec.size) rfl ⟨rfl, B4.out⟩

set_option maxHeartbeats 2000000 in
theorem rref_get_core (s T : ByteArray) (k sl n v : Int) (ok : Bool) (w : World) (h16 : s.size = 16) (hk : pK s.data.toList = k) (hsl : pS s.data.toList = sl) (hn : pN s.data.toList = n) (hv : pV s.data.toList = v) (hok : rOk k sl n v = ok)
    (hp : ok = true → ∀ u, Calls Tryz.prog 43 #[.agg (rcv k sl n v).toArray] u fun e u' => e = .returned (.string T) ∧ Below u.heap.size u u') (W : List Value) (r : Bool)
    (hc : (ok = true ∧ T = s ∧ W = rcv k sl n v ∧ r = true) ∨ (ok = false ∧ W = rcv 0 0 0 0 ∧ r = false) ∨ (ok = true ∧ T ≠ s ∧ W = rcv 0 0 0 0 ∧ r = false)) :
    Calls Tryz.prog 14 #[.string s] w fun e w' => e = .returned (.tuple #[.agg W.toArray, .bool r]) ∧ Below w.heap.size w w' := by
  have HK : Hid (∀ u, Calls Tryz.prog 42 #[.string s, .slice (some ⟨u.heap.size, 0, none⟩) 4 4] (u.alloc (.cells #[.int .i64 1, .int .i64 1, .int .i64 2, .int .i64 6] 3)) fun e u' => ∃ g cap, e = .returned (.tuple #[.slice (some ⟨g, 0, none⟩) 4 cap, .int .i64 0]) ∧ g < u'.heap.size ∧ u'.cell? ⟨g, 0, none⟩ = some (.int .i64 k) ∧ u'.cell? ⟨g, 1, none⟩ = some (.int .i64 sl) ∧ u'.cell? ⟨g, 2, none⟩ = some (.int .i64 n) ∧ u'.cell? ⟨g, 3, none⟩ = some (.int .i64 v) ∧ Below u.heap.size u u') := Lib.hid fun u => by
    refine (num_refTake_new s s.data.toList _ 4 4 [1, 1, 2, 6] [k, sl, n, v] 0 (u.alloc (.cells #[.int .i64 1, .int .i64 1, .int .i64 2, .int .i64 6] 3)) rfl (by omega) rfl (by rw [takeR_page (by rw [size_list]; omega), hk, hsl, hn, hv]) (by simp) (by omega) (Lies.new (ints [1, 1, 2, 6]) u 3)).mono fun e u' h => ?_
    obtain ⟨g, cap, ys, h1, h2, h3, h4, h5⟩ := h
    exact ⟨g, cap, h1, h4.lt, h4.cell 0, h4.cell 1, h4.cell 2, h4.cell 3, (alloc_below u _).next h5⟩
  have HRT : Hid (∀ u, Calls Tryz.prog 20 #[.agg (rcv k sl n v).toArray] u fun e u' => e = .returned (.bool ok) ∧ Below u.heap.size u u') := Lib.hid fun u => by rw [← hok]; exact rref_right_any k sl n v u
  have HP := Lib.hid hp
  have HB0 := Lib.hid built_rrec0
  have HCS := Lib.hid hc
  have hne : ((s.size : Int) == 16) = true := by simpa using (show (s.size : Int) = 16 by omega)
  clear hk hsl hn hv hp hc h16 hok
  go_enter Tryz.func14, Tryz.ntmps14
  go_wp2_with (first
    | ((with_reducible refine wpAllocK (w := w) (rcv 0 0 0 0) 47 zero_rrec ?_ ?_); rfl; intro u1 r1 b1 s1; have R1 := Lib.hid r1; have B1 := Lib.hid b1; clear r1 b1 s1)
    | (go_at_call 42; (with_reducible refine (HK.out u1).mono ?_); rintro e u2 ⟨g, cap, rfl, hgl, hc0, hc1, hc2, hc3, b2⟩; have HGL := Lib.hid hgl; have HC0 := Lib.hid hc0; have HC1 := Lib.hid hc1; have HC2 := Lib.hid hc2; have HC3 := Lib.hid hc3; have R2 := Lib.hid (R1.out.step b2); have B2 : Hid (Below w.heap.size w u2) := Lib.hid (B1.out.next b2); clear b2 hgl hc0 hc1 hc2 hc3))
  refine region_storeT 14 13 [] (by decide) [(0, 17), (1, 18), (2, 19), (3, 20), (4, 21), (5, 22), (6, 23), (7, 24), (8, 25), (9, 26), (10, 27), (11, 28), (12, 29), (13, 6)]
    (fun ii => [Is (.slice (some ⟨g, 0, none⟩) 4 cap), Is (.pointer (some ⟨g, 0, none⟩)), Is (.int .i64 k), Is (.slice (some ⟨g, 0, none⟩) 4 cap), Is (.pointer (some ⟨g, 1, none⟩)), Is (.int .i64 sl), Is (.slice (some ⟨g, 0, none⟩) 4 cap), Is (.pointer (some ⟨g, 2, none⟩)), Is (.int .i64 n), Is (.slice (some ⟨g, 0, none⟩) 4 cap), Is (.pointer (some ⟨g, 3, none⟩)), Is (.int .i64 v), Is (.agg (rcv k sl n v).toArray), Nb u2 47 (rcv 0 0 0 0), Is undef].getD ii (Is undef))
    (fun w' => Below u2.heap.size u2 w') (fun zz w' => ∃ g2, zz = .pointer (some ⟨g2, 0, none⟩) ∧ Row w' g2 47 (rcv k sl n v) ∧ Below u2.heap.size u2 w') (by kernel_rfl) (by decide) (by kernel_rfl) (by kernel_rfl) (by decide) (by decide) (by kernel_rfl) rfl (by kernel_rfl) ?monoA ((Below.refl _ _).drew) ?stepA ?stepXA ?stepSA ?finA
  case monoA =>
    intro i
    match i with
    | 0 | 1 | 2 | 3 | 4 | 5 | 6 | 7 | 8 | 9 | 10 | 11 | 12 | 14 => exact Is.monot _
    | 13 => exact Nb.monot _ _ _
    | _ + 15 => exact Is.monot _
  case stepA =>
    refine List.forall_mem_cons.2 ⟨?As0, List.forall_mem_cons.2 ⟨?As1, List.forall_mem_cons.2 ⟨?As2, List.forall_mem_cons.2 ⟨?As3, List.forall_mem_cons.2 ⟨?As4, List.forall_mem_cons.2 ⟨?As5, List.forall_mem_cons.2 ⟨?As6, List.forall_mem_cons.2 ⟨?As7, List.forall_mem_cons.2 ⟨?As8, List.forall_mem_cons.2 ⟨?As9, List.forall_mem_cons.2 ⟨?As10, List.forall_mem_cons.2 ⟨?As11, List.forall_mem_cons.2 ⟨?As12, List.forall_mem_cons.2 ⟨?As13, List.forall_mem_nil _⟩⟩⟩⟩⟩⟩⟩⟩⟩⟩⟩⟩⟩⟩
    case As0 =>
      intro _
      intro u wx hg hC
      clear hC
      refine wpOp_step rfl (fun K hK => ?_)
      simp only [puts, List.foldl]
      go_simp
      exact hK _ _ ⟨rfl, rfl, hg, Below.refl _ _⟩
    case As1 =>
      intro _
      intro u wx hg hC
      have hJ0 : u 0 = (.slice (some ⟨g, 0, none⟩) 4 cap) := hC.at 0 (by kernel_rfl)
      clear hC
      refine wpOp_step rfl (fun K hK => ?_)
      simp only [puts, List.foldl]
      go_simp
      exact hK _ _ ⟨rfl, rfl, hg, Below.refl _ _⟩
    case As2 =>
      intro _
      intro u wx hg hC
      have hJ1 : u 1 = (.pointer (some ⟨g, 0, none⟩)) := hC.at 1 (by kernel_rfl)
      clear hC
      have hcl : wx.cell? ⟨g, 0, none⟩ = some (.int .i64 k) := (hg.cell (p := ⟨g, 0, none⟩) HGL.out).trans HC0.out
      refine wpOp_step rfl (fun K hK => ?_)
      simp only [puts, List.foldl]
      go_simp
      exact hK _ _ ⟨rfl, rfl, hg, Below.refl _ _⟩
    case As3 =>
      intro _
      intro u wx hg hC
      clear hC
      refine wpOp_step rfl (fun K hK => ?_)
      simp only [puts, List.foldl]
      go_simp
      exact hK _ _ ⟨rfl, rfl, hg, Below.refl _ _⟩
    case As4 =>
      intro _
      intro u wx hg hC
      have hJ3 : u 3 = (.slice (some ⟨g, 0, none⟩) 4 cap) := hC.at 3 (by kernel_rfl)
      clear hC
      refine wpOp_step rfl (fun K hK => ?_)
      simp only [puts, List.foldl]
      go_simp
      exact hK _ _ ⟨rfl, rfl, hg, Below.refl _ _⟩
    case As5 =>
      intro _
      intro u wx hg hC
      have hJ4 : u 4 = (.pointer (some ⟨g, 1, none⟩)) := hC.at 4 (by kernel_rfl)
      clear hC
      have hcl : wx.cell? ⟨g, 1, none⟩ = some (.int .i64 sl) := (hg.cell (p := ⟨g, 1, none⟩) HGL.out).trans HC1.out
      refine wpOp_step rfl (fun K hK => ?_)
      simp only [puts, List.foldl]
      go_simp
      exact hK _ _ ⟨rfl, rfl, hg, Below.refl _ _⟩
    case As6 =>
      intro _
      intro u wx hg hC
      clear hC
      refine wpOp_step rfl (fun K hK => ?_)
      simp only [puts, List.foldl]
      go_simp
      exact hK _ _ ⟨rfl, rfl, hg, Below.refl _ _⟩
    case As7 =>
      intro _
      intro u wx hg hC
      have hJ6 : u 6 = (.slice (some ⟨g, 0, none⟩) 4 cap) := hC.at 6 (by kernel_rfl)
      clear hC
      refine wpOp_step rfl (fun K hK => ?_)
      simp only [puts, List.foldl]
      go_simp
      exact hK _ _ ⟨rfl, rfl, hg, Below.refl _ _⟩
    case As8 =>
      intro _
      intro u wx hg hC
      have hJ7 : u 7 = (.pointer (some ⟨g, 2, none⟩)) := hC.at 7 (by kernel_rfl)
      clear hC
      have hcl : wx.cell? ⟨g, 2, none⟩ = some (.int .i64 n) := (hg.cell (p := ⟨g, 2, none⟩) HGL.out).trans HC2.out
      refine wpOp_step rfl (fun K hK => ?_)
      simp only [puts, List.foldl]
      go_simp
      exact hK _ _ ⟨rfl, rfl, hg, Below.refl _ _⟩
    case As9 =>
      intro _
      intro u wx hg hC
      clear hC
      refine wpOp_step rfl (fun K hK => ?_)
      simp only [puts, List.foldl]
      go_simp
      exact hK _ _ ⟨rfl, rfl, hg, Below.refl _ _⟩
    case As10 =>
      intro _
      intro u wx hg hC
      have hJ9 : u 9 = (.slice (some ⟨g, 0, none⟩) 4 cap) := hC.at 9 (by kernel_rfl)
      clear hC
      refine wpOp_step rfl (fun K hK => ?_)
      simp only [puts, List.foldl]
      go_simp
      exact hK _ _ ⟨rfl, rfl, hg, Below.refl _ _⟩
    case As11 =>
      intro _
      intro u wx hg hC
      have hJ10 : u 10 = (.pointer (some ⟨g, 3, none⟩)) := hC.at 10 (by kernel_rfl)
      clear hC
      have hcl : wx.cell? ⟨g, 3, none⟩ = some (.int .i64 v) := (hg.cell (p := ⟨g, 3, none⟩) HGL.out).trans HC3.out
      refine wpOp_step rfl (fun K hK => ?_)
      simp only [puts, List.foldl]
      go_simp
      exact hK _ _ ⟨rfl, rfl, hg, Below.refl _ _⟩
    case As12 =>
      intro _
      intro u wx hg hC
      have hJ2 : u 2 = (.int .i64 k) := hC.at 2 (by kernel_rfl)
      have hJ5 : u 5 = (.int .i64 sl) := hC.at 5 (by kernel_rfl)
      have hJ8 : u 8 = (.int .i64 n) := hC.at 8 (by kernel_rfl)
      have hJ11 : u 11 = (.int .i64 v) := hC.at 11 (by kernel_rfl)
      clear hC
      generalize hA : puts [(0, 17), (1, 18), (2, 19), (3, 20), (4, 21), (5, 22), (6, 23), (7, 24), (8, 25), (9, 26), (10, 27), (11, 28), (12, 29), (13, 6)] _ u = A
      have q0 : A.tmps.getD 19 undef = (.int .i64 k) := by rw [← hA]; exact (puts_get u 2 19 _ _ (by decide) (by decide) (by kernel_rfl)).trans hJ2
      have q1 : A.tmps.getD 22 undef = (.int .i64 sl) := by rw [← hA]; exact (puts_get u 5 22 _ _ (by decide) (by decide) (by kernel_rfl)).trans hJ5
      have q2 : A.tmps.getD 25 undef = (.int .i64 n) := by rw [← hA]; exact (puts_get u 8 25 _ _ (by decide) (by decide) (by kernel_rfl)).trans hJ8
      have q3 : A.tmps.getD 28 undef = (.int .i64 v) := by rw [← hA]; exact (puts_get u 11 28 _ _ (by decide) (by decide) (by kernel_rfl)).trans hJ11
      have hsz : 29 < A.tmps.size := by rw [← hA]; exact puts_room u (by kernel_rfl)
      refine wpOp_step rfl (fun K hK => ?_)
      clear hA
      exact opBuildK (φ := Is (.agg (rcv k sl n v).toArray)) _ _ _ (built_rrec k sl n v) 29 rfl hsz hK _ rfl (by rw [Array.toList_map]; show [(0, A.tmps.getD 19 undef), (1, A.tmps.getD 22 undef), (2, A.tmps.getD 25 undef), (3, A.tmps.getD 28 undef)] = _; rw [q0, q1, q2, q3]) rfl hg
    case As13 =>
      intro _
      intro u wx hg hC
      clear hC
      generalize hA : puts [(0, 17), (1, 18), (2, 19), (3, 20), (4, 21), (5, 22), (6, 23), (7, 24), (8, 25), (9, 26), (10, 27), (11, 28), (12, 29), (13, 6)] _ u = A
      have hsz : 6 < A.tmps.size := by rw [← hA]; exact puts_room u (by kernel_rfl)
      refine wpOp_step rfl (fun K hK => ?_)
      clear hA
      exact opAllocK (φ := Nb u2 47 (rcv 0 0 0 0)) ((rcv 0 0 0 0)) _ (zero_rrec) 6 rfl hsz hK rfl fun w' hr hb => ⟨⟨_, rfl, hg.size, hr⟩, hg.next hb⟩
  case stepXA =>
    refine List.forall_mem_cons.2 ⟨?Ax0, List.forall_mem_cons.2 ⟨?Ax1, List.forall_mem_cons.2 ⟨?Ax2, List.forall_mem_cons.2 ⟨?Ax3, List.forall_mem_cons.2 ⟨?Ax4, List.forall_mem_cons.2 ⟨?Ax5, List.forall_mem_cons.2 ⟨?Ax6, List.forall_mem_cons.2 ⟨?Ax7, List.forall_mem_cons.2 ⟨?Ax8, List.forall_mem_cons.2 ⟨?Ax9, List.forall_mem_cons.2 ⟨?Ax10, List.forall_mem_cons.2 ⟨?Ax11, List.forall_mem_cons.2 ⟨?Ax12, List.forall_mem_cons.2 ⟨?Ax13, List.forall_mem_nil _⟩⟩⟩⟩⟩⟩⟩⟩⟩⟩⟩⟩⟩⟩
    case Ax0 =>
      intro hx; exact absurd hx (by decide)
    case Ax1 =>
      intro hx; exact absurd hx (by decide)
    case Ax2 =>
      intro hx; exact absurd hx (by decide)
    case Ax3 =>
      intro hx; exact absurd hx (by decide)
    case Ax4 =>
      intro hx; exact absurd hx (by decide)
    case Ax5 =>
      intro hx; exact absurd hx (by decide)
    case Ax6 =>
      intro hx; exact absurd hx (by decide)
    case Ax7 =>
      intro hx; exact absurd hx (by decide)
    case Ax8 =>
      intro hx; exact absurd hx (by decide)
    case Ax9 =>
      intro hx; exact absurd hx (by decide)
    case Ax10 =>
      intro hx; exact absurd hx (by decide)
    case Ax11 =>
      intro hx; exact absurd hx (by decide)
    case Ax12 =>
      intro hx; exact absurd hx (by decide)
    case Ax13 =>
      intro hx; exact absurd hx (by decide)
  case stepSA =>
    intro u wx hg hC
    have hJ12 : u 12 = .agg (rcv k sl n v).toArray := hC (12, 29) (by decide) (by decide)
    obtain ⟨g2, hJ13, hge, hr13⟩ : Nb u2 47 (rcv 0 0 0 0) (u 13) wx := hC (13, 6) (by decide) (by decide)
    clear hC
    generalize hA : puts [(0, 17), (1, 18), (2, 19), (3, 20), (4, 21), (5, 22), (6, 23), (7, 24), (8, 25), (9, 26), (10, 27), (11, 28), (12, 29), (13, 6)] _ u = A
    have hp : A.tmps.getD 6 undef = .pointer (some ⟨g2, 0, none⟩) := by rw [← hA]; exact (puts_get u 13 6 _ _ (by decide) (by decide) (by kernel_rfl)).trans hJ13
    have hq : A.tmps.getD 29 undef = .agg (rcv k sl n v).toArray := by rw [← hA]; exact (puts_get u 12 29 _ _ (by decide) (by decide) (by kernel_rfl)).trans hJ12
    refine wpOp_step rfl (fun K hK => ?_)
    clear hA
    exact opStoreK (H := fun w' => ∃ g2, u 13 = .pointer (some ⟨g2, 0, none⟩) ∧ Row w' g2 47 (rcv k sl n v) ∧ Below u2.heap.size u2 w') hr13 _ (rcv k sl n v) fits_rrec rfl rfl rfl hK (.tmp 6) (.tmp 29) rfl hp hq fun w' h1 h2 h3 => ⟨g2, hJ13, h1, hg.trans (h2.below hge hg.size)⟩
  case finA =>
    intro u ux hh hφ
    obtain ⟨g2, hJ13, rx, bx⟩ := hh
    clear hφ
    simp only [puts, List.foldl]
    rw [hJ13]
    clear hJ13
    go_simp
    have K3 := Lib.hid rx
    have R3 := Lib.hid (R2.out.step bx)
    have B3 : Hid (Below w.heap.size w ux) := Lib.hid (B2.out.next bx)
    clear rx bx
    rcases HCS.out with ⟨rfl, rfl, rfl, rfl⟩ | ⟨rfl, rfl, rfl⟩ | ⟨rfl, hne2, rfl, rfl⟩
    · have heq : (T.toList == T.toList) = true := beq_self_eq_true _
      have HQ := Lib.hid (HP.out rfl)
      clear HP
      go_wp2_with (first
          | ((with_reducible refine K3.out.wpLoadK 47 fits_rrec rfl ?_ ?_); rfl)
          | (go_at_call 20; (with_reducible refine (HRT.out ux).mono ?_); rintro e u4 ⟨rfl, b4⟩; have K4 := Lib.hid (K3.out.step b4); have R4 := Lib.hid (R3.out.step b4); have B4 : Hid (Below w.heap.size w u4) := Lib.hid (B3.out.next b4); clear b4)
          | ((with_reducible refine K4.out.wpLoadG 47 fits_rrec rfl ?_ ?_); rfl)
          | (go_at_call 43; (with_reducible refine (HQ.out u4).mono ?_); rintro e u5 ⟨rfl, b5⟩; have K5 := Lib.hid (K4.out.step b5); have R5 := Lib.hid (R4.out.step b5); have B5 : Hid (Below w.heap.size w u5) := Lib.hid (B4.out.next b5); clear b5)
          | ((with_reducible refine K5.out.wpLoadK 47 fits_rrec rfl ?_ ?_); rfl)
          | ((with_reducible refine R5.out.wpStoreK 47 (rcv k sl n v) fits_rrec rfl rfl rfl ?_ ?_); rfl; intro u6 r6 o6 s6; have R6 := Lib.hid r6; have B6 : Hid (Below w.heap.size w u6) := Lib.hid (B5.out.trans (o6.below (Nat.le_refl _) B5.out.size)); clear r6 o6 s6))
      exact bodyPost_ret (R6.out.resultT rfl _ _ rfl Tryz.underlying47 rfl fits_rrec.size) rfl ⟨rfl, B6.out⟩
    · skip
      go_wp2_with (first
          | ((with_reducible refine K3.out.wpLoadK 47 fits_rrec rfl ?_ ?_); rfl)
          | (go_at_call 20; (with_reducible refine (HRT.out ux).mono ?_); rintro e u4 ⟨rfl, b4⟩; have K4 := Lib.hid (K3.out.step b4); have R4 := Lib.hid (R3.out.step b4); have B4 : Hid (Below w.heap.size w u4) := Lib.hid (B3.out.next b4); clear b4)
          | ((with_reducible refine wpBuildZeroK (rcv 0 0 0 0) 47 HB0.out ?_ ?_); rfl)
          | ((with_reducible refine R4.out.wpStoreK 47 (rcv 0 0 0 0) fits_rrec rfl rfl rfl ?_ ?_); rfl; intro u6 r6 o6 s6; have R6 := Lib.hid r6; have B6 : Hid (Below w.heap.size w u6) := Lib.hid (B4.out.trans (o6.below (Nat.le_refl _) B4.out.size)); clear r6 o6 s6))
      exact bodyPost_ret (R6.out.resultT rfl _ _ rfl Tryz.underlying47 rfl fits_rrec.size) rfl ⟨rfl, B6.out⟩
    · have heq : (T.toList == s.toList) = false := beq_no hne2
      have HQ := Lib.hid (HP.out rfl)
      clear HP
      go_wp2_with (first
          | ((with_reducible refine K3.out.wpLoadK 47 fits_rrec rfl ?_ ?_); rfl)
          | (go_at_call 20; (with_reducible refine (HRT.out ux).mono ?_); rintro e u4 ⟨rfl, b4⟩; have K4 := Lib.hid (K3.out.step b4); have R4 := Lib.hid (R3.out.step b4); have B4 : Hid (Below w.heap.size w u4) := Lib.hid (B3.out.next b4); clear b4)
          | ((with_reducible refine K4.out.wpLoadG 47 fits_rrec rfl ?_ ?_); rfl)
          | (go_at_call 43; (with_reducible refine (HQ.out u4).mono ?_); rintro e u5 ⟨rfl, b5⟩; have K5 := Lib.hid (K4.out.step b5); have R5 := Lib.hid (R4.out.step b5); have B5 : Hid (Below w.heap.size w u5) := Lib.hid (B4.out.next b5); clear b5)
          | ((with_reducible refine wpBuildZeroK (rcv 0 0 0 0) 47 HB0.out ?_ ?_); rfl)
          | ((with_reducible refine R5.out.wpStoreK 47 (rcv 0 0 0 0) fits_rrec rfl rfl rfl ?_ ?_); rfl; intro u6 r6 o6 s6; have R6 := Lib.hid r6; have B6 : Hid (Below w.heap.size w u6) := Lib.hid (B5.out.trans (o6.below (Nat.le_refl _) B5.out.size)); clear r6 o6 s6))
      exact bodyPost_ret (R6.out.resultT rfl _ _ rfl Tryz.underlying47 rfl fits_rrec.size) rfl ⟨rfl, B6.out⟩

theorem rref_get_any (s : ByteArray) (w : World) :
    Calls Tryz.prog 14 #[.string s] w fun e w' => e = .returned (.tuple #[.agg (getV s.data.toList).toArray, .bool (isP s.data.toList)]) ∧ Below w.heap.size w w' := by
  by_cases h16 : s.size = 16
  · obtain ⟨L, hL⟩ : ∃ L, s.data.toList = L := ⟨_, rfl⟩
    refine rref_get_core s (str (pageB (pK L) (pS L) (pN L) (pV L))) (pK L) (pS L) (pN L) (pV L) _ w h16 (by rw [hL]) (by rw [hL]) (by rw [hL]) (by rw [hL]) rfl (fun ho u => rref_put_any _ _ _ _ u ho) _ _ ?_
    rw [hL]
    have hs : s = str L := by rw [← hL, str_of]
    have hl : L.length = 16 := by rw [← hL, size_list, h16]
    cases hr : rOk (pK L) (pS L) (pN L) (pV L) with
    | true =>
      cases h : isP L with
      | true => exact .inl ⟨rfl, by rw [(isP_is h).2.2, hs], by unfold getV; rw [h, if_pos rfl], rfl⟩
      | false =>
        refine .inr (.inr ⟨rfl, fun e => ?_, by unfold getV; rw [h, if_neg (by decide)], rfl⟩)
        have e2 := str_inj (e.trans hs)
        have h2 := page_is hr
        rw [e2, h] at h2
        cases h2
    | false =>
      have hno : isP L = false := by
        cases h : isP L with
        | false => rfl
        | true => have := (isP_is h).2.1; rw [hr] at this; cases this
      rw [hno]
      exact .inr (.inl ⟨rfl, by unfold getV; rw [hno, if_neg (by decide)], rfl⟩)
  · have hno : isP s.data.toList = false := by
      cases h : isP s.data.toList with
      | false => rfl
      | true => have := (isP_is h).1; rw [size_list] at this; omega
    unfold getV
    rw [hno, if_neg (by decide)]
    exact rref_get_len s w h16
end Go.Proofs.YtbnjenbhpaknbaaGreat

/- Arrays of numbers, held against one another. -/
namespace Go.Proofs.YtbnjenbhpaknbaaGreat
section
variable {P : Program}
theorem run_part_int {e : TypeId} (hg : ∀ w, (isAgg e).run P w = .ok false w) (xs : Array Value) (i : Nat) (v : Value) (h : xs[i]? = some v) (w : World) : (part e xs i).run P w = .ok v w := by
  simp [part, hg, h]
/-- An array's element, the array at hand as a value. -/
theorem run_index_array (t e : TypeId) (n : Nat) (k : IntKind) (cs : Array Value) (j : Nat) (v : Value) (w : World) (ht : P.underlying t = some (.array n e))
    (hs : ∀ w, (sizeOf e).run P w = .ok 1 w) (hg : ∀ w, (isAgg e).run P w = .ok false w) (hj : j < n) (h : cs[j]? = some v) :
    (Instr.index t (.agg cs) (.int k (j : Int))).run P w = .ok v w := by
  have h1 : (0 : Int) ≤ (j : Int) ∧ (j : Int) < (n : Int) := ⟨by omega, by omega⟩
  simp only [Instr.index, asIntOf, Sem.run_bind, Sem.run_pure, Result.andThen_ok, run_underlying ht, if_pos h1, hs, Int.toNat_natCast, Nat.mul_one]
  exact run_part_int hg cs j v h w
theorem run_equal_ints (D : Nat) (t e : TypeId) (n : Nat) (k : IntKind) (xs ys : List Int) (w : World) (ht : P.underlying t = some (.array n e)) (he : P.underlying e = some (.int k)) 
   (hs : ∀ w, (sizeOf e).run P w = .ok 1 w) (hg : ∀ w, (isAgg e).run P w = .ok false w) (hx : xs.length = n) (hy : ys.length = n) :
    (Op.equalIn (D + 2) t (.agg (xs.map (Value.int k)).toArray) (.agg (ys.map (Value.int k)).toArray)).run P w = .ok (decide (xs = ys)) w := by
  obtain ⟨E, hE⟩ : ∃ E, D + 1 = E := ⟨_, rfl⟩
  have hstep : ∀ (a b : Int) (w : World), (Op.equalIn E e (.int k a) (.int k b)).run P w = .ok (a == b) w := fun a b w => by
    rw [← hE]; exact run_equalIn_int w D e k k a b he
  rw [show D + 2 = E + 1 by omega]
  simp only [Op.equalIn, Sem.run_bind, run_underlying ht, Result.andThen_ok, hs, Nat.mul_one]
  rw [Std.Legacy.Range.forIn_eq_forIn_range']
  have key : ∀ (m i : Nat), i + m = n → xs.take i = ys.take i → ∀ w,
     ((forIn (List.range' i m 1) ((none : Option Bool), ()) fun (j : Nat) (_ : Option Bool × Unit) => do
        if (!(← Op.equalIn E e (← part e (List.map (Value.int k) xs).toArray j) (← part e (List.map (Value.int k) ys).toArray j))) = true then pure (ForInStep.done (some false, ())) else pure (ForInStep.yield ((none : Option Bool), ())) : Sem (Option Bool × Unit))).run P w = .ok (if xs = ys then none else some false, ()) w := by
    intro m
    induction m with
    | zero =>
      intro i hi hp w
      have e : xs = ys := by rwa [List.take_of_length_le (by omega), List.take_of_length_le (by omega)] at hp
      rw [if_pos e]
      simp
    | succ m ih =>
      intro i hi hp w
      have h1 : i < xs.length := by omega
      have h2 : i < ys.length := by omega
      have p1 := run_part_int (P := P) hg (List.map (Value.int k) xs).toArray i (.int k xs[i]) (by simp [h1])
      have p2 := run_part_int (P := P) hg (List.map (Value.int k) ys).toArray i (.int k ys[i]) (by simp [h2])
      rw [List.range'_succ, List.forIn_cons]
      simp only [Sem.run_bind, p1, p2, hstep, Result.andThen_ok]
      by_cases e : xs[i] = ys[i]
      · have eb : (xs[i] == ys[i]) = true := by simpa using e
        simp only [eb, Bool.not_true, Bool.false_eq_true, if_false, Sem.run_pure, Result.andThen_ok]
        exact ih (i + 1) (by omega) (by rw [List.take_succ_eq_append_getElem h1, List.take_succ_eq_append_getElem h2, hp, e]) w
      · have eb : (xs[i] == ys[i]) = false := by simpa using e
        have hne : ¬ xs = ys := fun h => e (by simp [h])
        simp only [eb, Bool.not_false, if_true, Sem.run_pure, Result.andThen_ok, if_neg hne]
  have hsz : [:n].size = n := by simp [Std.Legacy.Range.size]
  rw [hsz]
  have k0 := key n 0 (by omega) rfl w
  refine (congrArg (fun r => Result.andThen r _) k0).trans ?_
  by_cases e : xs = ys
  · simp [e]
  · simp [e]
end
end Go.Proofs.YtbnjenbhpaknbaaGreat

/- RecordPuts (gen_rec_i.py). -/
namespace Go.Proofs.YtbnjenbhpaknbaaGreat
open Go.RowKit CrcMath NumMath
set_option linter.unusedVariables false
set_option maxRecDepth 100000

/-- A summer's table, in a block. -/
structure TabAt (w : World) (b : Nat) : Prop where
  lt : b < w.heap.size
  tab : Tab w b 0
theorem TabAt.step {w w' : World} {b : Nat} (h : TabAt w b) (hb : Below w.heap.size w w') : TabAt w' b := ⟨Nat.lt_of_lt_of_le h.lt hb.size, h.tab.below hb h.lt⟩
theorem TabAt.only {w w' : World} {b g : Nat} (h : TabAt w b) (ho : Only g w w') (hne : b ≠ g) : TabAt w' b := by
  refine ⟨Nat.lt_of_lt_of_le h.lt ho.size, fun j hj => ?_⟩
  have h1 := h.tab j hj
  have h2 : w'.heap[b]? = w.heap[b]? := ho.2.2.2.2 b h.lt hne
  simp only [World.cell?, h2] at h1 ⊢
  exact h1
theorem tab_new (w : World) : Calls Tryz.prog 48 #[] w fun e w' => ∃ b, e = .returned (.pointer (some ⟨b, 0, none⟩)) ∧ TabAt w' b ∧ Below w.heap.size w w' :=
  (crc_new_any w).mono fun e w' ⟨b, h1, h2, h3, h4⟩ => ⟨b, h1, ⟨h2, h3⟩, h4⟩
theorem rec_iagg : ∀ w : World, (isAgg 3).run Tryz.prog w = .ok false w := fun w => Tryz.isAgg3 w
theorem four_fields {l : List Field} (h : l.map (fun f => (f.name, f.type, f.offset)) = [("Kind", 3, 0), ("Slot", 3, 1), ("No", 3, 2), ("Value", 3, 3)]) : ∃ f0 f1 f2 f3 : Field, l = [f0, f1, f2, f3] ∧ (f0.name ≠ "_" ∧ f1.name ≠ "_" ∧ f2.name ≠ "_" ∧ f3.name ≠ "_") ∧ (f0.type = 3 ∧ f1.type = 3 ∧ f2.type = 3 ∧ f3.type = 3) ∧ f0.offset = 0 ∧ f1.offset = 1 ∧ f2.offset = 2 ∧ f3.offset = 3 := by
  have hl : l.length = 4 := by simpa using congrArg List.length h
  match l, hl, h with
  | [f0, f1, f2, f3], _, h =>
    simp only [List.map_cons, List.map_nil, List.cons.injEq, Prod.mk.injEq, and_true] at h
    obtain ⟨⟨a1, a2, a3⟩, ⟨b1, b2, b3⟩, ⟨c1, c2, c3⟩, d1, d2, d3⟩ := h
    exact ⟨f0, f1, f2, f3, rfl, ⟨by rw [a1]; simp, by rw [b1]; simp, by rw [c1]; simp, by rw [d1]; simp⟩, ⟨a2, b2, c2, d2⟩, a3, b3, c3, d3⟩
theorem four_ints (t : TypeId) (hst : Tryz.prog.underlying t = some (.struct (Tryz.prog.fieldsOf t))) (hp : Tryz.prog.stoodInHeld t = false) (h : (Tryz.prog.fieldsOf t).toList.map (fun f => (f.name, f.type, f.offset)) = [("Kind", 3, 0), ("Slot", 3, 1), ("No", 3, 2), ("Value", 3, 3)])
    (a b c d a' b' c' d' : Int) (u : World) : (Op.equalIn 10000 t (.agg (rcv a b c d).toArray) (.agg (rcv a' b' c' d').toArray)).run Tryz.prog u = .ok (decide (a = a' ∧ b = b' ∧ c = c' ∧ d = d')) u := by
  refine (run_equalIn_struct u 9999 t _ _ hst hp).trans ?_
  obtain ⟨f0, f1, f2, f3, hf, ⟨n0, n1, n2, n3⟩, ⟨t0, t1, t2, t3⟩, o0, o1, o2, o3⟩ := four_fields h
  rw [hf]
  have p0 : ∀ k s n v : Int, (part 3 (rcv k s n v).toArray 0).run Tryz.prog u = .ok (.int .i64 k) u := fun k s n v => run_part_int rec_iagg _ 0 _ (by rfl) u
  have p1 : ∀ k s n v : Int, (part 3 (rcv k s n v).toArray 1).run Tryz.prog u = .ok (.int .i64 s) u := fun k s n v => run_part_int rec_iagg _ 1 _ (by rfl) u
  have p2 : ∀ k s n v : Int, (part 3 (rcv k s n v).toArray 2).run Tryz.prog u = .ok (.int .i64 n) u := fun k s n v => run_part_int rec_iagg _ 2 _ (by rfl) u
  have p3 : ∀ k s n v : Int, (part 3 (rcv k s n v).toArray 3).run Tryz.prog u = .ok (.int .i64 v) u := fun k s n v => run_part_int rec_iagg _ 3 _ (by rfl) u
  have e0 : ∀ x y : Int, (Op.equalIn 9999 3 (.int .i64 x) (.int .i64 y)).run Tryz.prog u = .ok (x == y) u := fun x y => run_equalIn_int u 9998 3 .i64 .i64 x y Tryz.underlying3
  generalize 9999 = D at *
  simp only [Op.eqFields, n0, n1, n2, n3, ne_eq, not_false_eq_true, if_true, t0, t1, t2, t3, o0, o1, o2, o3, Sem.run_bind, p0, Result.andThen_ok, e0]
  by_cases h0 : a = a'
  · by_cases h1 : b = b'
    · by_cases h2 : c = c'
      · by_cases h3 : d = d' <;> simp [h0, h1, h2, h3, p1, p2, p3, e0]
      · simp [h0, h1, h2, p1, p2, e0]
    · simp [h0, h1, p1, e0]
  · simp [h0]
theorem eq_rec_any (a b c d a' b' c' d' : Int) (r : Bool) (h : decide (a = a' ∧ b = b' ∧ c = c' ∧ d = d') = r) (u : World) : (Op.equalIn 10000 36 (.agg (rcv a b c d).toArray) (.agg (rcv a' b' c' d').toArray)).run Tryz.prog u = .ok r u := by
  rw [← h]
  exact four_ints 36 (by kernel_rfl) (by kernel_rfl) (by kernel_rfl) a b c d a' b' c' d' u
theorem eq_rrec_any (a b c d a' b' c' d' : Int) (r : Bool) (h : decide (a = a' ∧ b = b' ∧ c = c' ∧ d = d') = r) (u : World) : (Op.equalIn 10000 47 (.agg (rcv a b c d).toArray) (.agg (rcv a' b' c' d').toArray)).run Tryz.prog u = .ok r u := by
  rw [← h]
  exact four_ints 47 (by kernel_rfl) (by kernel_rfl) (by kernel_rfl) a b c d a' b' c' d' u

theorem getV_form (L : List UInt8) : ∃ a b c d, getV L = rcv a b c d := by
  unfold getV
  split
  · exact ⟨_, _, _, _, rfl⟩
  · exact ⟨_, _, _, _, rfl⟩
theorem page_blank {k s n v : Int} (h : pageB k s n v = List.replicate 16 255) : False := by
  have := (page_noughts k s n v).1
  rw [h] at this
  exact absurd this (by decide)

end Go.Proofs.YtbnjenbhpaknbaaGreat

/- append(nil, make([]T, n)...), as slices.Grow has it: a new block of one's own with room for n. -/
namespace Go.Proofs.YtbnjenbhpaknbaaGreat
open Go.RowKit
section
variable {P : Program}
theorem run_append_made (w : World) (t u ty e : TypeId) (i : TypeInfo) (z : Value) (k : IntKind) (ht : P.underlying t = some (.slice e)) (hu : P.underlying u = some (.int k)) (hi : P.info? e = some i) (hz : i.zero = some z) (hs : i.size = 1)
    (n : Nat) (h0 : 0 < n) (hn : n ≤ 1099511627776) (hb : i.bytes ≤ 64) :
    (Builtin.append_ #[t, u] ty #[.slice none 0 0, .int .i64 (n : Int)]).run P w =
      .ok (.slice (some ⟨w.heap.size, 0, none⟩) n (grownCap w n 0 e)) (w.drew.alloc (.cells (Builtin.zeroCells z.cells n ++ Builtin.zeroCells z.cells (grownCap w n 0 e - n)) e)) := by
  have hn0 : n ≠ 0 := by omega
  have hw : IntKind.i64.wrap (n : Int) = (n : Int) := by rw [IntKind.wrap_i64]; omega
  have hpos : ¬ (n : Int) < 0 := by omega
  have h63' : ¬ (9223372036854775807 < (n : Int)) := by omega
  have hb1 : n * i.bytes ≤ 1099511627776 * 64 := Nat.mul_le_mul hn hb
  have hb2 : ¬ (281474976710656 < (n : Int) * (i.bytes : Int)) := by
    have : ((n * i.bytes : Nat) : Int) ≤ 281474976710656 := by omega
    rw [Int.natCast_mul] at this
    omega
  have h48' : ¬ (281474976710656 < Builtin.nextslicecap n 0 * i.bytes) := by rw [nextslicecap_zero h0]; omega
  simp [Builtin.append_, run_underlying ht, run_underlying hu, asInt, asIntOf, sizeOf, typeInfo, zeroValue, hi, hz, hs, hw, hpos, hb2, Builtin.lenOf, hn0, h63', h48', Question.forced, run_firstCells_none, newRow, grownCap]

def appendMadeOf (o : Oper) (a : Act) : Option (TypeId × TypeId × Value × Value) :=
  match o.guard, o.op with
  | none, .call c => match c.callee, c.args.toList, c.argTypes.toList with
    | .builtin .append, [x, y], [t, t'] => some (t, t', a.eval x, a.eval y)
    | _, _, _ => none
  | _, _ => none
/-- append(nil, make([]T, n)...). -/
theorem wpAppendMadeK {ops : Array Oper} {rest : List Oper} {o : Oper} {a : Act} {w : World} {Q : Exit → Act → World → Prop} {n : Nat} {T U e : TypeId} (k : IntKind)
    (hT : P.underlying T = some (.slice e)) (hU : P.underlying U = some (.int k)) (he : One P e) (h0 : 0 < n) (hn : n ≤ 1099511627776)
    (ho : appendOf o a = some (T, U, .slice none 0 0, .int .i64 (n : Int)))
    (kk : ∀ c w', n ≤ c → w'.ownsRow w.heap.size e 1 (.slice (some ⟨w.heap.size, 0, none⟩) 0 c) 0 [] → Below w.heap.size w w' → wpList P ops Q rest (a.put o.dst (.slice (some ⟨w.heap.size, 0, none⟩) n c)) w') : wpList P ops Q (o :: rest) a w := by
  obtain ⟨hg, x, y, hop, hx, hy⟩ := appendOf_spec ho
  obtain ⟨i, z, hi, hz, h2, h3, h4⟩ := he.row
  refine wpList_plain hg fun K hK => ?_
  have hr := run_append_made (P := P) w T U o.type e i z k hT hU hi hz h2 n h0 hn h4
  unfold Oper.wp execOp
  simp only [hop, resolve, invoke, builtin, Sem.run_bind, Sem.run_pure, Result.andThen_ok, List.map_toArray, List.map_cons, List.map_nil, hx, hy, hr]
  have hge := grownCap_ge w n 0 e
  have hm : n ≤ maxLen := by unfold maxLen; omega
  have hle := grownCap_le_maxLen w n 0 e hm
  refine hK _ _ (kk _ _ hge ⟨by simp, .inr ⟨w.heap.size, _, _, rfl, Nat.le_refl _, heap_alloc_new w.drew _, Nat.zero_le _, hle, ?_, by simp⟩⟩ (((Below.refl _ _).drew).alloc (Nat.le_refl _) _))
  rw [Array.size_append, size_zeroCells, size_zeroCells, h3]
  omega
end
end Go.Proofs.YtbnjenbhpaknbaaGreat

/- append onto a slice of one's own, of elements of more than one cell. -/
namespace Go.Proofs.YtbnjenbhpaknbaaGreat
open Go.RowKit

/-- A type of s cells, of some bytes. -/
structure Many (P : Program) (e : TypeId) (s : Nat) : Prop where
  row : ∃ i z, P.info? e = some i ∧ i.zero = some z ∧ i.size = s ∧ z.cells.size = s ∧ i.bytes ≤ 64
theorem Many.of {P : Program} {e : TypeId} {s : Nat} (h : ((P.info? e).map fun i => (i.zero.map fun z => z.cells.size) == some s && i.size == s && decide (i.bytes ≤ 64)) = some true) : Many P e s := by
  generalize hq : P.info? e = q at h
  match q with
  | none => cases h
  | some i =>
    simp only [Option.map_some, Option.some.injEq, Bool.and_eq_true, beq_iff_eq, decide_eq_true_eq] at h
    obtain ⟨⟨h1, h2⟩, h3⟩ := h
    generalize hz : i.zero = zz at h1
    match zz with
    | none => cases h1
    | some z =>
      simp only [Option.map_some, Option.some.injEq] at h1
      exact ⟨i, z, hq, hz, h2, h1, h3⟩
section
variable {P : Program}
/-- append(v, l...): v a slice of one's own, l what lies at an address: m elements of s cells. -/
theorem wpAppendM {ops : Array Oper} {rest : List Oper} {o : Oper} {a : Act} {w : World} {Q : Exit → Act → World → Prop} {base n m s : Nat} {T e : TypeId} {v : Value} {xs news : List Value} {p : Option Addr} (c : Nat)
    (hown : w.ownsRow base e s v n xs) (hT : P.underlying T = some (.slice e)) (he : Many P e s) (hs : Lies w w.heap.size p news) (hl : news.length = m * s) (hm : 0 < m) (hs0 : 0 < s) (h1 : news.all (·.oneCell') = true) (hn : Big (n + m ≤ 1099511627776)) (hbase : base ≤ w.heap.size)
    (ho : appendOf o a = some (T, T, v, .slice p m c))
    (k : ∀ v' w', w'.ownsRow base e s v' (n + m) (xs ++ news) → w.grownBy w' v.ownBlock → (v'.ownBlock = v.ownBlock ∨ v'.ownBlock = some w.heap.size) → wpList P ops Q rest (a.put o.dst v') w') : wpList P ops Q (o :: rest) a w := by
  obtain ⟨hg, x, y, hop, hx, hy⟩ := appendOf_spec ho
  obtain ⟨i, z, hi, hz, h2, h3, h4⟩ := he.row
  obtain ⟨b, off, rfl, hb, hc⟩ := hs (by rw [hl]; exact Nat.mul_pos hm hs0)
  refine wpList_append_own_at w hg x y T hop base e i z s i.bytes hT hi hz h2 rfl h3 hs0 v n xs hx hown ⟨b, off, none⟩ m c news hy hl ?_ (fun u hu => (List.all_eq_true.1 h1) u hu) ?_ ?_ hbase fun v' w' g1 g2 _ g4 => k v' w' g1 g2 g4
  · intro j u hj
    rw [Addr.add_mid]
    exact hc j u hj
  · have := hn.out; unfold maxLen; omega
  · exact Nat.le_trans (Nat.mul_le_mul hn.out h4) (by omega)
end
/-- A block of one's own as a slice that may be appended to. -/
theorem Row.ownsM {w : World} {g base n cap s : Nat} {e : TypeId} {xs ys : List Value} (h : Row w g e (xs ++ ys)) (hb : base ≤ g) (hx : xs.length = n * s) (hy : ys.length = (cap - n) * s) (hn : n ≤ cap) (hcap : cap ≤ maxLen) : w.ownsRow base e s (.slice (some ⟨g, 0, none⟩) n cap) n xs :=
  ⟨hx, .inr ⟨g, cap, _, rfl, hb, h, hn, hcap, by simp [hx, hy, ← Nat.add_mul]; rw [show n + (cap - n) = cap from by omega], by simp [← hx]⟩⟩
/-- What a slice of one's own holds. -/
theorem own_formM {w : World} {base s : Nat} {v : Value} {n : Nat} {xs : List Value} {e : TypeId} (h : w.ownsRow base e s v n xs) :
    ∃ a cap, v = .slice a n cap ∧ Lies w w.heap.size a xs := by
  rcases h.2 with ⟨rfl, rfl⟩ | ⟨g, cap, cur, rfl, hb, hh, hr⟩
  · exact ⟨none, 0, rfl, fun h0 => by have := h.1; omega⟩
  · refine ⟨some ⟨g, 0, none⟩, cap, rfl, fun _ => ⟨g, 0, rfl, (Array.getElem?_eq_some_iff.1 hh).1, fun j u hu => ?_⟩⟩
    have := h.cells (g := g) rfl j u hu
    rwa [Addr.add_lit] at this
end Go.Proofs.YtbnjenbhpaknbaaGreat

/- append(nil, make([]T, n)...), T of more than one cell. -/
namespace Go.Proofs.YtbnjenbhpaknbaaGreat
open Go.RowKit
section
variable {P : Program}
theorem run_append_madeM (w : World) (t u ty e : TypeId) (i : TypeInfo) (z : Value) (s : Nat) (k : IntKind) (ht : P.underlying t = some (.slice e)) (hu : P.underlying u = some (.int k)) (hi : P.info? e = some i) (hz : i.zero = some z) (hs : i.size = s)
    (n : Nat) (h0 : 0 < n) (hs0 : 0 < s) (hn : n ≤ 1099511627776) (hb : i.bytes ≤ 64) :
    (Builtin.append_ #[t, u] ty #[.slice none 0 0, .int .i64 (n : Int)]).run P w =
      .ok (.slice (some ⟨w.heap.size, 0, none⟩) n (grownCap w n 0 e)) (w.drew.alloc (.cells (Builtin.zeroCells z.cells n ++ Builtin.zeroCells z.cells (grownCap w n 0 e - n)) e)) := by
  have hn0 : n ≠ 0 := by omega
  have hns : n * s ≠ 0 := Nat.mul_ne_zero hn0 (by omega)
  have hw : IntKind.i64.wrap (n : Int) = (n : Int) := by rw [IntKind.wrap_i64]; omega
  have hpos : ¬ (n : Int) < 0 := by omega
  have h63' : ¬ (9223372036854775807 < (n : Int)) := by omega
  have hb1 : n * i.bytes ≤ 1099511627776 * 64 := Nat.mul_le_mul hn hb
  have hb2 : ¬ (281474976710656 < (n : Int) * (i.bytes : Int)) := by
    have : ((n * i.bytes : Nat) : Int) ≤ 281474976710656 := by omega
    rw [Int.natCast_mul] at this
    omega
  have h48' : ¬ (281474976710656 < Builtin.nextslicecap n 0 * i.bytes) := by rw [nextslicecap_zero h0]; omega
  simp [Builtin.append_, run_underlying ht, run_underlying hu, asInt, asIntOf, sizeOf, typeInfo, zeroValue, hi, hz, hs, hw, hpos, hb2, Builtin.lenOf, hn0, hns, h63', h48', Question.forced, run_firstCells_none, newRow, grownCap]
theorem wpAppendMadeM {ops : Array Oper} {rest : List Oper} {o : Oper} {a : Act} {w : World} {Q : Exit → Act → World → Prop} {n s : Nat} {T U e : TypeId} (k : IntKind)
    (hT : P.underlying T = some (.slice e)) (hU : P.underlying U = some (.int k)) (he : Many P e s) (h0 : 0 < n) (hs0 : 0 < s) (hn : n ≤ 1099511627776)
    (ho : appendOf o a = some (T, U, .slice none 0 0, .int .i64 (n : Int)))
    (kk : ∀ c w', n ≤ c → w'.ownsRow w.heap.size e s (.slice (some ⟨w.heap.size, 0, none⟩) 0 c) 0 [] → Below w.heap.size w w' → wpList P ops Q rest (a.put o.dst (.slice (some ⟨w.heap.size, 0, none⟩) n c)) w') : wpList P ops Q (o :: rest) a w := by
  obtain ⟨hg, x, y, hop, hx, hy⟩ := appendOf_spec ho
  obtain ⟨i, z, hi, hz, h2, h3, h4⟩ := he.row
  refine wpList_plain hg fun K hK => ?_
  have hr := run_append_madeM (P := P) w T U o.type e i z s k hT hU hi hz h2 n h0 hs0 hn h4
  unfold Oper.wp execOp
  simp only [hop, resolve, invoke, builtin, Sem.run_bind, Sem.run_pure, Result.andThen_ok, List.map_toArray, List.map_cons, List.map_nil, hx, hy, hr]
  have hge := grownCap_ge w n 0 e
  have hm : n ≤ maxLen := by unfold maxLen; omega
  have hle := grownCap_le_maxLen w n 0 e hm
  refine hK _ _ (kk _ _ hge ⟨by simp, .inr ⟨w.heap.size, _, _, rfl, Nat.le_refl _, heap_alloc_new w.drew _, Nat.zero_le _, hle, ?_, by simp⟩⟩ (((Below.refl _ _).drew).alloc (Nat.le_refl _) _))
  rw [Array.size_append, size_zeroCells, size_zeroCells, h3, ← Nat.add_mul]
  congr 1
  omega
end
end Go.Proofs.YtbnjenbhpaknbaaGreat

/- Geometries as numbers: no program in it. -/
namespace Go.Proofs.YtbnjenbhpaknbaaGreat.GeoMath
set_option linter.unusedVariables false

structure Gm where
  d : Int
  p : Int
  s : Int
structure Sp where
  n : Int
  lo : Int
  hi : Int
def Sp.ok (s : Sp) : Bool := !(decide (s.n < s.lo) || decide (s.hi < s.n))
def okAll (L : List Sp) : Bool := L.all Sp.ok
def right (g : Gm) : Bool := okAll [⟨g.d, 1, 8⟩, ⟨g.p, 2, 6⟩, ⟨g.s, 1, 8⟩]
structure Rt (g : Gm) : Prop where
  d1 : 1 ≤ g.d
  d8 : g.d ≤ 8
  p2 : 2 ≤ g.p
  p6 : g.p ≤ 6
  s1 : 1 ≤ g.s
  s8 : g.s ≤ 8
theorem ok_iff (s : Sp) : s.ok = true ↔ s.lo ≤ s.n ∧ s.n ≤ s.hi := by simp [Sp.ok]
theorem right_iff (g : Gm) : right g = true ↔ Rt g := by
  rw [right, okAll]
  simp only [List.all_cons, List.all_nil, Bool.and_true, Bool.and_eq_true, ok_iff]
  exact ⟨fun ⟨⟨a, b⟩, ⟨c, d⟩, e, f⟩ => ⟨a, b, c, d, e, f⟩, fun ⟨a, b, c, d, e, f⟩ => ⟨⟨a, b⟩, ⟨c, d⟩, e, f⟩⟩
def wide (g : Gm) : Int := if right g = true then g.d + g.p else 0
def slot (g : Gm) : Int := wide g * g.s
def log (g : Gm) : Int := 3 * slot g
def tal (g : Gm) : Int := log g + 16
def all (g : Gm) : Int := if right g = true then tal g + 2 else 0
def room (g : Gm) : Int := if right g = true then max 0 (60 * g.d * g.s - 48) else 0
def askF (g : Gm) (L : List Sp) : Int := if right g = true then (if okAll L = true then 0 else 2) else 1
theorem wide_yes {g : Gm} (h : right g = true) : wide g = g.d + g.p := if_pos h
theorem wide_no {g : Gm} (h : right g = false) : wide g = 0 := if_neg (by rw [h]; decide)
theorem slot_no {g : Gm} (h : right g = false) : slot g = 0 := by rw [slot, wide_no h, Int.zero_mul]
theorem wide_le (g : Gm) : 0 ≤ wide g ∧ wide g ≤ 14 := by
  cases h : right g with
  | false => rw [wide_no h]; decide
  | true =>
    have hr := (right_iff g).1 h
    rw [wide_yes h]
    have h1 := hr.d1; have h2 := hr.d8; have h3 := hr.p2; have h4 := hr.p6
    omega
theorem slot_le (g : Gm) : 0 ≤ slot g ∧ slot g ≤ 112 := by
  cases h : right g with
  | false => rw [slot_no h]; decide
  | true =>
    have hr := (right_iff g).1 h
    have hw := wide_le g
    have h1 := hr.s1
    have h8 := hr.s8
    rw [slot]
    refine ⟨Int.mul_nonneg hw.1 (by omega), ?_⟩
    have h2 : wide g * g.s ≤ 14 * g.s := Int.mul_le_mul_of_nonneg_right hw.2 (by omega)
    omega
/-- What is wrong with a place: 0 nothing, 1 the geometry, 2 the place. -/
def sectQ (g : Gm) (a b c : Int) : Int := askF g [⟨a, 0, 2⟩, ⟨b, 0, g.s - 1⟩, ⟨c, 0, wide g - 1⟩]
def sect (g : Gm) (a b c : Int) : Int := if sectQ g a b c = 0 then a * slot g + c * g.s + b else 0
def halfQ (g : Gm) (a b : Int) : Int := askF g [⟨a, 0, 1⟩, ⟨b, 0, 1⟩]
def half (g : Gm) (a b : Int) : Int := if halfQ g a b = 0 then log g + (a * 2 + b) * 4 else 0
def talQ (g : Gm) (a : Int) : Int := askF g [⟨a, 0, 1⟩]
def talA (g : Gm) (a : Int) : Int := if talQ g a = 0 then tal g + a else 0
def ofQ (g : Gm) (n : Int) : Int := askF g [⟨n, 0, log g - 1⟩]
theorem ask_cases (g : Gm) (L : List Sp) : (right g = false ∧ askF g L = 1) ∨ (right g = true ∧ okAll L = false ∧ askF g L = 2) ∨ (right g = true ∧ okAll L = true ∧ askF g L = 0) := by
  rw [askF]
  cases right g <;> cases okAll L <;> simp
theorem ask_wrap (g : Gm) (L M : List Sp) (h : right g = true → L = M) : askF g L = askF g M := by
  rw [askF, askF]
  cases hr : right g with
  | false => simp
  | true => rw [h hr]
theorem okAll3 (a b c : Sp) : okAll [a, b, c] = true ↔ (a.lo ≤ a.n ∧ a.n ≤ a.hi) ∧ (b.lo ≤ b.n ∧ b.n ≤ b.hi) ∧ (c.lo ≤ c.n ∧ c.n ≤ c.hi) := by
  simp [okAll, ok_iff]
theorem okAll2 (a b : Sp) : okAll [a, b] = true ↔ (a.lo ≤ a.n ∧ a.n ≤ a.hi) ∧ (b.lo ≤ b.n ∧ b.n ≤ b.hi) := by simp [okAll, ok_iff]
theorem okAll1 (a : Sp) : okAll [a] = true ↔ (a.lo ≤ a.n ∧ a.n ≤ a.hi) := by simp [okAll, ok_iff]
structure SIn (g : Gm) (a b c : Int) : Prop where
  r : Rt g
  a0 : 0 ≤ a
  a2 : a ≤ 2
  b0 : 0 ≤ b
  bs : b < g.s
  c0 : 0 ≤ c
  cw : c < g.d + g.p
theorem sectQ_zero (g : Gm) (a b c : Int) : sectQ g a b c = 0 ↔ SIn g a b c := by
  rw [sectQ]
  rcases ask_cases g [⟨a, 0, 2⟩, ⟨b, 0, g.s - 1⟩, ⟨c, 0, wide g - 1⟩] with ⟨h1, h2⟩ | ⟨h1, h2, h3⟩ | ⟨h1, h2, h3⟩
  · rw [h2]
    refine ⟨fun h => absurd h (by decide), fun h => ?_⟩
    rw [(right_iff g).2 h.r] at h1
    cases h1
  · rw [h3]
    refine ⟨fun h => absurd h (by decide), fun h => ?_⟩
    have : okAll [⟨a, 0, 2⟩, ⟨b, 0, g.s - 1⟩, ⟨c, 0, wide g - 1⟩] = true := (okAll3 _ _ _).2 ⟨⟨h.a0, h.a2⟩, ⟨h.b0, by have := h.bs; show b ≤ g.s - 1; omega⟩, h.c0, by have := h.cw; show c ≤ wide g - 1; rw [wide_yes h1]; omega⟩
    rw [this] at h2
    cases h2
  · rw [h3]
    refine ⟨fun _ => ?_, fun _ => rfl⟩
    obtain ⟨⟨x1, x2⟩, ⟨x3, x4⟩, x5, x6⟩ := (okAll3 _ _ _).1 h2
    dsimp only at x1 x2 x3 x4 x5 x6
    rw [wide_yes h1] at x6
    exact ⟨(right_iff g).1 h1, x1, x2, x3, by omega, x5, by omega⟩
theorem ask3 (g : Gm) (L : List Sp) : askF g L = 0 ∨ askF g L = 1 ∨ askF g L = 2 := by
  rcases ask_cases g L with ⟨_, h⟩ | ⟨_, _, h⟩ | ⟨_, _, h⟩
  · exact Or.inr (Or.inl h)
  · exact Or.inr (Or.inr h)
  · exact Or.inl h
theorem ask_zero {g : Gm} {L : List Sp} (h : askF g L = 0) : Rt g ∧ okAll L = true := by
  rcases ask_cases g L with ⟨_, h2⟩ | ⟨_, _, h2⟩ | ⟨h1, h2, _⟩
  · rw [h2] at h; exact absurd h (by decide)
  · rw [h2] at h; exact absurd h (by decide)
  · exact ⟨(right_iff g).1 h1, h2⟩
theorem slot_yes {g : Gm} (h : Rt g) : slot g = (g.d + g.p) * g.s := by rw [slot, wide_yes ((right_iff g).2 h)]
theorem slot_pos {g : Gm} (h : Rt g) : 3 ≤ slot g := by
  rw [slot_yes h]
  have h1 := h.d1
  have h2 := h.p2
  have h3 := h.s1
  have : 3 * g.s ≤ (g.d + g.p) * g.s := Int.mul_le_mul_of_nonneg_right (by omega) (by omega)
  omega
def ofA (g : Gm) (n : Int) : Int := if ofQ g n = 0 then n / slot g else 0
def ofB (g : Gm) (n : Int) : Int := if ofQ g n = 0 then n % slot g % g.s else 0
def ofC (g : Gm) (n : Int) : Int := if ofQ g n = 0 then n % slot g / g.s else 0
def ofK (g : Gm) (n : Int) : Bool := decide (ofQ g n = 0)
end Go.Proofs.YtbnjenbhpaknbaaGreat.GeoMath

/- Contracts of geo's below, within, Right. -/
namespace Go.Proofs.YtbnjenbhpaknbaaGreat
open Go.RowKit GeoMath
set_option linter.unusedVariables false
set_option maxRecDepth 100000

def spc (s : Sp) : List Value := [.int .i64 s.n, .int .i64 s.lo, .int .i64 s.hi]
def spv (s : Sp) : Value := .agg (spc s).toArray
/-- The spans L lie at a. -/
def SpAt (w : World) (b : Nat) (L : List Sp) : Prop := b < w.heap.size ∧ ∀ i (h : i < L.length), w.rangeAt b (i * 3) (spc L[i])
theorem SpAt.step {w w' : World} {b : Nat} {L : List Sp} (h : SpAt w b L) (hb : Below w.heap.size w w') : SpAt w' b L :=
  ⟨Nat.lt_of_lt_of_le h.1 hb.size, fun i hi j v hj => (hb.cell (p := ⟨b, i * 3 + j, none⟩) h.1).trans (h.2 i hi j v hj)⟩
/-- A slice of the spans L. -/
def Sps (L : List Sp) : Value → World → Prop := fun v w => ∃ b, v = .slice (some ⟨b, 0, none⟩) L.length L.length ∧ SpAt w b L
theorem Sps.monot (L : List Sp) : Monot (Sps L) := fun _ _ _ ⟨b, h1, h2⟩ hb => ⟨b, h1, h2.step hb⟩
theorem SpAt.of_row {w : World} {b : Nat} {T : TypeId} {L : List Sp} (h : Row w b T (L.flatMap spc)) : SpAt w b L := by
  refine ⟨h.lt, fun i hi j v hj => ?_⟩
  rw [h.cell]
  have h3 : j < 3 := (List.getElem?_eq_some_iff.1 hj).1
  rw [← hj]
  clear h hj
  induction L generalizing i with
  | nil => exact absurd hi (by simp)
  | cons x L ih =>
    rw [List.flatMap_cons]
    cases i with
    | zero => rw [List.getElem?_append_left (by show 0 * 3 + j < 3; omega)]; simp
    | succ i =>
      rw [List.getElem?_append_right (by show 3 ≤ (i + 1) * 3 + j; omega)]
      have := ih i (by simpa using hi)
      rw [show (i + 1) * 3 + j - (spc x).length = i * 3 + j from by show (i + 1) * 3 + j - 3 = _; omega]
      simpa using this
section
variable {P : Program}
theorem wpLoadAtG {ops : Array Oper} {rest : List Oper} {o : Oper} {a : Act} {w : World} {Q : Exit → Act → World → Prop} {g i : Nat} {y : List Value} (hy : w.rangeAt g i y) (ty : TypeId) {n : Nat} (hf : Fits P ty n) (hl : y.length = n)
    (ho : loadOf o a = some (ty, .pointer (some ⟨g, i, none⟩))) (k : wpList P ops Q rest (a.put o.dst (.agg y.toArray)) w) : wpList P ops Q (o :: rest) a w := by
  obtain ⟨hg, x, ho, hx⟩ := loadOf_spec ho
  obtain ⟨d, hu, hd⟩ := hf.row
  exact wpList_load_mid hg ty x ho g i hx y d hy hu hd (by rw [hl]; exact hf.size) k
end
theorem fits_span : Fits Tryz.prog 74 3 := ⟨⟨_, Tryz.underlying74, rfl⟩, by kernel_rfl⟩
theorem zero_span : ∀ u, (zeroValue 74).run Tryz.prog u = .ok (.agg [Value.int .i64 0, .int .i64 0, .int .i64 0].toArray) u := fun u => by kernel_rfl

theorem below_any (n many m : Int) (w : World) (hm : wrap64 (many - 1) = m) :
    Calls Tryz.prog 35 #[.int .i64 n, .int .i64 many] w fun e w' => e = .returned (spv ⟨n, 0, m⟩) ∧ Below w.heap.size w w' := by
  have HM := Lib.hid hm
  clear hm
  have HV : Hid (Value.agg [Value.int .i64 n, .int .i64 0, .int .i64 (wrap64 (many - 1))].toArray = spv ⟨n, 0, m⟩) := Lib.hid (by rw [HM.out]; rfl)
  go_enter Tryz.func35, Tryz.ntmps35
  go_wp2_with (first
    | ((with_reducible refine wpAllocK [Value.int .i64 0, .int .i64 0, .int .i64 0] 74 zero_span ?_ ?_); rfl; intro w1 r1 b1 s1; have R1 := Lib.hid r1; have B1 := Lib.hid b1; clear r1 b1 s1)
    | ((with_reducible refine R1.out.wpStoreK 74 [Value.int .i64 n, .int .i64 0, .int .i64 (wrap64 (many - 1))] fits_span rfl rfl rfl ?_ ?_); rfl; intro w2 r2 o2 s2; have R2 := Lib.hid r2; have B2 := Lib.hid (B1.out.trans (o2.below (Nat.le_refl _) B1.out.size)); clear r2 o2 s2))
  exact bodyPost_ret (R2.out.result rfl _ _ rfl Tryz.underlying74 rfl fits_span.size) rfl ⟨by rw [HV.out], B2.out⟩
theorem okAll_bad {L : List Sp} {k : Nat} (hk : k < L.length) (h : L[k].ok = false) : okAll L = false := List.all_eq_false.2 ⟨_, List.getElem_mem hk, by rw [h]; decide⟩
theorem okAll_all {L : List Sp} (h : ∀ j (hj : j < L.length), L[j].ok = true) : okAll L = true := List.all_eq_true.2 fun s hs => by
  obtain ⟨j, hj, rfl⟩ := List.mem_iff_getElem.1 hs
  exact h j hj
theorem geowithin_any (b : Nat) (L : List Sp) (w : World) (h : SpAt w b L) (hL : L.length < 1000) :
    Calls Tryz.prog 61 #[.slice (some ⟨b, 0, none⟩) L.length L.length] w fun e w' => e = .returned (.bool (okAll L)) ∧ Below w.heap.size w w' := by
  obtain ⟨n, hn⟩ : ∃ n, L.length = n := ⟨_, rfl⟩
  have HNL := Lib.hid hn
  have HH := Lib.hid h
  rw [hn] at hL ⊢
  clear h hn
  go_enter Tryz.func61, Tryz.ntmps61
  go_wp2
  go_loopw [7] (fun x wr => ∃ k : Nat, k ≤ n ∧ x = .int .i64 k ∧ Below w.heap.size w wr ∧ ∀ j (hj : j < L.length), j < k → L[j].ok = true) (fun x _ => n - (intOf x).toNat)
  case atStart => exact ⟨0, Nat.zero_le _, rfl, Below.refl _ _, fun j hj h => absurd h (by omega)⟩
  case round =>
    obtain ⟨k, hk, rfl, hbl, hall⟩ := hrel
    have HA := Lib.hid hall
    have HBL := Lib.hid hbl
    clear hall hbl
    by_cases hlt : k < n
    · have hkL : k < L.length := by rw [HNL.out]; exact hlt
      obtain ⟨x, lo, hi, hs⟩ : ∃ x lo hi, L[k] = ⟨x, lo, hi⟩ := ⟨_, _, _, rfl⟩
      have RY : Hid (wr.rangeAt b (k * 3) [Value.int .i64 x, .int .i64 lo, .int .i64 hi]) := Lib.hid (by
        have := (HH.out.step HBL.out).2 k hkL
        rwa [hs] at this)
      have HS : Hid (∀ hj : k < L.length, L[k] = ⟨x, lo, hi⟩) := Lib.hid fun _ => hs
      have HK := Lib.hid hkL
      clear hs hkL
      by_cases h1 : x < lo
      · have HG : Hid (okAll L = false) := Lib.hid (okAll_bad HK.out (by rw [HS.out HK.out]; simp [Sp.ok, h1]))
        go_wp2_with (first
          | ((with_reducible refine wpLoadAtG RY.out 74 fits_span rfl ?_ ?_); rfl)
          | ((with_reducible refine wpAllocK [Value.int .i64 0, .int .i64 0, .int .i64 0] 74 zero_span ?_ ?_); rfl; intro w1 r1 b1 s1; have R1 := Lib.hid r1; have B1 := Lib.hid (HBL.out.next b1); clear r1 b1 s1)
          | ((with_reducible refine R1.out.wpStoreK 74 [Value.int .i64 x, .int .i64 lo, .int .i64 hi] fits_span rfl rfl rfl ?_ ?_); rfl; intro w2 r2 o2 s2; have c0 := r2.cell 0; have c1 := r2.cell 1; have c2 := r2.cell 2; have B2 := Lib.hid (B1.out.trans (o2.below HBL.out.size B1.out.size)); clear r2 o2 s2))
        go_ret
        exact ⟨ret_bool HG.out.symm, B2.out⟩
      · by_cases h2 : hi < x
        · have HG : Hid (okAll L = false) := Lib.hid (okAll_bad HK.out (by rw [HS.out HK.out]; simp [Sp.ok, h2]))
          go_wp2_with (first
            | ((with_reducible refine wpLoadAtG RY.out 74 fits_span rfl ?_ ?_); rfl)
            | ((with_reducible refine wpAllocK [Value.int .i64 0, .int .i64 0, .int .i64 0] 74 zero_span ?_ ?_); rfl; intro w1 r1 b1 s1; have R1 := Lib.hid r1; have B1 := Lib.hid (HBL.out.next b1); clear r1 b1 s1)
            | ((with_reducible refine R1.out.wpStoreK 74 [Value.int .i64 x, .int .i64 lo, .int .i64 hi] fits_span rfl rfl rfl ?_ ?_); rfl; intro w2 r2 o2 s2; have c0 := r2.cell 0; have c1 := r2.cell 1; have c2 := r2.cell 2; have B2 := Lib.hid (B1.out.trans (o2.below HBL.out.size B1.out.size)); clear r2 o2 s2))
          go_ret
          exact ⟨ret_bool HG.out.symm, B2.out⟩
        · have HG : Hid (∀ hj : k < L.length, L[k].ok = true) := Lib.hid fun hj => by rw [HS.out hj]; simp [Sp.ok]; omega
          go_wp2_with (first
            | ((with_reducible refine wpLoadAtG RY.out 74 fits_span rfl ?_ ?_); rfl)
            | ((with_reducible refine wpAllocK [Value.int .i64 0, .int .i64 0, .int .i64 0] 74 zero_span ?_ ?_); rfl; intro w1 r1 b1 s1; have R1 := Lib.hid r1; have B1 := Lib.hid (HBL.out.next b1); clear r1 b1 s1)
            | ((with_reducible refine R1.out.wpStoreK 74 [Value.int .i64 x, .int .i64 lo, .int .i64 hi] fits_span rfl rfl rfl ?_ ?_); rfl; intro w2 r2 o2 s2; have c0 := r2.cell 0; have c1 := r2.cell 1; have c2 := r2.cell 2; have B2 := Lib.hid (B1.out.trans (o2.below HBL.out.size B1.out.size)); clear r2 o2 s2))
          go_roundw
          case rel => exact ⟨k + 1, by omega, by go_num, B2.out, fun j hj h => by
            by_cases e : j = k
            · subst e; exact HG.out hj
            · exact HA.out j hj (by omega)⟩
          case measure => simp [intOf]; omega
    · have HG : Hid (okAll L = true) := Lib.hid (okAll_all fun j hj => HA.out j hj (by rw [HNL.out] at hj; omega))
      go_wp2
      go_ret
      exact ⟨ret_bool HG.out.symm, HBL.out⟩
end Go.Proofs.YtbnjenbhpaknbaaGreat

/- Contracts of geo's Right, Wide, Slot, log, tally, All, Room, Golden, ask. -/
namespace Go.Proofs.YtbnjenbhpaknbaaGreat
open Go.RowKit GeoMath
set_option linter.unusedVariables false
set_option maxRecDepth 100000

def geoV (g : Gm) : Value := .agg #[.int .i64 g.d, .int .i64 g.p, .int .i64 g.s]
theorem fits_geo : Fits Tryz.prog 33 3 := ⟨⟨_, Tryz.underlying33, rfl⟩, by kernel_rfl⟩
theorem within_new (L : List Sp) (cs : Array Value) (n : Nat) (w : World) (hc : cs = (L.flatMap spc).toArray) (hn : L.length = n) (hL : n < 1000) :
    Calls Tryz.prog 61 #[.slice (some ⟨w.heap.size, 0, none⟩) n n] (w.alloc (.cells cs 74)) fun e w' => e = .returned (.bool (okAll L)) ∧ Below w.heap.size w w' := by
  subst hc
  subst hn
  refine (geowithin_any _ L _ (SpAt.of_row (Row.new w 74 (L.flatMap spc))) hL).mono ?_
  rintro e w' ⟨h1, h2⟩
  exact ⟨h1, (alloc_below w _).next h2⟩
theorem right_any (g : Gm) (w : World) :
    Calls Tryz.prog 46 #[geoV g] w fun e w' => e = .returned (.bool (right g)) ∧ Below w.heap.size w w' := by
  have HX := Lib.hid fun w1 => within_new [⟨g.d, 1, 8⟩, ⟨g.p, 2, 6⟩, ⟨g.s, 1, 8⟩] #[.int .i64 g.d, .int .i64 1, .int .i64 8, .int .i64 g.p, .int .i64 2, .int .i64 6, .int .i64 g.s, .int .i64 1, .int .i64 8] 3 w1 rfl rfl (by decide)
  have HR : Hid (okAll [⟨g.d, 1, 8⟩, ⟨g.p, 2, 6⟩, ⟨g.s, 1, 8⟩] = right g) := Lib.hid rfl
  generalize okAll [⟨g.d, 1, 8⟩, ⟨g.p, 2, 6⟩, ⟨g.s, 1, 8⟩] = r at HX HR
  rw [← HR.out]
  obtain ⟨d, p, s⟩ := g
  dsimp only [geoV] at HX ⊢
  go_enter Tryz.func46, Tryz.ntmps46
  go_wp2_with (first
    | ((with_reducible refine wpBoxK [Value.int .i64 d, .int .i64 p, .int .i64 s] 33 ?_ ?_); rfl; intro w1 r1 b1 s1; have c0 := r1.cell 0; have c1 := r1.cell 1; have c2 := r1.cell 2; have B1 := Lib.hid b1; clear r1 b1 s1)
    | (go_at_call 61; (with_reducible refine (HX.out w1).mono ?_); rintro e u1 ⟨rfl, b2⟩; have B2 := Lib.hid (B1.out.next b2); clear b2))
  go_ret
  exact ⟨rfl, B2.out⟩
theorem wide_any (g : Gm) (w : World) :
    Calls Tryz.prog 86 #[geoV g] w fun e w' => e = .returned (.int .i64 (wide g)) ∧ Below w.heap.size w w' := by
  have HX := Lib.hid fun w1 => right_any g w1
  cases hr : right g with
  | false =>
    have HW := Lib.hid (wide_no hr)
    rw [hr] at HX
    clear hr
    obtain ⟨d, p, s⟩ := g
    dsimp only [geoV] at HX ⊢
    go_enter Tryz.func86, Tryz.ntmps86
    go_wp2_with (first
      | ((with_reducible refine wpBoxK [Value.int .i64 d, .int .i64 p, .int .i64 s] 33 ?_ ?_); rfl; intro w1 r1 b1 s1; have R1 := Lib.hid r1; have B1 := Lib.hid b1; clear r1 b1 s1)
      | ((with_reducible refine R1.out.wpLoadK 33 fits_geo rfl ?_ ?_); rfl)
      | (go_at_call 46; (with_reducible refine (HX.out w1).mono ?_); rintro e u1 ⟨rfl, b2⟩; have B2 := Lib.hid (B1.out.next b2); clear b2))
    go_ret
    exact ⟨ret_int HW.out.symm, B2.out⟩
  | true =>
    have HW := Lib.hid (wide_yes hr)
    have hg := (right_iff g).1 hr
    rw [hr] at HX
    clear hr
    obtain ⟨d, p, s⟩ := g
    have h1 := hg.d1
    have h2 := hg.d8
    have h3 := hg.p2
    have h4 := hg.p6
    clear hg
    dsimp only [geoV] at HX h1 h2 h3 h4 ⊢
    go_enter Tryz.func86, Tryz.ntmps86
    go_wp2_with (first
      | ((with_reducible refine wpBoxK [Value.int .i64 d, .int .i64 p, .int .i64 s] 33 ?_ ?_); rfl; intro w1 r1 b1 s1; have R1 := Lib.hid r1; have B1 := Lib.hid b1; clear r1 b1 s1)
      | ((with_reducible refine R1.out.wpLoadK 33 fits_geo rfl ?_ ?_); rfl)
      | (go_at_call 46; (with_reducible refine (HX.out w1).mono ?_); rintro e u1 ⟨rfl, b2⟩; have R2 := R1.out.step b2; have c0 := R2.cell 0; have c1 := R2.cell 1; have B2 := Lib.hid (B1.out.next b2); clear b2 R2))
    go_ret
    exact ⟨ret_int HW.out.symm, B2.out⟩
end Go.Proofs.YtbnjenbhpaknbaaGreat

/- The list of all sectors, as a function of the place; where something lies in it. No program in it. -/
namespace Go.Proofs.YtbnjenbhpaknbaaGreat.GeoMath
set_option linter.unusedVariables false

structure Pl where
  w : Int
  a : Int
  b : Int
  c : Int
/-- What lies on sector k (W sectors a stripe, S stripes). -/
def pl (W S k : Nat) : Pl :=
  if k < 3 * (W * S) then ⟨0, ((k / (W * S) : Nat) : Int), ((k % (W * S) % S : Nat) : Int), ((k % (W * S) / S : Nat) : Int)⟩
  else if k < 3 * (W * S) + 16 then ⟨1, (((k - 3 * (W * S)) / 8 : Nat) : Int), (((k - 3 * (W * S)) / 4 % 2 : Nat) : Int), (((k - 3 * (W * S)) % 4 : Nat) : Int)⟩
  else ⟨2, ((k - (3 * (W * S) + 16) : Nat) : Int), 0, 0⟩
theorem pl_slot {W S k1 k2 k3 : Nat} (h1 : k1 < 3) (h2 : k2 < W) (h3 : k3 < S) : pl W S (k1 * (W * S) + k2 * S + k3) = ⟨0, (k1 : Int), (k3 : Int), (k2 : Int)⟩ := by
  have h4 : k2 * S + k3 < W * S := by
    have : (k2 + 1) * S ≤ W * S := Nat.mul_le_mul_right _ h2
    rw [Nat.add_mul, Nat.one_mul] at this
    omega
  have h5 : k1 * (W * S) + k2 * S + k3 < 3 * (W * S) := by
    have : (k1 + 1) * (W * S) ≤ 3 * (W * S) := Nat.mul_le_mul_right _ h1
    rw [Nat.add_mul, Nat.one_mul] at this
    omega
  have e1 : (k1 * (W * S) + k2 * S + k3) / (W * S) = k1 := by
    rw [Nat.add_assoc, Nat.mul_comm k1, Nat.mul_add_div (by omega), Nat.div_eq_of_lt h4, Nat.add_zero]
  have e2 : (k1 * (W * S) + k2 * S + k3) % (W * S) = k2 * S + k3 := by
    rw [Nat.add_assoc, Nat.mul_comm k1, Nat.mul_add_mod, Nat.mod_eq_of_lt h4]
  have e3 : (k2 * S + k3) % S = k3 := by rw [Nat.mul_comm, Nat.mul_add_mod, Nat.mod_eq_of_lt h3]
  have e4 : (k2 * S + k3) / S = k2 := by rw [Nat.mul_comm, Nat.mul_add_div (by omega), Nat.div_eq_of_lt h3, Nat.add_zero]
  rw [pl, if_pos h5, e1, e2, e3, e4]
theorem pl_log {W S a b c : Nat} (h1 : a < 2) (h2 : b < 2) (h3 : c < 4) : pl W S (3 * (W * S) + a * 8 + b * 4 + c) = ⟨1, (a : Int), (b : Int), (c : Int)⟩ := by
  rw [pl, if_neg (by omega), if_pos (by omega)]
  rw [show 3 * (W * S) + a * 8 + b * 4 + c - 3 * (W * S) = a * 8 + b * 4 + c from by omega]
  rw [show (a * 8 + b * 4 + c) / 8 = a from by omega, show (a * 8 + b * 4 + c) / 4 % 2 = b from by omega, show (a * 8 + b * 4 + c) % 4 = c from by omega]
theorem pl_tal {W S a : Nat} : pl W S (3 * (W * S) + 16 + a) = ⟨2, (a : Int), 0, 0⟩ := by
  rw [pl, if_neg (by omega), if_neg (by omega), Nat.add_sub_cancel_left]
/-- A list of n places, place by place. -/
def pls (W S : Nat) : Nat → List Pl
  | 0 => []
  | n + 1 => pls W S n ++ [pl W S n]
theorem pls_length (W S n : Nat) : (pls W S n).length = n := by induction n with
  | zero => rfl
  | succ n ih => rw [pls, List.length_append, ih]; rfl
theorem pls_get (W S n k : Nat) (h : k < n) : (pls W S n)[k]? = some (pl W S k) := by induction n with
  | zero => omega
  | succ n ih =>
    rw [pls]
    by_cases e : k < n
    · rw [List.getElem?_append_left (by rw [pls_length]; exact e), ih e]
    · have e : k = n := by omega
      subst e
      rw [List.getElem?_append_right (by rw [pls_length]; exact Nat.le_refl _), pls_length, Nat.sub_self]; rfl
/-- How many sectors there are. -/
def cnt (W S : Nat) : Nat := 3 * (W * S) + 18
/-- What a sector may be. -/
theorem pl_cases {W S k : Nat} (hW : 0 < W) (hS : 0 < S) (h : k < cnt W S) :
    (∃ a b c, a < 3 ∧ c < W ∧ b < S ∧ k = a * (W * S) + c * S + b ∧ pl W S k = ⟨0, (a : Nat), (b : Nat), (c : Nat)⟩) ∨
    (∃ a b c, a < 2 ∧ b < 2 ∧ c < 4 ∧ k = 3 * (W * S) + a * 8 + b * 4 + c ∧ pl W S k = ⟨1, (a : Nat), (b : Nat), (c : Nat)⟩) ∨
    (∃ a, a < 2 ∧ k = 3 * (W * S) + 16 + a ∧ pl W S k = ⟨2, (a : Nat), 0, 0⟩) := by
  rw [cnt] at h
  by_cases h1 : k < 3 * (W * S)
  · have hp : 0 < W * S := Nat.mul_pos hW hS
    have e1 := Nat.div_add_mod k (W * S)
    have e2 := Nat.div_add_mod (k % (W * S)) S
    have l1 : k / (W * S) < 3 := Nat.div_lt_of_lt_mul (by rw [Nat.mul_comm]; exact h1)
    have l2 : k % (W * S) / S < W := Nat.div_lt_of_lt_mul (by rw [Nat.mul_comm S W]; exact Nat.mod_lt _ hp)
    have l3 : k % (W * S) % S < S := Nat.mod_lt _ hS
    have e3 : k = k / (W * S) * (W * S) + k % (W * S) / S * S + k % (W * S) % S := by
      rw [Nat.mul_comm (k / (W * S)), Nat.mul_comm (k % (W * S) / S), Nat.add_assoc, e2, e1]
    exact Or.inl ⟨_, _, _, l1, l2, l3, e3, by rw [pl, if_pos h1]⟩
  · by_cases h2 : k < 3 * (W * S) + 16
    · exact Or.inr (Or.inl ⟨(k - 3 * (W * S)) / 8, (k - 3 * (W * S)) / 4 % 2, (k - 3 * (W * S)) % 4, by omega, by omega, by omega, by omega, by rw [pl, if_neg h1, if_pos h2]⟩)
    · exact Or.inr (Or.inr ⟨k - (3 * (W * S) + 16), by omega, by omega, by rw [pl, if_neg h1, if_neg h2]⟩)
/-- Where p lies among the first n, or -1. -/
def IsAt (W S n : Nat) (p : Pl) (r : Int) : Prop := (r = -1 ∧ ∀ j, j < n → pl W S j ≠ p) ∨ ∃ j, j < n ∧ r = (j : Int) ∧ pl W S j = p ∧ ∀ i, i < j → pl W S i ≠ p
end Go.Proofs.YtbnjenbhpaknbaaGreat.GeoMath

/- The document's List of all sectors. -/
namespace Go.Proofs.YtbnjenbhpaknbaaGreat
open Go.RowKit GeoMath
set_option linter.unusedVariables false
set_option maxRecDepth 100000

def plv (p : Pl) : List Value := [.int .i64 p.w, .int .i64 p.a, .int .i64 p.b, .int .i64 p.c]
/-- The cells of a list of places. -/
def plc (W S n : Nat) : List Value := (pls W S n).flatMap plv
theorem plc_step (W S n : Nat) : plc W S (n + 1) = plc W S n ++ plv (pl W S n) := by rw [plc, pls, List.flatMap_append, plc]; simp
theorem own_nilM {w : World} {T : TypeId} {s : Nat} : (w.alloc (.cells #[] T)).ownsRow w.heap.size T s (.slice (some ⟨w.heap.size, 0, none⟩) 0 0) 0 [] :=
  Row.ownsM (xs := []) (ys := []) (Row.new w T []) (Nat.le_refl _) (by simp) (by simp) (Nat.le_refl _) (by unfold maxLen; omega)

theorem own_mono {w : World} {B B' s : Nat} {e : TypeId} {v : Value} {n : Nat} {xs : List Value} (h : w.ownsRow B' e s v n xs) (hb : B ≤ B') : w.ownsRow B e s v n xs := by
  refine ⟨h.1, ?_⟩
  rcases h.2 with h | ⟨g, cap, cur, h1, h2, h3⟩
  · exact .inl h
  · exact .inr ⟨g, cap, cur, h1, Nat.le_trans hb h2, h3⟩

end Go.Proofs.YtbnjenbhpaknbaaGreat

/- Lists of records in memory: Clone, Grow, Concat, bare. -/
namespace Go.Proofs.YtbnjenbhpaknbaaGreat
open Go.RowKit CrcMath NumMath
set_option linter.unusedVariables false
set_option maxRecDepth 100000

def Rc.cells (r : Rc) : List Value := rcv r.k r.s r.n r.v
/-- The cells of a list of records. -/
def rcs (l : List Rc) : List Value := l.flatMap Rc.cells
theorem rcs_nil : rcs [] = [] := rfl
theorem rcs_cons (r : Rc) (l : List Rc) : rcs (r :: l) = r.cells ++ rcs l := rfl
theorem rcs_append (l m : List Rc) : rcs (l ++ m) = rcs l ++ rcs m := by simp [rcs]
theorem rcs_one (r : Rc) : rcs [r] = r.cells := by simp [rcs]
theorem rcs_length (l : List Rc) : (rcs l).length = l.length * 4 := by
  induction l with
  | nil => rfl
  | cons r l ih => rw [rcs_cons, List.length_append, ih, List.length_cons]; show 4 + _ = _; omega
theorem rcs_cell (l : List Rc) : (rcs l).all (·.oneCell') = true := by
  induction l with
  | nil => rfl
  | cons r l ih => rw [rcs_cons, List.all_append, ih]; rfl
theorem rcs_get (l : List Rc) (i : Nat) (h : i < l.length) (j : Nat) (u : Value) (hj : (l[i].cells)[j]? = some u) : (rcs l)[i * 4 + j]? = some u := by
  induction l generalizing i with
  | nil => exact absurd h (Nat.not_lt_zero _)
  | cons r l ih =>
    rw [rcs_cons]
    have h4 : r.cells.length = 4 := rfl
    cases i with
    | zero =>
      have hj4 : j < 4 := (List.getElem?_eq_some_iff.1 hj).1
      rw [Nat.zero_mul, Nat.zero_add, List.getElem?_append_left (by rw [h4]; exact hj4)]
      exact hj
    | succ i =>
      rw [List.getElem?_append_right (by rw [h4]; omega), h4, show (i + 1) * 4 + j - 4 = i * 4 + j by omega]
      exact ih i (by simpa using h) (by simpa using hj)
theorem many_rec : Many Tryz.prog 36 4 := Many.of (by kernel_rfl)
/-- Where one of them lies. -/
theorem rcs_at {w : World} {bl off : Nat} {l : List Rc} (hc : ∀ j u, (rcs l)[j]? = some u → w.cell? ⟨bl, off + j, none⟩ = some u) (i : Nat) (h : i < l.length) : w.rangeAt bl (off + i * 4) l[i].cells := by
  intro j u hj
  have := hc (i * 4 + j) u (rcs_get l i h j u hj)
  rwa [← Nat.add_assoc] at this

section
variable {P : Program}
/-- append of nothing. -/
theorem run_append_zero (t ty e : TypeId) (i : TypeInfo) (ht : P.underlying t = some (.slice e)) (hi : P.info? e = some i) {base s : Nat} {v : Value} {n : Nat} {xs : List Value} (w : World) (hown : w.ownsRow base e s v n xs) (p : Option Addr) (c : Nat) :
    (Builtin.append_ #[t, t] ty #[v, .slice p 0 c]).run P w = .ok v w := by
  rcases hown.2 with ⟨rfl, rfl⟩ | ⟨g, cap, cur, rfl, hbg, hg, hnc, hcm, hcs, htake⟩
  · cases p <;> simp [Builtin.append_, run_underlying ht, sizeOf, typeInfo, hi, Builtin.lenOf, Builtin.firstCells, loadCells, loadCellsFrom]
  · cases p <;> simp [Builtin.append_, run_underlying ht, sizeOf, typeInfo, hi, Builtin.lenOf, Builtin.firstCells, loadCells, loadCellsFrom, hnc, storeCells]
/-- append, of however many. -/
theorem wpAppendN {ops : Array Oper} {rest : List Oper} {o : Oper} {a : Act} {w : World} {Q : Exit → Act → World → Prop} {base n m s : Nat} {T e : TypeId} {v : Value} {xs news : List Value} {p : Option Addr} (c : Nat)
    (hown : w.ownsRow base e s v n xs) (hT : P.underlying T = some (.slice e)) (he : Many P e s) (hs : Lies w w.heap.size p news) (hl : news.length = m * s) (hs0 : 0 < s) (h1 : news.all (·.oneCell') = true) (hn : Big (n + m ≤ 1099511627776)) (hbase : base ≤ w.heap.size)
    (ho : appendOf o a = some (T, T, v, .slice p m c))
    (k : ∀ v' w', w'.ownsRow base e s v' (n + m) (xs ++ news) → w.grownBy w' v.ownBlock → (v'.ownBlock = v.ownBlock ∨ v'.ownBlock = some w.heap.size) → wpList P ops Q rest (a.put o.dst v') w') : wpList P ops Q (o :: rest) a w := by
  rcases Nat.eq_zero_or_pos m with rfl | hm
  · obtain ⟨hg, x, y, hop, hx, hy⟩ := appendOf_spec ho
    obtain ⟨i, z, hi, hz, h2, h3, h4⟩ := he.row
    have hnil : news = [] := List.eq_nil_of_length_eq_zero (by simpa using hl)
    subst hnil
    refine wpList_plain hg fun K hK => ?_
    have hr := run_append_zero (P := P) T o.type e i hT hi w hown p c
    unfold Oper.wp execOp
    simp only [hop, resolve, invoke, builtin, Sem.run_bind, Sem.run_pure, Result.andThen_ok, List.map_toArray, List.map_cons, List.map_nil, hx, hy, hr]
    exact hK _ _ (k v w (by simpa using hown) ⟨rfl, rfl, rfl, Nat.le_refl _, fun _ _ _ => rfl⟩ (Or.inl rfl))
  · exact wpAppendM c hown hT he hs hl hm hs0 h1 hn hbase ho k
end
theorem owns_ge {w : World} {base s n : Nat} {e : TypeId} {v : Value} {xs : List Value} (h : w.ownsRow base e s v n xs) : ∀ j, v.ownBlock = some j → base ≤ j := fun j hj => (h.lt j hj).1
theorem owns_size {w : World} {base s n : Nat} {e : TypeId} {v : Value} {xs : List Value} (h : w.ownsRow base e s v n xs) : xs.length = n * s := h.1
/-- What a call owns lies as it is while nothing old turns. -/
theorem owns_step {w w' : World} {base s n : Nat} {e : TypeId} {v : Value} {xs : List Value} (h : w.ownsRow base e s v n xs) (hb : Below w.heap.size w w') : w'.ownsRow base e s v n xs := by
  refine ⟨h.1, ?_⟩
  rcases h.2 with h2 | ⟨g, cap, cur, h1, h2, h3, h4⟩
  · exact .inl h2
  · exact .inr ⟨g, cap, cur, h1, h2, (hb.block g (Array.getElem?_eq_some_iff.1 h3).1).trans h3, h4⟩

set_option maxHeartbeats 1000000 in
/-- slices.Clone of records. -/
theorem log_clone (a : Option Addr) (n cap : Nat) (l : List Rc) (w : World) (hn : l.length = n) (hn2 : n ≤ 1000000) (hl : Lies w w.heap.size a (rcs l)) :
    Calls Tryz.prog 39 #[.slice a n cap] w fun e w' => (∃ v, e = .returned v ∧ w'.ownsRow w.heap.size 36 4 v n (rcs l)) ∧ Below w.heap.size w w' := by
  cases a with
  | none =>
    have h0 : n = 0 := by
      rcases Nat.eq_zero_or_pos n with h | h
      · exact h
      · obtain ⟨b, off, e, _⟩ := hl (by rw [rcs_length, hn]; omega)
        cases e
    subst h0
    have hnil : l = [] := List.eq_nil_of_length_eq_zero hn
    subst hnil
    have he : ∀ w : World, (binOp .eql 22 (.slice none 0 cap) (.slice none 0 0)).run Tryz.prog w = .ok (.bool true) w := fun _ => rfl
    go_enter Tryz.func39, Tryz.ntmps39
    go_wp2
    go_ret
    exact ⟨⟨_, rfl, World.ownsRow_nil _ _ _ _⟩, Below.refl _ _⟩
  | some ad =>
    have he : ∀ w : World, (binOp .eql 22 (.slice (some ad) n cap) (.slice none 0 0)).run Tryz.prog w = .ok (.bool false) w := fun _ => rfl
    have HR := Lib.hid hl
    have HL : Hid ((rcs l).length = n * 4) := Lib.hid (by rw [rcs_length, hn])
    have H1 := Lib.hid (rcs_cell l)
    have H4 : Hid (0 < 4) := Lib.hid (by omega)
    have HN : Big (0 + n ≤ 1099511627776) := ⟨by omega⟩
    have HOW : Hid ((w.alloc (.cells #[] 36)).ownsRow w.heap.size 36 4 (.slice (some ⟨w.heap.size, 0, none⟩) 0 0) 0 []) := Lib.hid own_nilM
    have HSZ : Hid (w.heap.size ≤ (w.alloc (.cells #[] 36)).heap.size) := Lib.hid (alloc_below w _).size
    generalize rcs l = X at *
    clear hl hn hn2
    go_enter Tryz.func39, Tryz.ntmps39
    go_wp2_with ((with_reducible refine wpAppendN cap HOW.out Tryz.underlying22 many_rec (HR.out.step (alloc_below _ _)) HL.out H4.out H1.out HN HSZ.out ?_ ?_); rfl; intro v1 w1 g1 g2 g3; have G1 := Lib.hid g1; have G2 := Lib.hid g2; clear g1 g2 g3)
    go_ret
    have h1 := G1.out
    rw [Nat.zero_add, List.nil_append] at h1
    exact ⟨⟨v1, rfl, h1⟩, (alloc_below w _).grown G2.out (by simp) (fun k hk => by cases hk; exact Nat.le_refl _)⟩

/-- slices.Grow of no records. -/
theorem log_grow (n : Nat) (w : World) (hn : n ≤ 1000000) :
    Calls Tryz.prog 78 #[.slice none 0 0, .int .i64 (n : Int)] w fun e w' => (∃ v, e = .returned v ∧ w'.ownsRow w.heap.size 36 4 v 0 []) ∧ Below w.heap.size w w' := by
  rcases Nat.eq_zero_or_pos n with rfl | h0
  · go_enter Tryz.func78, Tryz.ntmps78
    go_wp2
    go_ret
    exact ⟨⟨_, rfl, World.ownsRow_nil _ _ _ _⟩, Below.refl _ _⟩
  · have h1 : ¬ (n : Int) < 0 := by omega
    have h2 : (n : Int) > 0 := by omega
    have h3 : (0 : Int) ≤ (n : Int) := by omega
    have hnb : (n : Int) ≤ 1000000 := by omega
    have H0 := Lib.hid h0
    have HS0 : Hid (0 < 4) := Lib.hid (by omega)
    have HN : Hid (n ≤ 1099511627776) := Lib.hid (by omega)
    go_enter Tryz.func78, Tryz.ntmps78
    go_wp2_with ((with_reducible refine wpAppendMadeM .i64 Tryz.underlying22 Tryz.underlying3 many_rec H0.out HS0.out HN.out ?_ ?_); rfl; intro c w1 k1 k2 k3; have K1 : ((0 : Int) ≤ (c : Int)) := (by omega); have K2 := Lib.hid k2; have K3 := Lib.hid k3; clear k1 k2 k3)
    go_ret
    exact ⟨⟨_, rfl, K2.out⟩, K3.out⟩

/-- A list of slices of records: cell j of the list. -/
def SlAt (w : World) (gl : Nat) (L : List (List Rc)) : Prop := ∀ j (h : j < L.length), ∃ a cap, w.cell? ⟨gl, j, none⟩ = some (.slice a (L[j]).length cap) ∧ Lies w w.heap.size a (rcs L[j])
theorem SlAt.step {w w' : World} {gl : Nat} {L : List (List Rc)} (h : SlAt w gl L) (hg : gl < w.heap.size) (hb : Below w.heap.size w w') : SlAt w' gl L := fun j hj => by
  obtain ⟨a, cap, h1, h2⟩ := h j hj
  exact ⟨a, cap, (hb.cell (p := ⟨gl, j, none⟩) hg).trans h1, h2.step hb⟩
def cumR (L : List (List Rc)) (j : Nat) : Nat := ((L.take j).flatten).length
def catR (L : List (List Rc)) (j : Nat) : List Value := rcs ((L.take j).flatten)
set_option maxHeartbeats 2000000 in
theorem log_concat (gl k cp : Nat) (L : List (List Rc)) (w : World) (hk : L.length = k) (hk2 : k ≤ 1000) (hgl : gl < w.heap.size) (hs : SlAt w gl L) (hm : L.flatten.length ≤ 1000000) :
    Calls Tryz.prog 52 #[.slice (some ⟨gl, 0, none⟩) k cp] w fun e w' =>
      (∃ v, e = .returned v ∧ w'.ownsRow w.heap.size 36 4 v L.flatten.length (rcs L.flatten)) ∧ Below w.heap.size w w' := by
  have HGL := Lib.hid hgl
  have HLE : Hid (∀ j, cumR L j ≤ 1000000) := Lib.hid fun j => by
    unfold cumR
    refine Nat.le_trans ?_ hm
    conv => rhs; rw [← List.take_append_drop j L]
    rw [List.flatten_append, List.length_append]
    omega
  have HGET : Hid (∀ j, j < k → ∃ q y c news, w.cell? ⟨gl, j, none⟩ = some (.slice q y c) ∧ Lies w w.heap.size q news ∧ news.length = y * 4 ∧ news.all (·.oneCell') = true ∧ cumR L (j + 1) = cumR L j + y ∧ catR L (j + 1) = catR L j ++ news) := Lib.hid fun j hj => by
    obtain ⟨a, cap, h1, h2⟩ := hs j (by omega)
    have e : (L.take (j + 1)).flatten = (L.take j).flatten ++ L[j] := by rw [List.take_succ_eq_append_getElem (by omega), List.flatten_append]; simp
    refine ⟨a, _, cap, rcs L[j], h1, h2, rcs_length _, rcs_cell _, ?_, ?_⟩
    · unfold cumR; rw [e, List.length_append]
    · unfold catR; rw [e, rcs_append]
  have H0 : Hid (cumR L 0 = 0) := Lib.hid rfl
  have HC0 : Hid (catR L 0 = []) := Lib.hid rfl
  have H2 : Hid (cumR L k = L.flatten.length) := Lib.hid (by unfold cumR; rw [← hk, List.take_length])
  have HC2 : Hid (catR L k = rcs L.flatten) := Lib.hid (by unfold catR; rw [← hk, List.take_length])
  have HG := Lib.hid (log_grow L.flatten.length w hm)
  rw [← HC2.out]
  obtain ⟨M, hM⟩ : ∃ M, L.flatten.length = M := ⟨_, rfl⟩
  rw [hM] at HG H2 ⊢
  generalize cumR L = cum at *
  generalize catR L = catl at *
  have hkI : (k : Int) ≤ 1000 := by omega
  clear hM hk hm hs HC2 hgl
  go_enter Tryz.func52, Tryz.ntmps52
  go_wp2
  go_loop [3, 11] (fun s i => ∃ j : Nat, j ≤ k ∧ i = .int .i64 j ∧ s = .int .i64 ((cum j : Nat) : Int)) (fun _ i => k - (intOf i).toNat)
  case atStart => exact ⟨0, Nat.zero_le _, rfl, by rw [H0.out]; rfl⟩
  case round =>
    obtain ⟨j, hj, rfl, rfl⟩ := hrel
    by_cases hlt : j < k
    · have hk1 : (j : Int) < (k : Int) := by omega
      obtain ⟨q, y, c, news, hcell, _, _, _, hcum, _⟩ := HGET.out j hlt
      have hb1 := HLE.out (j + 1)
      obtain ⟨x, hx⟩ : ∃ x, cum j = x := ⟨_, rfl⟩
      rw [hx] at hcum ⊢
      obtain ⟨t, ht2⟩ : ∃ t, x + y = t := ⟨_, rfl⟩
      rw [ht2] at hcum
      have hxy : ((x : Int) + (y : Int)) = (t : Int) := by omega
      have hxy0 : ¬ (t : Int) < 0 := by omega
      have hxyw : IntKind.i64.wrap (t : Int) = (t : Int) := by rw [IntKind.wrap_i64]; omega
      have HS2 := Lib.hid hcum
      clear hcum hb1 hx ht2
      go_wp2
      go_round
      case rel => exact ⟨j + 1, by omega, by go_num, by rw [HS2.out]⟩
      case measure => simp [intOf]; omega
    · have HJ : Hid (cum j = M) := Lib.hid (by rw [show j = k by omega, H2.out])
      have hj2 : ¬ (j : Int) < (k : Int) := by omega
      rw [HJ.out]
      go_wp2_with (go_at_call 78; (with_reducible refine HG.out.mono ?_); rintro e w1 ⟨⟨c1, rfl, o1⟩, b1⟩; have O1 := Lib.hid o1; have B1 := Lib.hid b1; clear o1 b1)
      go_loopw [6, 27] (fun v i wr => ∃ q : Nat, q ≤ k ∧ i = .int .i64 q ∧ wr.ownsRow w.heap.size 36 4 v (cum q) (catl q) ∧ Below w.heap.size w wr) (fun _ i _ => k - (intOf i).toNat)
      case atStart => exact ⟨0, Nat.zero_le _, rfl, by rw [H0.out, HC0.out]; exact O1.out, B1.out⟩
      case round =>
        clear O1 B1
        obtain ⟨z, hz, rfl, hown, hbw⟩ := hrel
        by_cases hlt : z < k
        · have hk1 : (z : Int) < (k : Int) := by omega
          obtain ⟨q, y, c, news, hc1, hql, hnl, hu1, hcum, hcat⟩ := HGET.out z hlt
          have hcell : wr.cell? ⟨gl, z, none⟩ = some (.slice q y c) := (hbw.cell (p := ⟨gl, z, none⟩) HGL.out).trans hc1
          have hb1 := HLE.out (z + 1)
          have HQL := Lib.hid ((hql.below hbw).mono hbw.size)
          have HNL := Lib.hid hnl
          have HU1 := Lib.hid hu1
          have HCAT := Lib.hid hcat
          obtain ⟨x, hx⟩ : ∃ x, cum z = x := ⟨_, rfl⟩
          rw [hx] at hown hcum
          have HBG : Big (x + y ≤ 1099511627776) := ⟨by omega⟩
          have HCUM := Lib.hid hcum
          have HSZ : Hid (w.heap.size ≤ wr.heap.size) := Lib.hid hbw.size
          have HOWN := Lib.hid hown
          have HBW := Lib.hid hbw
          have HP4 : Hid (0 < 4) := Lib.hid (by omega)
          have HOL := Lib.hid (owns_ge hown)
          clear hcum hcat hown hbw hql hnl hu1 hb1 hx hc1
          go_wp2_with ((with_reducible refine wpAppendN c HOWN.out Tryz.underlying22 many_rec HQL.out HNL.out HP4.out HU1.out HBG HSZ.out ?_ ?_); rfl; intro v1 w2 g1 g2 g3; have G1 := Lib.hid g1; have G2 := Lib.hid g2; clear g1 g2 g3)
          go_roundw
          case rel => exact ⟨z + 1, by omega, by go_num, by rw [HCUM.out, HCAT.out]; exact G1.out, HBW.out.grown G2.out HBW.out.size HOL.out⟩
          case measure => simp [intOf]; omega
        · have HZ : Hid (z = k) := Lib.hid (by omega)
          have HOWN := Lib.hid hown
          have HBW := Lib.hid hbw
          have hz2 : ¬ (z : Int) < (k : Int) := by omega
          clear hown hbw hz hlt
          go_wp2
          go_ret
          refine ⟨⟨_, rfl, ?_⟩, HBW.out⟩
          have := HOWN.out
          rw [HZ.out, H2.out] at this
          exact this
end Go.Proofs.YtbnjenbhpaknbaaGreat

/- What may be appended; closures; IndexFunc, ContainsFunc; bare (gen_log_b.py). -/
namespace Go.Proofs.YtbnjenbhpaknbaaGreat
open Go.RowKit CrcMath NumMath
set_option linter.unusedVariables false
set_option maxRecDepth 100000

theorem log_may_any (r : Rc) (w : World) : Calls Tryz.prog 28 #[.agg r.cells.toArray] w fun e w' => e = .returned (.bool r.may) ∧ Below w.heap.size w w' := by
  have HM : Hid (r.may = (rOk r.k r.s 0 r.v && decide (r.k < 126))) := Lib.hid rfl
  generalize r.may = M at *
  obtain ⟨k, s, n, v⟩ := r
  have HM2 : Hid (M = (rOk k s 0 v && decide (k < 126))) := HM
  obtain ⟨V0, hV0⟩ : ∃ V, rcv k s n v = V := ⟨_, rfl⟩
  have HS : Hid (V0.set 2 (.int .i64 0) = rcv k s 0 v) := Lib.hid (by rw [← hV0]; rfl)
  have HL : Hid (2 < V0.length) := Lib.hid (by rw [← hV0]; show 2 < 4; omega)
  show Calls Tryz.prog 28 #[.agg (rcv k s n v).toArray] w _
  rw [hV0]
  clear hV0 HM
  cases hok : rOk k s 0 v
  · have HR : Hid (∀ u : World, Calls Tryz.prog 54 #[.agg (rcv k s 0 v).toArray] u fun e u' => e = .returned (.bool false) ∧ Below u.heap.size u u') := Lib.hid fun u => by have := rec_right_any k s 0 v u; rwa [hok] at this
    have HMM : Hid (M = false) := Lib.hid (by rw [HM2.out, hok]; rfl)
    clear hok HM2
    obtain ⟨V1, hV1⟩ : ∃ V, rcv k s 0 v = V := ⟨_, rfl⟩
    rw [hV1] at HR HS
    have LV : Hid (V1.length = 4) := Lib.hid (by rw [← hV1]; rfl)
    clear hV1
    go_enter Tryz.func28, Tryz.ntmps28
    go_wp2_with (first
      | ((with_reducible refine wpBoxK (w := w) V0 36 ?_ ?_); rfl; intro u1 r1 b1 s1; have R1 := Lib.hid r1; have B1 := Lib.hid b1; clear r1 b1 s1)
      | ((with_reducible refine R1.out.wpStore1K 2 3 (.int .i64 0) finfo_int HL.out (int_cells _ _) (int_one _ _) ?_ ?_); rfl; intro u2 r2 o2 s2; have R2 : Hid (Row u2 w.heap.size 36 V1) := Lib.hid (by rw [← HS.out]; exact r2); have B2 : Hid (Below w.heap.size w u2) := Lib.hid (B1.out.trans (o2.below (Nat.le_refl _) B1.out.size)); clear r2 o2 s2)
      | ((with_reducible refine R2.out.wpLoadK 36 fits_rec LV.out ?_ ?_); rfl)
      | (go_at_call 54; (with_reducible refine (HR.out u2).mono ?_); rintro e u3 ⟨rfl, b3⟩; have B3 : Hid (Below w.heap.size w u3) := Lib.hid (B2.out.next b3); clear b3))
    go_ret
    exact ⟨ret_bool HMM.out.symm, B3.out⟩
  · have HR : Hid (∀ u : World, Calls Tryz.prog 54 #[.agg (rcv k s 0 v).toArray] u fun e u' => e = .returned (.bool true) ∧ Below u.heap.size u u') := Lib.hid fun u => by have := rec_right_any k s 0 v u; rwa [hok] at this
    have HMM : Hid (M = decide (k < 126)) := Lib.hid (by rw [HM2.out, hok]; rfl)
    clear hok HM2
    have HC0 : Hid (∀ (u : World), Row u w.heap.size 36 (rcv k s 0 v) → u.cell? ⟨w.heap.size, 0, none⟩ = some (.int .i64 k)) := Lib.hid fun u h => h.cell 0
    obtain ⟨V1, hV1⟩ : ∃ V, rcv k s 0 v = V := ⟨_, rfl⟩
    rw [hV1] at HR HS HC0
    have LV : Hid (V1.length = 4) := Lib.hid (by rw [← hV1]; rfl)
    clear hV1
    go_enter Tryz.func28, Tryz.ntmps28
    go_wp2_with (first
      | ((with_reducible refine wpBoxK (w := w) V0 36 ?_ ?_); rfl; intro u1 r1 b1 s1; have R1 := Lib.hid r1; have B1 := Lib.hid b1; clear r1 b1 s1)
      | ((with_reducible refine R1.out.wpStore1K 2 3 (.int .i64 0) finfo_int HL.out (int_cells _ _) (int_one _ _) ?_ ?_); rfl; intro u2 r2 o2 s2; have R2 : Hid (Row u2 w.heap.size 36 V1) := Lib.hid (by rw [← HS.out]; exact r2); have B2 : Hid (Below w.heap.size w u2) := Lib.hid (B1.out.trans (o2.below (Nat.le_refl _) B1.out.size)); clear r2 o2 s2)
      | ((with_reducible refine R2.out.wpLoadK 36 fits_rec LV.out ?_ ?_); rfl)
      | (go_at_call 54; (with_reducible refine (HR.out u2).mono ?_); rintro e u3 ⟨rfl, b3⟩; have c3 := HC0.out u3 (R2.out.step b3); have B3 : Hid (Below w.heap.size w u3) := Lib.hid (B2.out.next b3); clear b3))
    go_ret
    exact ⟨ret_bool HMM.out.symm, B3.out⟩
def mayNot (r : Rc) : Bool := !r.may
def isEnd (r : Rc) : Bool := decide (r.k = 127)
theorem endF_idx (l : List Rc) : endF l = l.findIdx isEnd := rfl
theorem log_ask1_any (r : Rc) (w : World) : Calls Tryz.prog 50 #[.agg r.cells.toArray] w fun e w' => e = .returned (.bool (mayNot r)) ∧ Below w.heap.size w w' := by
  have HM : Hid (∀ u : World, Calls Tryz.prog 28 #[.agg r.cells.toArray] u fun e u' => e = .returned (.bool r.may) ∧ Below u.heap.size u u') := Lib.hid fun u => log_may_any r u
  have LV : Hid (r.cells.length = 4) := Lib.hid rfl
  have HMN : Hid (mayNot r = !r.may) := Lib.hid rfl
  rw [HMN.out]
  clear HMN
  generalize r.cells = V at *
  generalize r.may = m at *
  go_enter Tryz.func50, Tryz.ntmps50
  go_wp2_with (first
    | ((with_reducible refine wpBoxK (w := w) V 36 ?_ ?_); rfl; intro u1 r1 b1 s1; have R1 := Lib.hid r1; have B1 := Lib.hid b1; clear r1 b1 s1)
    | ((with_reducible refine R1.out.wpLoadK 36 fits_rec LV.out ?_ ?_); rfl)
    | (go_at_call 28; (with_reducible refine (HM.out u1).mono ?_); rintro e u3 ⟨rfl, b3⟩; have B3 : Hid (Below w.heap.size w u3) := Lib.hid (B1.out.next b3); clear b3))
  go_ret
  exact ⟨rfl, B3.out⟩
theorem log_split1_any (r : Rc) (w : World) : Calls Tryz.prog 88 #[.agg r.cells.toArray] w fun e w' => e = .returned (.bool (isEnd r)) ∧ Below w.heap.size w w' := by
  obtain ⟨k, s, n, v⟩ := r
  show Calls _ _ _ _ fun e w' => e = .returned (.bool (decide (k = 127))) ∧ Below w.heap.size w w'
  have HC0 : Hid (∀ (u : World), Row u w.heap.size 36 (rcv k s n v) → u.cell? ⟨w.heap.size, 0, none⟩ = some (.int .i64 k)) := Lib.hid fun u h => h.cell 0
  obtain ⟨V, hV⟩ : ∃ V, rcv k s n v = V := ⟨_, rfl⟩
  show Calls Tryz.prog 88 #[.agg (rcv k s n v).toArray] w _
  rw [hV] at HC0 ⊢
  clear hV
  have hd : decide (k = 127) = (k == 127) := by rw [Bool.eq_iff_iff]; simp
  go_enter Tryz.func88, Tryz.ntmps88
  go_wp2_with ((with_reducible refine wpBoxK (w := w) V 36 ?_ ?_); rfl; intro u1 r1 b1 s1; have c1 := HC0.out u1 r1; have B1 := Lib.hid b1; clear r1 b1 s1)
  go_ret
  exact ⟨ret_bool (by first | rfl | exact hd.symm), B1.out⟩

set_option maxHeartbeats 1000000 in
theorem log_ask1_index (a : Option Addr) (n cap : Nat) (l : List Rc) (w : World) (hn : l.length = n) (hn2 : n ≤ 1000000) (hr : Lies w w.heap.size a (rcs l)) :
    Calls Tryz.prog 73 #[.slice a n cap, .func (.func 50) #[] #[]] w fun e w' => e = .returned (.int .i64 (idxF mayNot l)) ∧ Below w.heap.size w w' := by
  have HN : Hid (∀ (r : Rc) (u : World), Calls Tryz.prog 50 #[.agg r.cells.toArray] u fun e w' => e = .returned (.bool (mayNot r)) ∧ Below u.heap.size u w') := Lib.hid fun r u => log_ask1_any r u
  have HE : Hid ((∀ i (h : i < l.length), mayNot l[i] = false) → idxF mayNot l = -1) := Lib.hid fun h => by
    have : l.findIdx mayNot = l.length := List.findIdx_eq_length.2 fun x hx => by
      obtain ⟨i, hi, rfl⟩ := List.getElem_of_mem hx
      exact h i hi
    rw [idxF, this, if_neg (Nat.lt_irrefl _)]
  have HF : Hid (∀ k (hk : k < l.length), (∀ i (h : i < k), mayNot (l[i]'(by omega)) = false) → mayNot l[k] = true → idxF mayNot l = (k : Int)) := Lib.hid fun k hk h1 h2 => by
    have : l.findIdx mayNot = k := (List.findIdx_eq hk).2 ⟨h2, fun j hj => by rw [h1 j hj]⟩
    rw [idxF, this, if_pos hk]
  have hnI : (n : Int) ≤ 1000000 := by omega
  have HNL := Lib.hid hn
  have HR := Lib.hid hr
  generalize idxF mayNot l = Z at *
  clear hr
  go_enter Tryz.func73, Tryz.ntmps73
  go_wp2
  go_loopw [8] (fun i wr => ∃ k : Nat, k ≤ n ∧ i = .int .i64 k ∧ (∀ i (h : i < l.length), i < k → mayNot l[i] = false) ∧ Below w.heap.size w wr) (fun i _ => n - (intOf i).toNat)
  case atStart => exact ⟨0, Nat.zero_le _, rfl, fun i _ h => absurd h (Nat.not_lt_zero _), Below.refl _ _⟩
  case round =>
    obtain ⟨k, hk, rfl, hz, hbw⟩ := hrel
    have HZ := Lib.hid hz
    have HBW := Lib.hid hbw
    clear hz hbw
    by_cases hlt : k < n
    · have hkl : Hid (k < l.length) := Lib.hid (by rw [HNL.out]; exact hlt)
      obtain ⟨b2, off, rfl, hbb, hc⟩ := HR.out (by rw [rcs_length, HNL.out]; omega)
      obtain ⟨r, hx⟩ : ∃ r, l[k]'hkl.out = r := ⟨_, rfl⟩
      have HRG : Hid (wr.rangeAt b2 (off + k * 4) r.cells) := Lib.hid (by
        have := rcs_at (w := wr) (fun j u hj => (HBW.out.cell (p := ⟨b2, off + j, none⟩) hbb).trans (hc j u hj)) k hkl.out
        rwa [hx] at this)
      have HX := Lib.hid hx
      have hk1 : (k : Int) < (n : Int) := by omega
      cases hod : mayNot r
      · have HXF : Hid (∀ u : World, Calls Tryz.prog 50 #[.agg r.cells.toArray] u fun e w' => e = .returned (.bool false) ∧ Below u.heap.size u w') := Lib.hid fun u => by have := HN.out r u; rwa [hod] at this
        have HOD := Lib.hid hod
        clear hc hx hod
        have HLV : Hid (r.cells.length = 4) := Lib.hid rfl
        generalize r.cells = V at HRG HXF HLV
        go_wp2_with (first
          | ((with_reducible refine wpLoadRK HRG.out 36 fits_rec HLV.out ?_ ?_); rfl)
          | (go_at_call 50; (with_reducible refine (HXF.out wr).mono ?_); rintro e w1 ⟨rfl, b1⟩; have B1 : Hid (Below w.heap.size w w1) := Lib.hid (HBW.out.next b1); clear b1))
        go_roundw
        case rel =>
          refine ⟨k + 1, by omega, by go_num, fun i hi hik => ?_, B1.out⟩
          by_cases e : i = k
          · subst e; rw [HX.out]; exact HOD.out
          · exact HZ.out i hi (by omega)
        case measure => simp [intOf]; omega
      · have HXF : Hid (∀ u : World, Calls Tryz.prog 50 #[.agg r.cells.toArray] u fun e w' => e = .returned (.bool true) ∧ Below u.heap.size u w') := Lib.hid fun u => by have := HN.out r u; rwa [hod] at this
        have HOD := Lib.hid hod
        clear hc hx hod
        have HLV : Hid (r.cells.length = 4) := Lib.hid rfl
        generalize r.cells = V at HRG HXF HLV
        go_wp2_with (first
          | ((with_reducible refine wpLoadRK HRG.out 36 fits_rec HLV.out ?_ ?_); rfl)
          | (go_at_call 50; (with_reducible refine (HXF.out wr).mono ?_); rintro e w1 ⟨rfl, b1⟩; have B1 : Hid (Below w.heap.size w w1) := Lib.hid (HBW.out.next b1); clear b1))
        go_ret
        exact ⟨ret_int (HF.out k hkl.out (fun i hi => HZ.out i (by have := hkl.out; omega) hi) (by rw [HX.out]; exact HOD.out)).symm, B1.out⟩
    · have HZE : Hid (Z = -1) := Lib.hid (HE.out fun i hi => HZ.out i hi (by have := HNL.out; omega))
      go_wp2
      go_ret
      exact ⟨ret_int HZE.out.symm, HBW.out⟩

set_option maxHeartbeats 1000000 in
theorem log_split1_index (a : Option Addr) (n cap : Nat) (l : List Rc) (w : World) (hn : l.length = n) (hn2 : n ≤ 1000000) (hr : Lies w w.heap.size a (rcs l)) :
    Calls Tryz.prog 73 #[.slice a n cap, .func (.func 88) #[] #[]] w fun e w' => e = .returned (.int .i64 (idxF isEnd l)) ∧ Below w.heap.size w w' := by
  have HN : Hid (∀ (r : Rc) (u : World), Calls Tryz.prog 88 #[.agg r.cells.toArray] u fun e w' => e = .returned (.bool (isEnd r)) ∧ Below u.heap.size u w') := Lib.hid fun r u => log_split1_any r u
  have HE : Hid ((∀ i (h : i < l.length), isEnd l[i] = false) → idxF isEnd l = -1) := Lib.hid fun h => by
    have : l.findIdx isEnd = l.length := List.findIdx_eq_length.2 fun x hx => by
      obtain ⟨i, hi, rfl⟩ := List.getElem_of_mem hx
      exact h i hi
    rw [idxF, this, if_neg (Nat.lt_irrefl _)]
  have HF : Hid (∀ k (hk : k < l.length), (∀ i (h : i < k), isEnd (l[i]'(by omega)) = false) → isEnd l[k] = true → idxF isEnd l = (k : Int)) := Lib.hid fun k hk h1 h2 => by
    have : l.findIdx isEnd = k := (List.findIdx_eq hk).2 ⟨h2, fun j hj => by rw [h1 j hj]⟩
    rw [idxF, this, if_pos hk]
  have hnI : (n : Int) ≤ 1000000 := by omega
  have HNL := Lib.hid hn
  have HR := Lib.hid hr
  generalize idxF isEnd l = Z at *
  clear hr
  go_enter Tryz.func73, Tryz.ntmps73
  go_wp2
  go_loopw [8] (fun i wr => ∃ k : Nat, k ≤ n ∧ i = .int .i64 k ∧ (∀ i (h : i < l.length), i < k → isEnd l[i] = false) ∧ Below w.heap.size w wr) (fun i _ => n - (intOf i).toNat)
  case atStart => exact ⟨0, Nat.zero_le _, rfl, fun i _ h => absurd h (Nat.not_lt_zero _), Below.refl _ _⟩
  case round =>
    obtain ⟨k, hk, rfl, hz, hbw⟩ := hrel
    have HZ := Lib.hid hz
    have HBW := Lib.hid hbw
    clear hz hbw
    by_cases hlt : k < n
    · have hkl : Hid (k < l.length) := Lib.hid (by rw [HNL.out]; exact hlt)
      obtain ⟨b2, off, rfl, hbb, hc⟩ := HR.out (by rw [rcs_length, HNL.out]; omega)
      obtain ⟨r, hx⟩ : ∃ r, l[k]'hkl.out = r := ⟨_, rfl⟩
      have HRG : Hid (wr.rangeAt b2 (off + k * 4) r.cells) := Lib.hid (by
        have := rcs_at (w := wr) (fun j u hj => (HBW.out.cell (p := ⟨b2, off + j, none⟩) hbb).trans (hc j u hj)) k hkl.out
        rwa [hx] at this)
      have HX := Lib.hid hx
      have hk1 : (k : Int) < (n : Int) := by omega
      cases hod : isEnd r
      · have HXF : Hid (∀ u : World, Calls Tryz.prog 88 #[.agg r.cells.toArray] u fun e w' => e = .returned (.bool false) ∧ Below u.heap.size u w') := Lib.hid fun u => by have := HN.out r u; rwa [hod] at this
        have HOD := Lib.hid hod
        clear hc hx hod
        have HLV : Hid (r.cells.length = 4) := Lib.hid rfl
        generalize r.cells = V at HRG HXF HLV
        go_wp2_with (first
          | ((with_reducible refine wpLoadRK HRG.out 36 fits_rec HLV.out ?_ ?_); rfl)
          | (go_at_call 88; (with_reducible refine (HXF.out wr).mono ?_); rintro e w1 ⟨rfl, b1⟩; have B1 : Hid (Below w.heap.size w w1) := Lib.hid (HBW.out.next b1); clear b1))
        go_roundw
        case rel =>
          refine ⟨k + 1, by omega, by go_num, fun i hi hik => ?_, B1.out⟩
          by_cases e : i = k
          · subst e; rw [HX.out]; exact HOD.out
          · exact HZ.out i hi (by omega)
        case measure => simp [intOf]; omega
      · have HXF : Hid (∀ u : World, Calls Tryz.prog 88 #[.agg r.cells.toArray] u fun e w' => e = .returned (.bool true) ∧ Below u.heap.size u w') := Lib.hid fun u => by have := HN.out r u; rwa [hod] at this
        have HOD := Lib.hid hod
        clear hc hx hod
        have HLV : Hid (r.cells.length = 4) := Lib.hid rfl
        generalize r.cells = V at HRG HXF HLV
        go_wp2_with (first
          | ((with_reducible refine wpLoadRK HRG.out 36 fits_rec HLV.out ?_ ?_); rfl)
          | (go_at_call 88; (with_reducible refine (HXF.out wr).mono ?_); rintro e w1 ⟨rfl, b1⟩; have B1 : Hid (Below w.heap.size w w1) := Lib.hid (HBW.out.next b1); clear b1))
        go_ret
        exact ⟨ret_int (HF.out k hkl.out (fun i hi => HZ.out i (by have := hkl.out; omega) hi) (by rw [HX.out]; exact HOD.out)).symm, B1.out⟩
    · have HZE : Hid (Z = -1) := Lib.hid (HE.out fun i hi => HZ.out i hi (by have := HNL.out; omega))
      go_wp2
      go_ret
      exact ⟨ret_int HZE.out.symm, HBW.out⟩

theorem log_contains (a : Option Addr) (n cap : Nat) (l : List Rc) (w : World) (hn : l.length = n) (hn2 : n ≤ 1000000) (hr : Lies w w.heap.size a (rcs l)) :
    Calls Tryz.prog 49 #[.slice a n cap, .func (.func 50) #[] #[]] w fun e w' => e = .returned (.bool (!(l.all Rc.may))) ∧ Below w.heap.size w w' := by
  have HI := Lib.hid (log_ask1_index a n cap l w hn hn2 hr)
  have HQ : Hid (decide (0 ≤ idxF mayNot l) = !(l.all Rc.may)) := Lib.hid (by
    rw [Bool.eq_iff_iff]
    unfold idxF
    by_cases h : l.findIdx mayNot < l.length
    · rw [if_pos h]
      have := List.findIdx_lt_length.1 h
      simp only [decide_eq_true_eq, Bool.not_eq_true', List.all_eq_false]
      obtain ⟨x, hx, hp⟩ := this
      refine ⟨fun _ => ⟨x, hx, by simpa [mayNot] using hp⟩, fun _ => by omega⟩
    · rw [if_neg h]
      simp only [decide_eq_true_eq, Bool.not_eq_true', List.all_eq_false]
      refine ⟨fun h => absurd h (by omega), fun ⟨x, hx, hp⟩ => absurd (List.findIdx_lt_length.2 ⟨x, hx, by simpa [mayNot] using hp⟩) h⟩)
  generalize idxF mayNot l = q at *
  generalize (!(l.all Rc.may)) = z at *
  clear hr
  cases z
  · have hq : ¬ 0 ≤ q := of_decide_eq_false HQ.out
    have hq1 : q < 0 := Int.not_le.1 hq
    go_enter Tryz.func49, Tryz.ntmps49
    go_wp2_with (go_at_call 73; (with_reducible refine HI.out.mono ?_); rintro e w1 ⟨rfl, b1⟩; have B1 := Lib.hid b1; clear b1)
    go_ret
    exact ⟨ret_bool (decide_eq_false (by omega)), B1.out⟩
  · have hq : 0 ≤ q := of_decide_eq_true HQ.out
    go_enter Tryz.func49, Tryz.ntmps49
    go_wp2_with (go_at_call 73; (with_reducible refine HI.out.mono ?_); rintro e w1 ⟨rfl, b1⟩; have B1 := Lib.hid b1; clear b1)
    go_ret
    exact ⟨rfl, B1.out⟩

theorem bares_take (l : List Rc) (k : Nat) (h : k < l.length) : rcs (bares (l.take (k + 1)) ++ l.drop (k + 1)) = (rcs (bares (l.take k) ++ l.drop k)).set (k * 4 + 2) (.int .i64 0) := by
  obtain ⟨⟨a, b, c, d⟩, hx⟩ : ∃ r, l[k] = r := ⟨_, rfl⟩
  have e1 : l.take (k + 1) = l.take k ++ [⟨a, b, c, d⟩] := by rw [List.take_succ_eq_append_getElem h, hx]
  have e2 : l.drop k = ⟨a, b, c, d⟩ :: l.drop (k + 1) := by rw [List.drop_eq_getElem_cons h, hx]
  rw [e1, e2, bares_append, rcs_append, rcs_append, rcs_append, rcs_cons]
  have hlen : (rcs (bares (l.take k))).length = k * 4 := by rw [rcs_length, bares_length, List.length_take]; congr 1; omega
  rw [List.set_append_right _ _ (by omega), hlen, show k * 4 + 2 - k * 4 = 2 by omega, List.append_assoc]
  rfl
set_option maxHeartbeats 1000000 in
theorem log_bare (a : Option Addr) (n cap : Nat) (l : List Rc) (w : World) (hn : l.length = n) (hn2 : n ≤ 1000000) (hr : Lies w w.heap.size a (rcs l)) :
    Calls Tryz.prog 33 #[.slice a n cap] w fun e w' => (∃ v, e = .returned v ∧ w'.ownsRow w.heap.size 36 4 v n (rcs (bares l))) ∧ Below w.heap.size w w' := by
  have HC := Lib.hid (log_clone a n cap l w hn hn2 hr)
  have HNL := Lib.hid hn
  have hnI : (n : Int) ≤ 1000000 := by omega
  clear hr hn
  go_enter Tryz.func33, Tryz.ntmps33
  go_wp2_with (go_at_call 39; (with_reducible refine HC.out.mono ?_); rintro e w1 ⟨⟨v, rfl, o1⟩, b1⟩; obtain ⟨a2, c2, rfl, -⟩ := own_formM o1; have O1 := Lib.hid o1; have B1 := Lib.hid b1; clear o1 b1)
  go_loopw [8] (fun i wr => ∃ k : Nat, k ≤ n ∧ i = .int .i64 k ∧ wr.ownsRow w.heap.size 36 4 (.slice a2 n c2) n (rcs (bares (l.take k) ++ l.drop k)) ∧ Below w.heap.size w wr) (fun i _ => n - (intOf i).toNat)
  case atStart => exact ⟨0, Nat.zero_le _, rfl, by simpa [bares] using O1.out, B1.out⟩
  case round =>
    clear O1 B1
    obtain ⟨k, hk, rfl, hown, hbw⟩ := hrel
    have HOWN := Lib.hid hown
    have HBW := Lib.hid hbw
    clear hown hbw
    by_cases hlt : k < n
    · have hk1 : (k : Int) < (n : Int) := by omega
      have hfm : ∃ g, a2 = some ⟨g, 0, none⟩ := by
        rcases HOWN.out.2 with ⟨h1, h2⟩ | ⟨g, cap, cur, h1, _⟩
        · omega
        · cases h1; exact ⟨g, rfl⟩
      obtain ⟨g, rfl⟩ := hfm
      have HT : Hid (rcs (bares (l.take (k + 1)) ++ l.drop (k + 1)) = (rcs (bares (l.take k) ++ l.drop k)).set (k * 4 + 2) (.int .i64 0)) := Lib.hid (bares_take l k (by rw [HNL.out]; exact hlt))
      generalize rcs (bares (l.take k) ++ l.drop k) = X at *
      obtain ⟨Y, hY⟩ : ∃ Y, rcs (bares (l.take (k + 1)) ++ l.drop (k + 1)) = Y := ⟨_, rfl⟩
      rw [hY] at HT
      have HYE := Lib.hid hY
      clear hY
      obtain ⟨ys, hrow⟩ : ∃ ys, Row wr g 36 (X ++ ys) := by
        rcases HOWN.out.2 with ⟨h1, _⟩ | ⟨g', cap', cur, h1, h2, h3, h4, h5, h6, h7⟩
        · cases h1
        · cases h1
          exact ⟨cur.toList.drop (n * 4), by rw [← h7, List.take_append_drop]; exact h3⟩
      have hXl := HOWN.out.1
      have HLT : Hid (k * 4 + 2 < (X ++ ys).length) := Lib.hid (by rw [List.length_append]; omega)
      have HROW := Lib.hid hrow
      have HSETX : Hid ((X ++ ys).set (k * 4 + 2) (.int .i64 0) = Y ++ ys) := Lib.hid (by rw [List.set_append_left _ _ (by omega), HT.out])
      have HYL : Hid (Y.length = n * 4) := Lib.hid (by rw [HT.out, List.length_set]; exact hXl)
      have HXL := Lib.hid hXl
      have hidx : (0 : Int) ≤ (k : Int) := by omega
      clear hrow hXl
      go_wp2_with ((with_reducible refine HROW.out.wpStore1K (k * 4 + 2) 3 (.int .i64 0) finfo_int HLT.out (int_cells _ _) (int_one _ _) ?_ ?_); rfl; intro w2 r2 o2 s2; have R2 := Lib.hid r2; have O2 := Lib.hid o2; clear r2 o2 s2)
      go_roundw
      case rel =>
        refine ⟨k + 1, by omega, by go_num, ?_, ?_⟩
        · have hr2 := R2.out
          rw [HSETX.out] at hr2
          rw [HYE.out]
          refine ⟨HYL.out, ?_⟩
          rcases HOWN.out.2 with ⟨h1, _⟩ | ⟨g', cap', cur, h1, h2, h3, h4, h5, h6, h7⟩
          · cases h1
          · cases h1
            have hl2 : (X ++ ys).length = cur.size := by
              have e3 : Row wr g 36 (X ++ ys) := HROW.out
              unfold Row at e3
              rw [h3] at e3
              have := congrArg (fun o => match o with | some (Obj.cells c _ _) => c.size | _ => 0) e3
              simpa using this.symm
            refine .inr ⟨g, c2, (Y ++ ys).toArray, rfl, h2, hr2, h4, h5, ?_, ?_⟩
            · have h8 : (Y ++ ys).length = (X ++ ys).length := by rw [← HSETX.out, List.length_set]
              show (Y ++ ys).length = c2 * 4
              rw [h8, hl2]
              exact h6
            · show (Y ++ ys).take (n * 4) = Y
              rw [← HYL.out, List.take_left']
              rfl
        · have hge : w.heap.size ≤ g := owns_ge HOWN.out g rfl
          exact HBW.out.trans (O2.out.below hge HBW.out.size)
      case measure => simp [intOf]; omega
    · have HKE : Hid (l.take k = l ∧ l.drop k = []) := Lib.hid ⟨List.take_of_length_le (by rw [HNL.out]; omega), List.drop_of_length_le (by rw [HNL.out]; omega)⟩
      go_wp2
      go_ret
      have := HOWN.out
      rw [HKE.out.1, HKE.out.2, List.append_nil] at this
      exact ⟨⟨_, rfl, this⟩, HBW.out⟩
end Go.Proofs.YtbnjenbhpaknbaaGreat

/- A device, however often it was asked: what its operations leave. -/
namespace Go.Proofs.YtbnjenbhpaknbaaGreat
open Go.RowKit FlaMath
set_option linter.unusedVariables false
set_option maxRecDepth 100000

/-- A device, however often it was asked. -/
def Dvx (w : World) (s : Sh) (D : Dv) : Prop := ∃ o, Dev w s { D with ops := o }
theorem Dev.dvx {w : World} {s : Sh} {D : Dv} (h : Dev w s D) : Dvx w s D := ⟨D.ops, h⟩
theorem Dvx.step {w w' : World} {s : Sh} {D : Dv} (h : Dvx w s D) (hb : Below w.heap.size w w') : Dvx w' s D := let ⟨o, ho⟩ := h; ⟨o, ho.step hb⟩
theorem Dvx.onl {w w' : World} {s : Sh} {D : Dv} {S : List Nat} (h : Dvx w s D) (ho : Onl S w w') (hs : ∀ k ∈ s.S, k ∉ S) : Dvx w' s D := let ⟨o, h⟩ := h; ⟨o, h.onl ho hs⟩
theorem Dvx.ok {w : World} {s : Sh} {D : Dv} (h : Dvx w s D) : D.Ok := let ⟨_, h⟩ := h; ⟨h.ok.one, h.ok.top, h.ok.cells, h.ok.worn⟩
theorem Dvx.lt {w : World} {s : Sh} {D : Dv} (h : Dvx w s D) : ∀ k ∈ s.S, k < w.heap.size := let ⟨_, h⟩ := h; h.lt
theorem burnB_ops (D : Dv) (o : Int) : burnB { D with ops := o } = burnB D := rfl
theorem workD_ops (D : Dv) (x : Int) (o n : Nat) (f g : Nat → UInt8 → UInt8) : workD { D with ops := x } o n f g = { workD D o n f g with ops := wrap64 (x + 1) } := by
  unfold workD
  rw [burned_ops, burnB_ops]
theorem opE_ops (o : Fop) (D : Dv) (x : Int) : opE o { D with ops := x } = opE o D := by
  unfold opE
  split <;> rfl
theorem opD_ops (o : Fop) (D : Dv) (x : Int) : ∃ y, opD o { D with ops := x } = { opD o D with ops := y } := by
  unfold opD
  split
  · unfold eraseD
    have e : eraseB { D with ops := x } o.1 = eraseB D o.1 := rfl
    rw [e]
    split
    · exact ⟨_, workD_ops (worn D o.1.toNat) x _ _ _ _⟩
    · exact ⟨x, rfl⟩
  · rename_i l _
    unfold programD
    have e : programB { D with ops := x } o.1 l = programB D o.1 l := rfl
    rw [e]
    split
    · exact ⟨_, workD_ops D x _ _ _ _⟩
    · exact ⟨x, rfl⟩
theorem dvx_erase (s : Sh) (D : Dv) (i : Int) (w : World) (h : Dvx w s D) :
    Calls Tryz.prog 51 #[.pointer (some ⟨s.b, 0, none⟩), .int .i64 i] w fun e w' => e = .returned (.int .i64 (eraseE D i)) ∧ Dvx w' s (eraseD D i) ∧ Onl s.S w w' := by
  obtain ⟨x, h⟩ := h
  refine (fla_erase_any s _ i w h).mono ?_
  rintro e w' ⟨rfl, h1, h2⟩
  obtain ⟨y, hy⟩ := opD_ops (i, none) D x
  refine ⟨by rw [show eraseE { D with ops := x } i = eraseE D i from rfl], ⟨y, ?_⟩, h2⟩
  have : eraseD { D with ops := x } i = { eraseD D i with ops := y } := hy
  rwa [this] at h1
theorem dvx_program (s : Sh) (D : Dv) (x : Int) (t : ByteArray) (w : World) (h : Dvx w s D) (hx : x < 9223372036854775808) (hs : t.size ≤ 140737488355328) :
    Calls Tryz.prog 60 #[.pointer (some ⟨s.b, 0, none⟩), .int .i64 x, .string t] w fun e w' => e = .returned (.int .i64 (programE D x t.data.toList)) ∧ Dvx w' s (programD D x t.data.toList) ∧ Onl s.S w w' := by
  obtain ⟨o, h⟩ := h
  refine (program_any s _ x t w h hx hs).mono ?_
  rintro e w' ⟨rfl, h1, h2⟩
  obtain ⟨y, hy⟩ := opD_ops (x, some t.data.toList) D o
  refine ⟨by rw [show programE { D with ops := o } x t.data.toList = programE D x t.data.toList from rfl], ⟨y, ?_⟩, h2⟩
  have : programD { D with ops := o } x t.data.toList = { programD D x t.data.toList with ops := y } := hy
  rwa [this] at h1
theorem dvx_read (s : Sh) (D : Dv) (x y : Int) (w : World) (h : Dvx w s D) (hx : x < 9223372036854775808) :
    Calls Tryz.prog 56 #[.pointer (some ⟨s.b, 0, none⟩), .int .i64 x, .int .i64 y] w fun e w' => e = .returned (.tuple #[.string (str (readS D x y)), .int .i64 (readE D x y)]) ∧ Dvx w' s D ∧ Onl s.S w w' := by
  obtain ⟨o, h⟩ := h
  refine (read_any s _ x y w h hx).mono ?_
  rintro e w' ⟨rfl, h1, h2⟩
  refine ⟨rfl, ?_, h2⟩
  unfold Dv.readD at h1
  split at h1
  · exact ⟨_, h1⟩
  · exact ⟨_, h1⟩

theorem Row.offD {w : World} {sh : Sh} {D : Dv} {g : Nat} {t : TypeId} {l : List Value} (h : Row w g t l) (hd : Dvx w sh D) (h1 : t ≠ 85) (h2 : t ≠ 5) (h3 : t ≠ 4) (h4 : t ≠ 3) : g ∉ sh.S := by
  intro hm
  obtain ⟨o, hd⟩ := hd
  simp only [Sh.S, List.mem_cons, List.not_mem_nil, or_false] at hm
  rcases hm with e | e | e | e
  · exact row_ne h hd.row h1 e
  · exact row_ne h hd.c h2 e
  · exact row_ne h hd.l h3 e
  · exact row_ne h hd.e h4 e
end Go.Proofs.YtbnjenbhpaknbaaGreat

/- Contracts of flash: Wear, Copy. (gen_fla_copy.py) -/
namespace Go.Proofs.YtbnjenbhpaknbaaGreat
open Go.RowKit FlaMath
set_option linter.unusedVariables false
set_option maxRecDepth 100000

def wearF (L : List Bool) (E : List Int) (l : List Int) : Int := l.foldl (fun (a : Int) (i : Int) => if 0 ≤ i ∧ i < L.length then wrap64 (a + E.getD i.toNat 0) else a) 0
theorem wearF_snoc (L : List Bool) (E : List Int) (l : List Int) (i : Int) : wearF L E (l ++ [i]) = if 0 ≤ i ∧ i < L.length then wrap64 (wearF L E l + E.getD i.toNat 0) else wearF L E l := by simp [wearF, List.foldl_append]
theorem fone_bool : One Tryz.prog 4 := One.of (by kernel_rfl)
theorem fone_int : One Tryz.prog 3 := One.of (by kernel_rfl)

theorem fbools_one (l : List Bool) : (fbools l).all (·.oneCell') = true := by simp [fbools, List.all_eq_true]; exact ⟨fun _ => rfl, fun _ => rfl⟩
theorem fbytes_one (l : List UInt8) : (bytes l).all (·.oneCell') = true := by simp [bytes, List.all_eq_true]; intro x _; rfl
theorem fints_one (l : List Int) : (ints l).all (·.oneCell') = true := by simp [ints, List.all_eq_true]; intro x _; rfl
theorem fla_row_lies {w : World} {g : Nat} {t : TypeId} {x z : List Value} (h : Row w g t (x ++ z)) : Lies w w.heap.size (some ⟨g, 0, none⟩) x := by
  intro _
  refine ⟨g, 0, rfl, h.lt, fun j u hj => ?_⟩
  rw [Nat.zero_add, h.cell, List.getElem?_append_left (List.getElem?_eq_some_iff.1 hj).1]
  exact hj
theorem devL_one (s : Sh) (D : Dv) : (devL s D).all (·.oneCell') = true := by simp [devL, List.all]; exact ⟨rfl, rfl, rfl, rfl, rfl, rfl, rfl, rfl, rfl⟩
theorem fits_dev : Fits Tryz.prog 85 9 := ⟨⟨_, Tryz.underlying85, rfl⟩, by kernel_rfl⟩
def dev0 : List Value := [.int .i64 0, .int .u8 0, .bool false, .int .i64 0, .slice none 0 0, .slice none 0 0, .slice none 0 0, .int .i64 0, .bool false]
theorem zero_dev : ∀ u, (zeroValue 85).run Tryz.prog u = .ok (.agg dev0.toArray) u := fun u => by kernel_rfl
theorem finfo_bools : (Tryz.prog.info? 82).map (·.size) = some 1 := by kernel_rfl
theorem finfo_ints : (Tryz.prog.info? 83).map (·.size) = some 1 := by kernel_rfl
end Go.Proofs.YtbnjenbhpaknbaaGreat

/- What a torn erase, a torn program leave: FlashTears' mathematics. -/
namespace Go.Proofs.YtbnjenbhpaknbaaGreat
open Go.RowKit FlaMath
set_option linter.unusedVariables false
set_option maxRecDepth 100000

/-- Where x has a bit, y has it. -/
def Sub (x y : UInt8) : Prop := ∀ i, x.toNat.testBit i = true → y.toNat.testBit i = true
theorem Sub.refl (x : UInt8) : Sub x x := fun _ h => h
theorem Sub.full (x : UInt8) : Sub x 255 := fun i h => by
  have hx : x.toNat < 2 ^ 8 := x.toNat_lt
  have hi : i < 8 := by
    rcases Nat.lt_or_ge i 8 with h' | h'
    · exact h'
    · rw [Nat.testBit_lt_two_pow (Nat.lt_of_lt_of_le hx (Nat.pow_le_pow_right (by omega) h'))] at h; cases h
  have : (255 : UInt8).toNat = 2 ^ 8 - 1 := rfl
  rw [this, Nat.testBit_two_pow_sub_one]
  exact decide_eq_true hi
theorem Sub.or (x m : UInt8) : Sub x (x ||| m) := fun i h => by rw [UInt8.toNat_or, Nat.testBit_or, h]; rfl
theorem Sub.and (x m : UInt8) : Sub (x &&& m) x := fun i h => by
  rw [UInt8.toNat_and, Nat.testBit_and, Bool.and_eq_true] at h
  exact h.1
theorem Sub.andNot {x y : UInt8} (h : Sub x y) : bits .andNot .u8 (x.toNat : Int) (y.toNat : Int) = 0 := by
  rw [u8_andNot_nat _ _ x.toNat_lt y.toNat_lt]
  have e : x.toNat &&& (255 - y.toNat) = 0 := by
    apply Nat.eq_of_testBit_eq
    intro i
    have hy : y.toNat < 2 ^ 8 := y.toNat_lt
    rw [Nat.testBit_and, show 255 - y.toNat = 2 ^ 8 - (y.toNat + 1) by omega, Nat.testBit_two_pow_sub_succ hy, Nat.zero_testBit]
    cases hx : x.toNat.testBit i with
    | false => rfl
    | true => rw [h i hx]; simp
  rw [e]; rfl
theorem sec_get (C : List UInt8) (k i : Nat) (hi : i < 64) : (sec C k).getD i 0 = C.getD (k * 64 + i) 0 := by
  rw [sec, List.getD_eq_getElem?_getD, List.getD_eq_getElem?_getD, List.getElem?_take_of_lt hi, List.getElem?_drop]
theorem work_getD (C : List UInt8) (o n r : Nat) (f g : Nat → UInt8 → UInt8) (j : Nat) (hj : j < C.length) :
    (FlaMath.work C o n r f g).getD j 0 = if o ≤ j ∧ j < o + r then f (j - o) (C.getD j 0) else if j = o + r ∧ r < n then g r (C.getD j 0) else C.getD j 0 := by
  have h1 := work_get C o n r f g j hj
  have e1 : (FlaMath.work C o n r f g).getD j 0 = (FlaMath.work C o n r f g)[j]'(by rw [work_length]; exact hj) := by
    rw [List.getD_eq_getElem?_getD, List.getElem?_eq_getElem (by rw [work_length]; exact hj)]; rfl
  have e2 : C.getD j 0 = C[j] := by rw [List.getD_eq_getElem?_getD, List.getElem?_eq_getElem hj]; rfl
  rw [e1, e2, h1]

/-- A device of three sectors that is up, and a fuse of nought laid. -/
structure Up3 (D : Dv) : Prop where
  len : D.L = List.replicate 3 false
  cel : D.C.length = 192
  up : D.dn = false
theorem rot_keeps (D : Dv) (x : Int) (l : List UInt8) : (D.rot x l).L = D.L ∧ (D.rot x l).dn = D.dn ∧ (D.rot x l).C.length = D.C.length := by
  unfold Dv.rot
  split
  · exact ⟨rfl, rfl, rotF_length _ _ _⟩
  · exact ⟨rfl, rfl, rfl⟩
theorem up3_rot (x : Int) (l : List UInt8) : Up3 ((D0 3).rot x l) := by
  obtain ⟨h1, h2, h3⟩ := rot_keeps (D0 3) x l
  exact ⟨h1, by rw [h3]; simp [D0], h2⟩
theorem fuse_burns (D : Dv) (fb : Int) (fm : UInt8) : burnB (D.fuse 0 fb fm) = true := by
  have h1 : wrap64 (0 - 1) < 0 := by unfold wrap64; omega
  have h2 : burnB (D.fuse 0 fb fm) = (decide ((0 : Int) ≤ 0) && decide (wrap64 (0 - 1) < 0)) := rfl
  rw [h2, decide_eq_true h1]; rfl
structure Tears (D D3 : Dv) (er : Bool) : Prop where
  dn : D3.dn = true
  s0 : dump D3 0 = dump D 0
  s2 : dump D3 2 = dump D 2
  sub : ∀ i, i < 64 → if er then Sub ((dump D 1).getD i 0) ((dump D3 1).getD i 0) else Sub ((dump D3 1).getD i 0) ((dump D 1).getD i 0) ∧ ((i < 16 ∨ 32 ≤ i) → (dump D 1).getD i 0 = (dump D3 1).getD i 0)
theorem dump_i (D : Dv) (k : Nat) (h : k < D.L.length) : dump D (k : Int) = sec D.C k := FlaMath_dump_eq D k h
theorem tear_erase (D : Dv) (fb : Int) (fm : UInt8) (h : Up3 D) : eraseE (D.fuse 0 fb fm) 1 = 5 ∧ Tears D (eraseD (D.fuse 0 fb fm) 1) true := by
  have hL : (D.fuse 0 fb fm).L = List.replicate 3 false := h.len
  have hdn : (D.fuse 0 fb fm).dn = false := h.up
  have hb := fuse_burns D fb fm
  have hB : eraseB (D.fuse 0 fb fm) 1 = true := by rw [eraseB, hL, hdn]; decide
  have hE : eraseE (D.fuse 0 fb fm) 1 = 5 := by rw [eraseE, hL, hdn, hb]; decide
  have hl : D.L.length = 3 := by rw [h.len]; rfl
  have hl3 : (eraseD (D.fuse 0 fb fm) 1).L.length = 3 := by rw [eraseD_L, hL]; rfl
  obtain ⟨r, hr, hC⟩ := workD_C (worn (D.fuse 0 fb fm) 1) (1 * 64) 64 fE (gE (D.fuse 0 fb fm).fm)
  have hC3 : (eraseD (D.fuse 0 fb fm) 1).C = FlaMath.work D.C (1 * 64) 64 r fE (gE fm) := by rw [eraseD, if_pos hB]; exact hC
  refine ⟨hE, ⟨?_, ?_, ?_, fun i hi => ?_⟩⟩
  · rw [eraseD, if_pos hB]; exact hb
  · have e1 := dump_i D 0 (by omega)
    have e2 := dump_i (eraseD (D.fuse 0 fb fm) 1) 0 (by omega)
    rw [hC3, sec_work _ _ _ _ _ _ hr 0 (by omega)] at e2
    exact e2.trans e1.symm
  · have e1 := dump_i D 2 (by omega)
    have e2 := dump_i (eraseD (D.fuse 0 fb fm) 1) 2 (by omega)
    rw [hC3, sec_work _ _ _ _ _ _ hr 2 (by omega)] at e2
    exact e2.trans e1.symm
  · have e1 := dump_i D 1 (by omega)
    have e2 := dump_i (eraseD (D.fuse 0 fb fm) 1) 1 (by omega)
    have e1' : dump D 1 = sec D.C 1 := e1
    have e2' : dump (eraseD (D.fuse 0 fb fm) 1) 1 = sec (eraseD (D.fuse 0 fb fm) 1).C 1 := e2
    rw [if_pos rfl, e1', e2', hC3, sec_get _ _ _ hi, sec_get _ _ _ hi, work_getD _ _ _ _ _ _ _ (by rw [h.cel]; omega)]
    split
    · exact Sub.full _
    · split
      · exact Sub.or _ _
      · exact Sub.refl _
theorem tear_program (D : Dv) (fb : Int) (fm : UInt8) (l : List UInt8) (hlen : l.length = 16) (h : Up3 D) : programE (D.fuse 0 fb fm) 80 l = 5 ∧ Tears D (programD (D.fuse 0 fb fm) 80 l) false := by
  have hL : (D.fuse 0 fb fm).L = List.replicate 3 false := h.len
  have hdn : (D.fuse 0 fb fm).dn = false := h.up
  have hcl : (D.fuse 0 fb fm).C.length = 192 := h.cel
  have hb := fuse_burns D fb fm
  have hB : programB (D.fuse 0 fb fm) 80 l = true := by rw [programB, hL, hdn, hcl, hlen]; decide
  have hE : programE (D.fuse 0 fb fm) 80 l = 5 := by rw [programE, hL, hdn, hcl, hlen, hb]; decide
  have hl : D.L.length = 3 := by rw [h.len]; rfl
  have hl3 : (programD (D.fuse 0 fb fm) 80 l).L.length = 3 := by rw [programD_L, hL]; rfl
  obtain ⟨r, hr, hC⟩ := workD_C (D.fuse 0 fb fm) 80 16 (fP l) (gP l (D.fuse 0 fb fm).fm)
  have hC3 : (programD (D.fuse 0 fb fm) 80 l).C = FlaMath.work D.C 80 16 r (fP l) (gP l fm) := by rw [programD, if_pos hB]; exact hC
  refine ⟨hE, ⟨?_, ?_, ?_, fun i hi => ?_⟩⟩
  · rw [programD, if_pos hB]; exact hb
  · have e1 := dump_i D 0 (by omega)
    have e2 := dump_i (programD (D.fuse 0 fb fm) 80 l) 0 (by omega)
    rw [hC3, sec_work _ _ _ _ _ _ hr 0 (by omega)] at e2
    exact e2.trans e1.symm
  · have e1 := dump_i D 2 (by omega)
    have e2 := dump_i (programD (D.fuse 0 fb fm) 80 l) 2 (by omega)
    rw [hC3, sec_work _ _ _ _ _ _ hr 2 (by omega)] at e2
    exact e2.trans e1.symm
  · have e1 := dump_i D 1 (by omega)
    have e2 := dump_i (programD (D.fuse 0 fb fm) 80 l) 1 (by omega)
    have e1' : dump D 1 = sec D.C 1 := e1
    have e2' : dump (programD (D.fuse 0 fb fm) 80 l) 1 = sec (programD (D.fuse 0 fb fm) 80 l).C 1 := e2
    rw [if_neg (by simp), e1', e2', hC3, sec_get _ _ _ hi, sec_get _ _ _ hi, work_getD _ _ _ _ _ _ _ (by rw [h.cel]; omega)]
    refine ⟨?_, fun ho => ?_⟩
    · split
      · exact Sub.and _ _
      · split
        · exact Sub.and _ _
        · exact Sub.refl _
    · rw [if_neg (by omega), if_neg (by omega)]
theorem dump_len64 (D : Dv) (h : D.Ok) (k : Nat) (hk : k < D.L.length) : (dump D (k : Int)).length = 64 := by
  rw [dump_i D k hk, sec, List.length_take, List.length_drop, h.cells]; omega
end Go.Proofs.YtbnjenbhpaknbaaGreat

/- RecordTorn (gen_rec_j.py). -/
namespace Go.Proofs.YtbnjenbhpaknbaaGreat
open Go.RowKit CrcMath NumMath FlaMath
set_option linter.unusedVariables false
set_option maxRecDepth 100000

theorem TabAt.onl {w w' : World} {b : Nat} {S : List Nat} (h : TabAt w b) (ho : Onl S w w') (hne : b ∉ S) : TabAt w' b := by
  refine ⟨Nat.lt_of_lt_of_le h.lt ho.size, fun j hj => ?_⟩
  have h1 := h.tab j hj
  have h2 : w'.heap[b]? = w.heap[b]? := ho.2.2.2.2 b h.lt hne
  simp only [World.cell?, h2] at h1 ⊢
  exact h1
theorem and_full (x : UInt8) : (255 : UInt8) &&& x = x := by
  apply UInt8.toNat_inj.1
  rw [UInt8.toNat_and, Nat.and_comm, show (255 : UInt8).toNat = 2 ^ 8 - 1 from rfl, Nat.and_two_pow_sub_one_eq_mod, Nat.mod_eq_of_lt x.toNat_lt]
/-- What is left, behind power: its bytes up to some place, and blank ones behind it. -/
theorem left_page (fb : Int) (fm : UInt8) (l : List UInt8) (hl : l.length = 16) :
    ∃ (Q : List UInt8) (m : Nat), readS (programD ((D0 1).fuse 0 fb fm) 16 l).on 16 16 = Q ∧ readE (programD ((D0 1).fuse 0 fb fm) 16 l).on 16 16 = 0 ∧ Q.length = 16 ∧ (∀ i, i < m → i < 16 → Q.getD i 0 = l.getD i 0) ∧ (∀ i, m < i → i < 16 → Q.getD i 0 = 255) := by
  have hb := fuse_burns (D0 1) fb fm
  have hL : ((D0 1).fuse 0 fb fm).L = List.replicate 1 false := rfl
  have hdn : ((D0 1).fuse 0 fb fm).dn = false := rfl
  have hcl : ((D0 1).fuse 0 fb fm).C.length = 64 := by show (List.replicate 64 (255 : UInt8)).length = 64; simp
  have hB : programB ((D0 1).fuse 0 fb fm) 16 l = true := by rw [programB, hL, hdn, hcl, hl]; decide
  obtain ⟨r, hr, hC⟩ := workD_C ((D0 1).fuse 0 fb fm) 16 16 (fP l) (gP l ((D0 1).fuse 0 fb fm).fm)
  have hC3 : (programD ((D0 1).fuse 0 fb fm) 16 l).C = FlaMath.work (List.replicate 64 255) 16 16 r (fP l) (gP l fm) := by rw [programD, if_pos hB]; exact hC
  obtain ⟨C', hC'⟩ : ∃ C', (programD ((D0 1).fuse 0 fb fm) 16 l).C = C' := ⟨_, rfl⟩
  rw [hC'] at hC3
  have lC : C'.length = 64 := by rw [hC3, work_length]; simp
  have hE : readE (programD ((D0 1).fuse 0 fb fm) 16 l).on 16 16 = 0 := by
    have e : (programD ((D0 1).fuse 0 fb fm) 16 l).on.C = C' := hC'
    have e2 : (programD ((D0 1).fuse 0 fb fm) 16 l).on.dn = false := rfl
    rw [readE, e, e2, lC]
    decide
  have hS : readS (programD ((D0 1).fuse 0 fb fm) 16 l).on 16 16 = (C'.drop 16).take 16 := by
    have e : (programD ((D0 1).fuse 0 fb fm) 16 l).on.C = C' := hC'
    rw [readS, if_pos hE, e]
    rfl
  have hg : ∀ i, i < 16 → ((C'.drop 16).take 16).getD i 0 = C'.getD (16 + i) 0 := fun i hi => by
    rw [List.getD_eq_getElem?_getD, List.getElem?_take_of_lt hi, List.getElem?_drop, List.getD_eq_getElem?_getD]
  have h255 : ∀ j, j < 64 → (List.replicate 64 (255 : UInt8)).getD j 0 = 255 := fun j hj => by
    rw [List.getD_eq_getElem?_getD, List.getElem?_replicate, if_pos hj]; rfl
  refine ⟨_, r, hS, hE, by simp [lC], fun i h1 h2 => ?_, fun i h1 h2 => ?_⟩
  · rw [hg i h2, hC3, work_getD _ _ _ _ _ _ _ (by simp; omega), if_pos (by omega), h255 _ (by omega), fP, and_full]
    congr 1
    omega
  · rw [hg i h2, hC3, work_getD _ _ _ _ _ _ _ (by simp; omega), if_neg (by omega), if_neg (by omega), h255 _ (by omega)]

end Go.Proofs.YtbnjenbhpaknbaaGreat

/- Contracts of geo's Slot, log, tally, All, Room, Golden, ask (gen_geo_c.py). -/
namespace Go.Proofs.YtbnjenbhpaknbaaGreat
open Go.RowKit GeoMath
set_option linter.unusedVariables false
set_option maxRecDepth 100000

theorem slot_any (g : Gm) (w : World) :
    Calls Tryz.prog 62 #[geoV g] w fun e w' => e = .returned (.int .i64 (slot g)) ∧ Below w.heap.size w w' := by
  have HX := Lib.hid fun w1 => wide_any g w1
  have HW : Hid (IntKind.i64.wrap (wide g * g.s) = slot g) := Lib.hid (by
    have := slot_le g
    rw [← slot, IntKind.wrap_i64]
    omega)
  generalize slot g = sl at HW ⊢
  generalize wide g = wd at HX HW
  obtain ⟨d, p, s⟩ := g
  dsimp only [geoV] at HX HW ⊢
  go_enter Tryz.func62, Tryz.ntmps62
  go_wp2_with ((with_reducible refine wpBoxK [Value.int .i64 d, .int .i64 p, .int .i64 s] 33 ?_ ?_); rfl; intro w1 r1 b1 s1; have R1 := Lib.hid r1; have B1 := Lib.hid b1; clear r1 b1 s1)
  have HLT : Hid (w.heap.size < w1.heap.size) := Lib.hid R1.out.lt
  have C0 : Hid (w1.cell? ⟨w.heap.size, 0, none⟩ = some (.int .i64 d)) := Lib.hid (R1.out.cell 0)
  have C1 : Hid (w1.cell? ⟨w.heap.size, 1, none⟩ = some (.int .i64 p)) := Lib.hid (R1.out.cell 1)
  have C2 : Hid (w1.cell? ⟨w.heap.size, 2, none⟩ = some (.int .i64 s)) := Lib.hid (R1.out.cell 2)
  refine region_invX [(0, 3), (1, 4), (2, 5), (3, 6), (4, 7), (5, 2)]
    (fun ii => [Is (.agg #[(.int .i64 d), (.int .i64 p), (.int .i64 s)]), Is (.int .i64 wd), Is (.pointer (some ⟨w.heap.size, 2, none⟩)), Is (.int .i64 s), Is (.int .i64 sl), Is (.int .i64 sl)].getD ii (Is undef))
    (fun w' => Below w1.heap.size w1 w') (by kernel_rfl) (by kernel_rfl) (by decide) (by decide) (by kernel_rfl) rfl ?monoq ((Below.refl _ _).drew) ?stepq ?finq
  case monoq =>
    intro i
    match i with
    | 0 | 1 | 2 | 3 | 4 | 5 => exact Is.monot _
    | _ + 6 => exact Is.monot _
  case stepq =>
    refine List.forall_mem_cons.2 ⟨?qs0, List.forall_mem_cons.2 ⟨?qs1, List.forall_mem_cons.2 ⟨?qs2, List.forall_mem_cons.2 ⟨?qs3, List.forall_mem_cons.2 ⟨?qs4, List.forall_mem_cons.2 ⟨?qs5, List.forall_mem_nil _⟩⟩⟩⟩⟩⟩
    case qs0 =>
      intro u wx hg hC
      clear hC
      have hcl0 : wx.cell? ⟨w.heap.size, 0, none⟩ = some (.int .i64 d) := (hg.cell (p := ⟨w.heap.size, 0, none⟩) HLT.out).trans C0.out
      have hcl1 : wx.cell? ⟨w.heap.size, 1, none⟩ = some (.int .i64 p) := (hg.cell (p := ⟨w.heap.size, 1, none⟩) HLT.out).trans C1.out
      have hcl2 : wx.cell? ⟨w.heap.size, 2, none⟩ = some (.int .i64 s) := (hg.cell (p := ⟨w.heap.size, 2, none⟩) HLT.out).trans C2.out
      refine wpOp_step rfl (fun K hK => ?_)
      simp only [puts, List.foldl]
      go_simp
      exact hK _ _ ⟨rfl, rfl, hg, Below.refl _ _⟩
    case qs1 =>
      intro u wx hg hC
      have hJ0 : u 0 = (.agg #[(.int .i64 d), (.int .i64 p), (.int .i64 s)]) := hC.at 0 (by kernel_rfl)
      clear hC
      refine wpOp_step rfl (fun K hK => ?_)
      simp only [puts, List.foldl]
      go_simp
      refine (HX.out wx).mono ?_
      rintro e w' ⟨rfl, hb'⟩
      exact hK _ _ ⟨rfl, rfl, hg.next hb', hb'⟩
    case qs2 =>
      intro u wx hg hC
      clear hC
      refine wpOp_step rfl (fun K hK => ?_)
      simp only [puts, List.foldl]
      go_simp
      exact hK _ _ ⟨rfl, rfl, hg, Below.refl _ _⟩
    case qs3 =>
      intro u wx hg hC
      have hJ2 : u 2 = (.pointer (some ⟨w.heap.size, 2, none⟩)) := hC.at 2 (by kernel_rfl)
      clear hC
      have hcl : wx.cell? ⟨w.heap.size, 2, none⟩ = some (.int .i64 s) := (hg.cell (p := ⟨w.heap.size, 2, none⟩) HLT.out).trans C2.out
      refine wpOp_step rfl (fun K hK => ?_)
      simp only [puts, List.foldl]
      go_simp
      exact hK _ _ ⟨rfl, rfl, hg, Below.refl _ _⟩
    case qs4 =>
      intro u wx hg hC
      have hJ1 : u 1 = (.int .i64 wd) := hC.at 1 (by kernel_rfl)
      have hJ3 : u 3 = (.int .i64 s) := hC.at 3 (by kernel_rfl)
      clear hC
      have hw : IntKind.i64.wrap (wd * s) = sl := HW.out
      refine wpOp_step rfl (fun K hK => ?_)
      simp only [puts, List.foldl]
      go_simp
      exact hK _ _ ⟨rfl, rfl, hg, Below.refl _ _⟩
    case qs5 =>
      intro u wx hg hC
      have hJ4 : u 4 = (.int .i64 sl) := hC.at 4 (by kernel_rfl)
      clear hC
      refine wpOp_step rfl (fun K hK => ?_)
      simp only [puts, List.foldl]
      go_simp
      exact hK _ _ ⟨rfl, rfl, hg, Below.refl _ _⟩
  case finq =>
    intro u wq hbq hφ
    have e2 : u 5 = .int .i64 sl := hφ (5, 2) (by decide)
    clear hφ
    simp only [puts, List.foldl]
    go_simp
    have HBQ := Lib.hid (B1.out.next hbq)
    clear hbq e2
    go_wp2
    go_ret
    exact ⟨ret_int rfl, HBQ.out⟩
theorem geo_log_any (g : Gm) (w : World) :
    Calls Tryz.prog 36 #[geoV g] w fun e w' => e = .returned (.int .i64 (log g)) ∧ Below w.heap.size w w' := by
  have HX := Lib.hid fun w1 => slot_any g w1
  have HW := slot_le g
  rw [log]
  generalize slot g = sl at HX HW ⊢
  have h1 := HW.1
  have h2 := HW.2
  clear HW
  obtain ⟨d, p, s⟩ := g
  dsimp only [geoV] at HX ⊢
  go_enter Tryz.func36, Tryz.ntmps36
  go_wp2_with (first
    | ((with_reducible refine wpBoxK [Value.int .i64 d, .int .i64 p, .int .i64 s] 33 ?_ ?_); rfl; intro w1 r1 b1 s1; have R1 := Lib.hid r1; have B1 := Lib.hid b1; clear r1 b1 s1)
    | ((with_reducible refine R1.out.wpLoadK 33 fits_geo rfl ?_ ?_); rfl)
    | (go_at_call 62; (with_reducible refine (HX.out w1).mono ?_); rintro e u1 ⟨rfl, b2⟩; have B2 := Lib.hid (B1.out.next b2); clear b2))
  go_ret
  exact ⟨ret_int rfl, B2.out⟩
theorem log_le (g : Gm) : 0 ≤ log g ∧ log g ≤ 336 := by have := slot_le g; rw [log]; omega
theorem tal_any (g : Gm) (w : World) :
    Calls Tryz.prog 47 #[geoV g] w fun e w' => e = .returned (.int .i64 (tal g)) ∧ Below w.heap.size w w' := by
  have HX := Lib.hid fun w1 => geo_log_any g w1
  have HW := log_le g
  rw [tal]
  generalize log g = sl at HX HW ⊢
  have h1 := HW.1
  have h2 := HW.2
  clear HW
  obtain ⟨d, p, s⟩ := g
  dsimp only [geoV] at HX ⊢
  go_enter Tryz.func47, Tryz.ntmps47
  go_wp2_with (first
    | ((with_reducible refine wpBoxK [Value.int .i64 d, .int .i64 p, .int .i64 s] 33 ?_ ?_); rfl; intro w1 r1 b1 s1; have R1 := Lib.hid r1; have B1 := Lib.hid b1; clear r1 b1 s1)
    | ((with_reducible refine R1.out.wpLoadK 33 fits_geo rfl ?_ ?_); rfl)
    | (go_at_call 36; (with_reducible refine (HX.out w1).mono ?_); rintro e u1 ⟨rfl, b2⟩; have B2 := Lib.hid (B1.out.next b2); clear b2))
  go_ret
  exact ⟨ret_int rfl, B2.out⟩
theorem tal_le (g : Gm) : 16 ≤ tal g ∧ tal g ≤ 352 := by have := log_le g; rw [tal]; omega
theorem all_any (g : Gm) (w : World) :
    Calls Tryz.prog 22 #[geoV g] w fun e w' => e = .returned (.int .i64 (all g)) ∧ Below w.heap.size w w' := by
  have HX := Lib.hid fun w1 => right_any g w1
  have HT := Lib.hid fun w1 => tal_any g w1
  have HW := tal_le g
  rw [all]
  cases hr : right g with
  | false =>
    rw [hr] at HX
    clear hr HW
    obtain ⟨d, p, s⟩ := g
    dsimp only [geoV] at HX HT ⊢
    go_enter Tryz.func22, Tryz.ntmps22
    go_wp2_with (first
      | ((with_reducible refine wpBoxK [Value.int .i64 d, .int .i64 p, .int .i64 s] 33 ?_ ?_); rfl; intro w1 r1 b1 s1; have R1 := Lib.hid r1; have B1 := Lib.hid b1; clear r1 b1 s1)
      | ((with_reducible refine R1.out.wpLoadK 33 fits_geo rfl ?_ ?_); rfl)
      | (go_at_call 46; (with_reducible refine (HX.out w1).mono ?_); rintro e u1 ⟨rfl, b2⟩; have B2 := Lib.hid (B1.out.next b2); clear b2))
    go_ret
    exact ⟨ret_int rfl, B2.out⟩
  | true =>
    rw [hr] at HX
    clear hr
    generalize tal g = sl at HT HW ⊢
    have h1 := HW.1
    have h2 := HW.2
    clear HW
    obtain ⟨d, p, s⟩ := g
    dsimp only [geoV] at HX HT ⊢
    go_enter Tryz.func22, Tryz.ntmps22
    go_wp2_with (first
      | ((with_reducible refine wpBoxK [Value.int .i64 d, .int .i64 p, .int .i64 s] 33 ?_ ?_); rfl; intro w1 r1 b1 s1; have R1 := Lib.hid r1; have B1 := Lib.hid b1; clear r1 b1 s1)
      | ((with_reducible refine R1.out.wpLoadK 33 fits_geo rfl ?_ ?_); rfl)
      | ((with_reducible refine R2.out.wpLoadK 33 fits_geo rfl ?_ ?_); rfl)
      | (go_at_call 46; (with_reducible refine (HX.out w1).mono ?_); rintro e u1 ⟨rfl, b2⟩; have R2 := Lib.hid (R1.out.step b2); have B2 := Lib.hid (B1.out.next b2); clear b2)
      | (go_at_call 47; (with_reducible refine (HT.out _).mono ?_); rintro e u2 ⟨rfl, b3⟩; have B3 := Lib.hid (B2.out.next b3); clear b3))
    go_ret
    exact ⟨ret_int rfl, B3.out⟩
theorem ask_any (g : Gm) (b : Nat) (L : List Sp) (n : Nat) (w : World) (h : SpAt w b L) (hn : L.length = n) (hL : n < 1000) :
    Calls Tryz.prog 34 #[geoV g, .slice (some ⟨b, 0, none⟩) n n] w fun e w' => e = .returned (.int .i64 (askF g L)) ∧ Below w.heap.size w w' := by
  subst hn
  have HX := Lib.hid fun w1 => right_any g w1
  have HY : Hid (∀ w1, Below w.heap.size w w1 → Calls Tryz.prog 61 #[.slice (some ⟨b, 0, none⟩) L.length L.length] w1 fun e w' => e = .returned (.bool (okAll L)) ∧ Below w1.heap.size w1 w') :=
    Lib.hid fun w1 hb => geowithin_any b L w1 (h.step hb) hL
  rw [askF]
  clear h hL
  generalize L.length = n at HY ⊢
  generalize okAll L = r at HY ⊢
  cases hr : right g with
  | false =>
    rw [hr] at HX
    clear hr HY
    obtain ⟨d, p, s⟩ := g
    dsimp only [geoV] at HX ⊢
    go_enter Tryz.func34, Tryz.ntmps34
    go_wp2_with (first
      | ((with_reducible refine wpBoxK [Value.int .i64 d, .int .i64 p, .int .i64 s] 33 ?_ ?_); rfl; intro w1 r1 b1 s1; have R1 := Lib.hid r1; have B1 := Lib.hid b1; clear r1 b1 s1)
      | ((with_reducible refine R1.out.wpLoadK 33 fits_geo rfl ?_ ?_); rfl)
      | (go_at_call 46; (with_reducible refine (HX.out w1).mono ?_); rintro e u1 ⟨rfl, b2⟩; have B2 := Lib.hid (B1.out.next b2); clear b2))
    go_ret
    exact ⟨ret_int rfl, B2.out⟩
  | true =>
    rw [hr] at HX
    clear hr
    obtain ⟨d, p, s⟩ := g
    cases r with
    | false =>
      dsimp only [geoV] at HX ⊢
      go_enter Tryz.func34, Tryz.ntmps34
      go_wp2_with (first
        | ((with_reducible refine wpBoxK [Value.int .i64 d, .int .i64 p, .int .i64 s] 33 ?_ ?_); rfl; intro w1 r1 b1 s1; have R1 := Lib.hid r1; have B1 := Lib.hid b1; clear r1 b1 s1)
        | ((with_reducible refine R1.out.wpLoadK 33 fits_geo rfl ?_ ?_); rfl)
        | (go_at_call 46; (with_reducible refine (HX.out w1).mono ?_); rintro e u1 ⟨rfl, b2⟩; have B2 := Lib.hid (B1.out.next b2); clear b2)
        | (go_at_call 61; (with_reducible refine (HY.out u1 B2.out).mono ?_); rintro e u2 ⟨rfl, b3⟩; have B3 := Lib.hid (B2.out.next b3); clear b3))
      go_ret
      exact ⟨ret_int rfl, B3.out⟩
    | true =>
      dsimp only [geoV] at HX ⊢
      go_enter Tryz.func34, Tryz.ntmps34
      go_wp2_with (first
        | ((with_reducible refine wpBoxK [Value.int .i64 d, .int .i64 p, .int .i64 s] 33 ?_ ?_); rfl; intro w1 r1 b1 s1; have R1 := Lib.hid r1; have B1 := Lib.hid b1; clear r1 b1 s1)
        | ((with_reducible refine R1.out.wpLoadK 33 fits_geo rfl ?_ ?_); rfl)
        | (go_at_call 46; (with_reducible refine (HX.out w1).mono ?_); rintro e u1 ⟨rfl, b2⟩; have B2 := Lib.hid (B1.out.next b2); clear b2)
        | (go_at_call 61; (with_reducible refine (HY.out u1 B2.out).mono ?_); rintro e u2 ⟨rfl, b3⟩; have B3 := Lib.hid (B2.out.next b3); clear b3))
      go_ret
      exact ⟨ret_int rfl, B3.out⟩
end Go.Proofs.YtbnjenbhpaknbaaGreat

/- Contracts of geo's Sector, Half, Tally, Of (gen_geo_d.py). -/
namespace Go.Proofs.YtbnjenbhpaknbaaGreat
open Go.RowKit GeoMath
set_option linter.unusedVariables false
set_option maxRecDepth 100000

theorem sps_new (L : List Sp) (cs : Array Value) (n : Nat) (w : World) (hc : cs = (L.flatMap spc).toArray) (hn : L.length = n) :
    Sps L (.slice (some ⟨w.heap.size, 0, none⟩) n n) (w.alloc (.cells cs 74)) := by
  subst hc
  subst hn
  exact ⟨_, rfl, SpAt.of_row (Row.new w 74 (L.flatMap spc))⟩
theorem ask_val (g : Gm) (L : List Sp) (w1 : World) (hL : L.length < 1000) : ∀ (wx : World) v, Sps L v wx →
    Calls Tryz.prog 34 #[geoV g, v] wx fun e w' => e = .returned (.int .i64 (askF g L)) ∧ Below wx.heap.size wx w' := by
  rintro wx v ⟨b, rfl, hb⟩
  exact ask_any g b L L.length wx hb rfl hL
theorem results_tmp4 {fn : Func} {t u v x : Tmp} (h : fn.results = #[.tmp t, .tmp u, .tmp v, .tmp x]) (tmps : Array Value) (P : Program) (w : World) :
    (results fn tmps).run P w = .ok (.tuple #[tmps.getD t undef, tmps.getD u undef, tmps.getD v undef, tmps.getD x undef]) w := by
  simp [results, h]
theorem wrap_sl {g : Gm} {a : Int} (h0 : 0 ≤ a) (h2 : a ≤ 2) : IntKind.i64.wrap (a * slot g) = a * slot g ∧ 0 ≤ a * slot g ∧ a * slot g ≤ 224 := by
  have hs := slot_le g
  have e : a = 0 ∨ a = 1 ∨ a = 2 := by omega
  rcases e with rfl | rfl | rfl
  · rw [Int.zero_mul]; exact ⟨rfl, by decide, by decide⟩
  · rw [Int.one_mul, IntKind.wrap_i64]; omega
  · rw [IntKind.wrap_i64]; omega
end Go.Proofs.YtbnjenbhpaknbaaGreat
