/- Lists of calls that came in; great. -/
import Derived.Test.YtgdfcfbccjdecaaFlaO
import Derived.Test.YtgdfcfbccjdecaaOpen
namespace Go.Proofs.Ytgdfcfbccjdecaa
open Go.RowKit FlaMath
set_option linter.unusedVariables false
set_option maxRecDepth 100000

structure OpV where
  k : Int
  at_ : Int
  n : Int
  s : ByteArray
  fb : Int
  fm : UInt8
def opL (o : OpV) : List Value := [.int .i64 o.k, .int .i64 o.at_, .int .i64 o.n, .string o.s, .int .i64 o.fb, .int .u8 (o.fm.toNat : Int)]
structure OpV.In (o : OpV) : Prop where
  hk : -9223372036854775808 ≤ o.k ∧ o.k < 9223372036854775808
  ha : -9223372036854775808 ≤ o.at_ ∧ o.at_ < 9223372036854775808
  hn : -9223372036854775808 ≤ o.n ∧ o.n < 9223372036854775808
  hs : o.s.size ≤ 140737488351232
def TT : Open.Ty := .pair (.int .i64) (.pair (.int .u8) .unit)
def TO : Open.Ty := .pair (.int .i64) (.pair (.int .i64) (.pair (.int .i64) (.pair .str (.pair TT .unit))))
theorem fwf_int {n : Int} (h : (Lit.int .i64 n).wf = true) : -9223372036854775808 ≤ n ∧ n < 9223372036854775808 := by
  have h2 := h
  simp [Lit.wf, IntKind.min, IntKind.max, IntKind.bits, IntKind.signed] at h2
  omega
theorem fwf_byte {n : Int} (h : (Lit.int .u8 n).wf = true) : ∃ b : UInt8, n = (b.toNat : Int) := by
  have h2 := h
  simp [Lit.wf, IntKind.min, IntKind.max, IntKind.bits, IntKind.signed] at h2
  refine ⟨UInt8.ofNat n.toNat, ?_⟩
  rw [UInt8.toNat_ofNat', Nat.mod_eq_of_lt (by omega)]
  omega
theorem reads_torn {w : World} {cs : List Value} {x : TT.den} (h : Open.Reads w TT cs x) : ∃ (fb : Int) (m : UInt8), cs = [.int .i64 fb, .int .u8 (m.toNat : Int)] := by
  have hl : cs.length = 2 := h.length
  match cs, hl with
  | [s, t], _ =>
    obtain ⟨⟨h1, _⟩, ⟨h2, h3⟩, _⟩ := h
    obtain ⟨b, hb⟩ := fwf_byte h3
    have e1 : s = .int .i64 x.1 := by simpa [Open.Ty.size] using h1
    have e2 : t = .int .u8 x.2.1 := by simpa [Open.Ty.size] using h2
    exact ⟨x.1, b, by rw [e1, e2, hb]⟩
theorem reads_op {w : World} {cs : List Value} {x : TO.den} (h : Open.Reads w TO cs x) : ∃ o : OpV, cs = opL o ∧ o.In := by
  have hl : cs.length = 6 := h.length
  match cs, hl with
  | [a, b, c, d, e, f], _ =>
    obtain ⟨⟨h1, g1⟩, ⟨h2, g2⟩, ⟨h3, g3⟩, ⟨h4, g4⟩, h5, _⟩ := h
    have e1 : a = .int .i64 x.1 := by simpa [Open.Ty.size] using h1
    have e2 : b = .int .i64 x.2.1 := by simpa [Open.Ty.size] using h2
    have e3 : c = .int .i64 x.2.2.1 := by simpa [Open.Ty.size] using h3
    have e4 : d = .string x.2.2.2.1 := by simpa [Open.Ty.size] using h4
    obtain ⟨fb, m, e5⟩ := reads_torn h5
    have e6 : e = .int .i64 fb ∧ f = .int .u8 (m.toNat : Int) := by simpa [Open.Ty.size, TT] using e5
    exact ⟨⟨x.1, x.2.1, x.2.2.1, x.2.2.2.1, fb, m⟩, by rw [e1, e2, e3, e4, e6.1, e6.2]; rfl, fwf_int g1, fwf_int g2, fwf_int g3, g4⟩
/-- The calls L lie at a. -/
def OpsAt (w : World) (a : Option Addr) (L : List OpV) : Prop :=
  0 < L.length → ∃ bl off, a = some ⟨bl, off, none⟩ ∧ bl < w.heap.size ∧ ∀ i (h : i < L.length), w.rangeAt bl (off + i * 6) (opL L[i])
theorem OpsAt.step {w w' : World} {a : Option Addr} {L : List OpV} (h : OpsAt w a L) (hb : Below w.heap.size w w') : OpsAt w' a L := by
  intro hp
  obtain ⟨bl, off, e, hl, hc⟩ := h hp
  exact ⟨bl, off, e, Nat.lt_of_lt_of_le hl hb.size, fun i hi j v hj => (hb.cell (p := ⟨bl, off + i * 6 + j, none⟩) hl).trans (hc i hi j v hj)⟩
theorem reads_ops {w : World} {by_ : Nat} {a : Option Addr} {cap : Nat} {l : List TO.den} (h : Open.Reads w (.sl by_ TO) [.slice a l.length cap] l) :
    ∃ L : List OpV, L.length = l.length ∧ (∀ o ∈ L, o.In) ∧ OpsAt w a L ∧ L.length ≤ 9223372036854775807 := by
  obtain ⟨a', cap', e, h1, h2, h3, h4⟩ := h
  have ea : a = a' := by simp only [List.cons.injEq, Value.slice.injEq] at e; exact e.1.1
  subst ea
  by_cases hp : 0 < l.length
  · obtain ⟨bl, off, e1, e2, e3⟩ := h4 hp
    obtain ⟨L, hL, hc⟩ := Open.choose_list (fun i (o : OpV) => w.rangeAt bl (off + i * 6) (opL o) ∧ o.In) l.length (fun i hi => by
      obtain ⟨cs', l1, l2, l3⟩ := e3 i hi
      obtain ⟨o, e4, e5⟩ := reads_op l3
      refine ⟨o, fun j v hj => ?_, e5⟩
      have hj6 : j < TO.size := by
        rw [← l1, e4]
        exact (List.getElem?_eq_some_iff.1 hj).1
      have := l2 j hj6
      rw [e4, hj] at this
      rw [← this, show off + i * 6 + j = off + (i * TO.size + j) from by show off + i * 6 + j = off + (i * 6 + j); omega]) ()
    exact ⟨L, hL, fun o ho => by
      obtain ⟨i, hi, rfl⟩ := List.mem_iff_getElem.1 ho
      exact (hc i hi).2, fun _ => ⟨bl, off, e1, e2, fun i hi => (hc i hi).1⟩, by omega⟩
  · exact ⟨[], by simp; omega, by simp, fun h => absurd h (by simp), by simp⟩

section
variable {P : Program}
theorem wpLoadAtK {ops : Array Oper} {rest : List Oper} {o : Oper} {a : Act} {w : World} {Q : Exit → Act → World → Prop} {g i : Nat} {y : List Value} (hy : w.rangeAt g i y) (ty : TypeId) {n : Nat} (hf : Fits P ty n) (hl : y.length = n)
    (ho : loadOf o a = some (ty, .pointer (some ⟨g, i, none⟩))) (k : wpList P ops Q rest (a.put o.dst (.agg y.toArray)) w) : wpList P ops Q (o :: rest) a w := by
  obtain ⟨hg, x, ho, hx⟩ := loadOf_spec ho
  obtain ⟨d, hu, hd⟩ := hf.row
  exact wpList_load_mid hg ty x ho g i hx y d hy hu hd (by rw [hl]; exact hf.size) k
end
theorem fits_op : Fits Try.prog 36 6 := ⟨⟨_, Try.underlying36, rfl⟩, by kernel_rfl⟩
def op0 : List Value := [.int .i64 0, .int .i64 0, .int .i64 0, .string { data := #[] }, .int .i64 0, .int .u8 0]
theorem zero_op : ∀ u, (zeroValue 36).run Try.prog u = .ok (.agg op0.toArray) u := fun u => by kernel_rfl
def gr (L : List OpV) : Bool := decide (150 < L.length) || L.any fun o => decide (1000 < o.s.size)
theorem fla_great_any (a : Option Addr) (cap : Nat) (L : List OpV) (w : World) (h : OpsAt w a L) (hL : L.length ≤ 9223372036854775807) (hI : ∀ o ∈ L, o.In) :
    Calls Try.prog 8 #[.slice a L.length cap] w fun e w' => e = .returned (.bool (gr L)) ∧ Below w.heap.size w w' := by
  by_cases hb : 150 < L.length
  · have HG : Hid (gr L = true) := Lib.hid (by simp [gr, hb])
    have h1 : (150 : Int) < L.length := by omega
    obtain ⟨n, hn⟩ : ∃ n, L.length = n := ⟨_, rfl⟩
    rw [hn] at hb h1 hL ⊢
    clear h hn hI
    go_enter Try.func8, Try.ntmps8
    go_wp2
    go_ret
    exact ⟨ret_bool HG.out.symm, Below.refl _ _⟩
  · have h1 : ¬ (150 : Int) < L.length := by omega
    have h2 : (L.length : Int) ≤ 150 := by omega
    obtain ⟨n, hn⟩ : ∃ n, L.length = n := ⟨_, rfl⟩
    rw [hn] at hb h1 h2 ⊢
    have HNL := Lib.hid hn
    have HH := Lib.hid h
    have HI := Lib.hid hI
    have HB := Lib.hid hb
    clear h hn hI hL hb
    go_enter Try.func8, Try.ntmps8
    go_wp2
    go_loopw [10] (fun x wr => ∃ k : Nat, k ≤ n ∧ x = .int .i64 k ∧ Below w.heap.size w wr ∧ ∀ j (hj : j < L.length), j < k → ¬ 1000 < L[j].s.size) (fun x _ => n - (intOf x).toNat)
    case atStart => exact ⟨0, Nat.zero_le _, rfl, Below.refl _ _, fun j hj h => absurd h (by omega)⟩
    case round =>
      obtain ⟨k, hk, rfl, hbl, hall⟩ := hrel
      have HA := Lib.hid hall
      have HBL := Lib.hid hbl
      by_cases hlt : k < n
      · have hkL : k < L.length := by rw [HNL.out]; exact hlt
        obtain ⟨bl, off, rfl, _, hc⟩ := HH.out.step hbl (by omega)
        have RY := Lib.hid (hc k hkL)
        obtain ⟨s, hs⟩ : ∃ s, L[k].s = s := ⟨_, rfl⟩
        obtain ⟨Y, hY⟩ : ∃ Y, opL L[k] = Y := ⟨_, rfl⟩
        have HY3 : Hid (Y[3]? = some (.string s)) := Lib.hid (by rw [← hY, ← hs]; rfl)
        have HYL : Hid (Y.length = 6) := Lib.hid (by rw [← hY]; rfl)
        have HY1 : Hid (Y.all (·.oneCell') = true) := Lib.hid (by rw [← hY]; rfl)
        have hsz : s.size ≤ 140737488351232 := by rw [← hs]; exact (HI.out _ (List.getElem_mem hkL)).hs
        have hs3 : (s.size : Int) ≤ 140737488351232 := by omega
        have HZL : Hid (op0.length = 6) := Lib.hid rfl
        obtain ⟨Z, hZ⟩ : ∃ Z, op0 = Z := ⟨_, rfl⟩
        have HZ : Hid (∀ u, (zeroValue 36).run Try.prog u = .ok (.agg Z.toArray) u) := Lib.hid (by rw [← hZ]; exact zero_op)
        rw [hY] at RY
        rw [hZ] at HZL
        have HS : Hid (∀ hj : k < L.length, L[k].s = s) := Lib.hid fun _ => hs
        have e1 : (k : Int) < n := by omega
        by_cases hgt : 1000 < s.size
        · have HG : Hid (gr L = true) := Lib.hid (by
            rw [gr, Bool.or_eq_true]
            exact Or.inr (List.any_eq_true.2 ⟨_, List.getElem_mem hkL, by rw [hs]; exact decide_eq_true hgt⟩))
          have e2 : (1000 : Int) < s.size := by omega
          clear hall hbl hkL hs hY hZ hc hsz
          go_wp2_with (first
            | ((with_reducible refine wpLoadAtK RY.out 36 fits_op HYL.out ?_ ?_); rfl)
            | ((with_reducible refine wpAllocK Z 36 HZ.out ?_ ?_); rfl; intro w1 r1 b1 s1; have R1 := Lib.hid r1; have B1 := Lib.hid (HBL.out.next b1); clear r1 b1 s1)
            | ((with_reducible refine R1.out.wpStoreK 36 Y fits_op HZL.out HYL.out HY1.out ?_ ?_); rfl; intro w2 r2 o2 s2; have c3 : w2.cell? ⟨wr.heap.size, 3, none⟩ = some (.string s) := (r2.cell 3).trans HY3.out; have B2 := Lib.hid (B1.out.trans (o2.below HBL.out.size B1.out.size)); clear r2 o2 s2))
          go_ret
          exact ⟨ret_bool HG.out.symm, B2.out⟩
        · have e2 : ¬ (1000 : Int) < s.size := by omega
          have HGT := Lib.hid hgt
          clear hall hbl hkL hs hY hZ hc hsz hgt
          go_wp2_with (first
            | ((with_reducible refine wpLoadAtK RY.out 36 fits_op HYL.out ?_ ?_); rfl)
            | ((with_reducible refine wpAllocK Z 36 HZ.out ?_ ?_); rfl; intro w1 r1 b1 s1; have R1 := Lib.hid r1; have B1 := Lib.hid (HBL.out.next b1); clear r1 b1 s1)
            | ((with_reducible refine R1.out.wpStoreK 36 Y fits_op HZL.out HYL.out HY1.out ?_ ?_); rfl; intro w2 r2 o2 s2; have c3 : w2.cell? ⟨wr.heap.size, 3, none⟩ = some (.string s) := (r2.cell 3).trans HY3.out; have B2 := Lib.hid (B1.out.trans (o2.below HBL.out.size B1.out.size)); clear r2 o2 s2))
          go_roundw
          case rel => exact ⟨k + 1, by omega, by go_num, B2.out, fun j hj h => by
            by_cases e : j = k
            · subst e; rw [HS.out]; exact HGT.out
            · exact HA.out j hj (by omega)⟩
          case measure => simp [intOf]; omega
      · have HG : Hid (gr L = false) := Lib.hid (by
          rw [gr, Bool.or_eq_false_iff]
          refine ⟨decide_eq_false (by rw [HNL.out]; exact HB.out), ?_⟩
          rw [List.any_eq_false]
          intro o ho
          obtain ⟨j, hj, rfl⟩ := List.mem_iff_getElem.1 ho
          simpa using HA.out j hj (by rw [HNL.out] at hj; omega))
        clear hall hbl
        go_wp2
        go_ret
        exact ⟨ret_bool HG.out.symm, HBL.out⟩
end Go.Proofs.Ytgdfcfbccjdecaa
