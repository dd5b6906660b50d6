/- Loads and stores of whole blocks by value, in a region that draws its order (for region_invX's, region_storeT's steps). -/
import Derived.Test.YtbpdnaiackfdmaaInvT
import Derived.Test.YtbpdnaiackfdmaaInvG
import Derived.Test.YtbpdnaiackfdmaaSlice
namespace Go.Proofs.Ytbpdnaiackfdmaa
open Go.RowKit
section
variable {P : Program} {o : Oper} {A : Act} {wx : World} {K : Act → World → Prop} {Q : Exit → Act → World → Prop} {φ : Value → World → Prop} {G : World → Prop}
theorem put_defers (a : Act) (d : Option Nat) (v : Value) : (a.put d v).defers = a.defers := by cases d <;> rfl
theorem opLoadK {g : Nat} {t : TypeId} {l : List Value} (h : Row wx g t l) (ty : TypeId) {n : Nat} (hf : Fits P ty n) (hl : l.length = n) (d : Nat) (hd : o.dst = some d) (hs : d < A.tmps.size)
    (hK : ∀ a' w', (a'.defers = A.defers ∧ φ (a'.tmps.getD d undef) w' ∧ G w' ∧ Below wx.heap.size wx w') → K a' w')
    (x : Operand) (hop : o.op = .load ty x) (hx : A.eval x = .pointer (some ⟨g, 0, none⟩)) (hφ : φ (.agg l.toArray) wx) (hG : G wx) : o.wp P A wx K Q := by
  obtain ⟨d', hu, hd'⟩ := hf.row
  refine wp_load_row ty x hop g hx t l.toArray (0, 0) d' h hu (by cases d' <;> simp_all) (by simpa [hl] using hf.size) (hK _ _ ⟨put_defers _ _ _, ?_, hG, Below.refl _ _⟩)
  rw [hd, put_get A d _ hs]
  exact hφ
theorem opLoadRK {g i : Nat} {l : List Value} (h : wx.rangeAt g i l) (ty : TypeId) {n : Nat} (hf : Fits P ty n) (hl : l.length = n) (d : Nat) (hd : o.dst = some d) (hs : d < A.tmps.size)
    (hK : ∀ a' w', (a'.defers = A.defers ∧ φ (a'.tmps.getD d undef) w' ∧ G w' ∧ Below wx.heap.size wx w') → K a' w')
    (x : Operand) (hop : o.op = .load ty x) (hx : A.eval x = .pointer (some ⟨g, i, none⟩)) (hφ : φ (.agg l.toArray) wx) (hG : G wx) : o.wp P A wx K Q := by
  obtain ⟨d', hu, hd'⟩ := hf.row
  refine wp_load_mid ty x hop g i hx l d' h hu hd' (by rw [hl]; exact hf.size) (hK _ _ ⟨put_defers _ _ _, ?_, hG, Below.refl _ _⟩)
  rw [hd, put_get A d _ hs]
  exact hφ
theorem opStoreK {H : World → Prop} {g : Nat} {t : TypeId} {l : List Value} (h : Row wx g t l) (ty : TypeId) (m : List Value) {n : Nat} (hf : Fits P ty n) (hl : l.length = n) (hm : m.length = n) (h1 : m.all (·.oneCell') = true)
    (hK : ∀ a' w', (a'.defers = A.defers ∧ H w') → K a' w')
    (x y : Operand) (hop : o.op = .store ty x y) (hx : A.eval x = .pointer (some ⟨g, 0, none⟩)) (hy : A.eval y = .agg m.toArray)
    (hH : ∀ w', Row w' g t m → Only g wx w' → w'.heap.size = wx.heap.size → H w') : o.wp P A wx K Q :=
  wp_store_row ty x y hop g m.toArray hx hy t l.toArray h (by simpa [hm] using hf.size) (by simp [hl, hm]) (by simpa using h1)
    (hK _ _ ⟨put_defers _ _ _, hH _ (h.put m) ((Only.refl g wx).putRow g _ (Or.inl rfl)) (by simp)⟩)
/-- A variable's zero value. -/
theorem opAllocK (Z : List Value) (ty : TypeId) (hz : ∀ u, (zeroValue ty).run P u = .ok (.agg Z.toArray) u) (d : Nat) (hd : o.dst = some d) (hs : d < A.tmps.size)
    (hK : ∀ a' w', (a'.defers = A.defers ∧ φ (a'.tmps.getD d undef) w' ∧ G w' ∧ Below wx.heap.size wx w') → K a' w') (hop : o.op = .alloc ty)
    (hφ : ∀ w', Row w' wx.heap.size ty Z → Below wx.heap.size wx w' → φ (.pointer (some ⟨wx.heap.size, 0, none⟩)) w' ∧ G w') : o.wp P A wx K Q := by
  have h := hz wx
  unfold Oper.wp execOp
  simp only [hop, Instr.alloc, Sem.run_bind, h, Result.andThen_ok, newVar, Value.cells]
  simp [go_sem]
  have hb : Below wx.heap.size wx (wx.alloc (.cells Z.toArray ty)) := (Below.refl _ _).alloc (Nat.le_refl _) _
  have := hφ _ (Row.new wx ty Z) hb
  refine hK _ _ ⟨put_defers _ _ _, ?_, this.2, hb⟩
  rw [hd]
  show φ ((A.put (some d) (.pointer (some ⟨wx.heap.size, 0, none⟩))).tmps.getD d undef) _
  rw [put_get A d _ hs]
  exact this.1
/-- A part of a block, by value. -/
theorem wpLoadRK {ops : Array Oper} {rest : List Oper} {o : Oper} {a : Act} {w : World} {Q : Exit → Act → World → Prop} {g i : Nat} {y : List Value} (h : w.rangeAt g i y) (ty : TypeId) {n : Nat} (hf : Fits P ty n) (hy : y.length = n)
    (ho : loadOf o a = some (ty, .pointer (some ⟨g, i, none⟩))) (k : wpList P ops Q rest (a.put o.dst (.agg y.toArray)) w) : wpList P ops Q (o :: rest) a w := by
  obtain ⟨hg, p, ho, hp⟩ := loadOf_spec ho
  obtain ⟨d, hu, hd⟩ := hf.row
  exact wpList_load_mid hg ty p ho g i hp y d h hu hd (by rw [hy]; exact hf.size) k
theorem madeCells_same (v : Value) (m n : Nat) (hm : 0 < m) : madeCells (List.replicate m v).toArray n = (List.replicate n v).toArray := by
  apply Array.ext
  · simp [madeCells]
  · intro i h1 h2
    simp [madeCells, Nat.mod_lt _ hm]
/-- make([]T, n), T of s cells that are all alike. -/
theorem wpMakeS {ops : Array Oper} {rest : List Oper} {o : Oper} {a : Act} {w : World} {Q : Exit → Act → World → Prop} (T e : TypeId) (v : Value) (s n : Nat) (hT : P.underlying T = some (.slice e)) (hz : (P.info? e).map (fun i => (i.zero, i.size)) = some (some (.agg (List.replicate s v).toArray), s)) (hb : ((P.info? e).map fun i => decide (i.bytes ≤ 4096)) = some true) (hs : 0 < s)
    (hn : n ≤ 1000000) (ho : makeOf o a = some (T, .int .i64 (n : Int), .int .i64 (n : Int)))
    (k : ∀ w', Row w' w.heap.size e (List.replicate (n * s) v) → Below w.heap.size w w' → w'.heap.size = w.heap.size + 1 → wpList P ops Q rest (a.put o.dst (.slice (some ⟨w.heap.size, 0, none⟩) n n)) w') : wpList P ops Q (o :: rest) a w := by
  obtain ⟨hg, x, y, hop, hx, hy⟩ := makeOf_spec ho
  cases hq : P.info? e with
  | none => rw [hq] at hz; cases hz
  | some i =>
    rw [hq] at hz hb
    simp only [Option.map_some, Option.some.injEq, Prod.mk.injEq] at hz
    simp only [Option.map_some, Option.some.injEq, decide_eq_true_eq] at hb
    have hbb : (i.bytes : Int) * (n : Int) ≤ 281474976710656 := by
      have h1 : i.bytes * n ≤ 4096 * 1000000 := Nat.mul_le_mul hb hn
      have h2 : ((i.bytes * n : Nat) : Int) ≤ 281474976710656 := by omega
      rwa [Int.natCast_mul] at h2
    have hr := run_make (P := P) w T e i _ hT hq hz.1 .i64 .i64 (n : Int) (n : Int) (by omega) (by omega) hbb (by omega)
    rw [Int.toNat_natCast, hz.2] at hr
    have hm : madeCells (Value.agg (List.replicate s v).toArray).cells (n * s) = (List.replicate (n * s) v).toArray := madeCells_same v s (n * s) hs
    rw [hm] at hr
    refine wpList_plain hg fun K hK => ?_
    unfold Oper.wp execOp
    simp only [hop, hx, hy, Sem.run_bind, hr, Result.andThen_ok]
    exact hK _ _ (k _ (Row.new w e _) ((Below.refl _ _).alloc (Nat.le_refl _) _) (by simp))
end
/-- A new block that holds these values. -/
def Nb (base : World) (t : TypeId) (l : List Value) : Value → World → Prop := fun v w => ∃ g, v = .pointer (some ⟨g, 0, none⟩) ∧ base.heap.size ≤ g ∧ Row w g t l
theorem Nb.monot (base : World) (t : TypeId) (l : List Value) : Monot (Nb base t l) := fun _ _ _ ⟨g, h1, h2, h3⟩ hb => ⟨g, h1, h2, h3.step hb⟩
end Go.Proofs.Ytbpdnaiackfdmaa
