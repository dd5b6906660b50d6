/- make in a region that draws its order. -/
import Derived.Test.YtkcnmiaedcenoaaB3
namespace Go.Proofs.Ytkcnmiaedcenoaa
open Go.RowKit
set_option linter.unusedVariables false
theorem opMake {P : Program} {o : Oper} {a : Act} {w : World} {K : Act → World → Prop} {Q : Exit → Act → World → Prop} (T e : TypeId) (zv : Value) (n c : Nat) (hT : P.underlying T = some (.slice e)) (hz : (P.info? e).map (fun i => (i.zero, i.size, i.bytes)) = some (some zv, 1, 8) ∨ (P.info? e).map (fun i => (i.zero, i.size, i.bytes)) = some (some zv, 1, 1)) (hzc : zv.cells = #[zv])
    (hn : n ≤ c) (hc : c ≤ 1099511627776) (ho : makeOf o a = some (T, .int .i64 (n : Int), .int .i64 (c : Int)))
    (k : ∀ w', Row w' w.heap.size e (List.replicate c zv) → Below w.heap.size w w' → w'.heap.size = w.heap.size + 1 → K (a.put o.dst (.slice (some ⟨w.heap.size, 0, none⟩) n c)) w') : o.wp P a w K Q := by
  obtain ⟨hg, x, y, hop, hx, hy⟩ := makeOf_spec ho
  cases hq : P.info? e with
  | none => rw [hq] at hz; rcases hz with h | h <;> cases h
  | some i =>
    rw [hq] at hz
    have hi : i.zero = some zv ∧ i.size = 1 ∧ i.bytes ≤ 8 := by
      rcases hz with h | h <;> simp only [Option.map_some, Option.some.injEq, Prod.mk.injEq] at h <;> exact ⟨h.1, h.2.1, by omega⟩
    have hb : (i.bytes : Int) * (c : Int) ≤ 281474976710656 := by
      have h1 : i.bytes * c ≤ 8 * 1099511627776 := Nat.mul_le_mul hi.2.2 hc
      have h2 : ((i.bytes * c : Nat) : Int) ≤ 281474976710656 := by omega
      rwa [Int.natCast_mul] at h2
    have hr := run_make (P := P) w T e i zv hT hq hi.1 .i64 .i64 (n : Int) (c : Int) (by omega) (by omega) hb (by omega)
    rw [Int.toNat_natCast, Int.toNat_natCast, hi.2.1, Nat.mul_one, hzc] at hr
    have hm : madeCells #[zv] c = (List.replicate c zv).toArray := by
      apply Array.ext'
      rw [toList_madeCells_one]
    rw [hm] at hr
    unfold Oper.wp execOp
    simp only [hop, hx, hy, Sem.run_bind, hr, Result.andThen_ok]
    exact k _ (Row.new w e _) ((Below.refl _ _).alloc (Nat.le_refl _) _) (by simp)
theorem opMakeK {P : Program} {o : Oper} {A : Act} {wx : World} {K : Act → World → Prop} {Q : Exit → Act → World → Prop} {φ : Value → World → Prop} {G : World → Prop} (d : Nat) (hd : o.dst = some d) (hs : d < A.tmps.size)
    (hK : ∀ a' w', (a'.defers = A.defers ∧ φ (a'.tmps.getD d undef) w' ∧ G w' ∧ Below wx.heap.size wx w') → K a' w')
    (T e : TypeId) (zv : Value) (n c : Nat) (hT : P.underlying T = some (.slice e)) (hz : (P.info? e).map (fun i => (i.zero, i.size, i.bytes)) = some (some zv, 1, 8) ∨ (P.info? e).map (fun i => (i.zero, i.size, i.bytes)) = some (some zv, 1, 1)) (hzc : zv.cells = #[zv])
    (hn : n ≤ c) (hc : c ≤ 1099511627776) (ho : makeOf o A = some (T, .int .i64 (n : Int), .int .i64 (c : Int)))
    (k : ∀ w', Row w' wx.heap.size e (List.replicate c zv) → Below wx.heap.size wx w' → φ (.slice (some ⟨wx.heap.size, 0, none⟩) n c) w' ∧ G w') : o.wp P A wx K Q :=
  opMake T e zv n c hT hz hzc hn hc ho fun w' h1 h2 _ => hK _ _ ⟨by rw [hd]; rfl, by rw [hd, put_get A d _ hs]; exact (k w' h1 h2).1, (k w' h1 h2).2, h2⟩
theorem makeOf_tmp {o : Oper} {a : Act} (T : TypeId) (k : Nat) {v : Value} (hg : o.guard = none) (hop : o.op = .makeSlice T (.tmp k) (.tmp k)) (h : a.tmps.getD k undef = v) : makeOf o a = some (T, v, v) := by
  unfold makeOf
  rw [hg, hop]
  show some (T, a.eval (.tmp k), a.eval (.tmp k)) = _
  rw [show a.eval (.tmp k) = a.tmps.getD k undef from rfl, h]
end Go.Proofs.Ytkcnmiaedcenoaa
