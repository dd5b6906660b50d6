/- append onto a slice of one's own, of elements of more than one cell. -/
import Derived.Test.YtbpdnaiackfdmaaSlice
namespace Go.Proofs.Ytbpdnaiackfdmaa
open Go.RowKit

/-- A type of s cells, of some bytes. -/
structure Many (P : Program) (e : TypeId) (s : Nat) : Prop where
  row : ∃ i z, P.info? e = some i ∧ i.zero = some z ∧ i.size = s ∧ z.cells.size = s ∧ i.bytes ≤ 64
theorem Many.of {P : Program} {e : TypeId} {s : Nat} (h : ((P.info? e).map fun i => (i.zero.map fun z => z.cells.size) == some s && i.size == s && decide (i.bytes ≤ 64)) = some true) : Many P e s := by
  generalize hq : P.info? e = q at h
  match q with
  | none => cases h
  | some i =>
    simp only [Option.map_some, Option.some.injEq, Bool.and_eq_true, beq_iff_eq, decide_eq_true_eq] at h
    obtain ⟨⟨h1, h2⟩, h3⟩ := h
    generalize hz : i.zero = zz at h1
    match zz with
    | none => cases h1
    | some z =>
      simp only [Option.map_some, Option.some.injEq] at h1
      exact ⟨i, z, hq, hz, h2, h1, h3⟩
section
variable {P : Program}
/-- append(v, l...): v a slice of one's own, l what lies at an address: m elements of s cells. -/
theorem wpAppendM {ops : Array Oper} {rest : List Oper} {o : Oper} {a : Act} {w : World} {Q : Exit → Act → World → Prop} {base n m s : Nat} {T e : TypeId} {v : Value} {xs news : List Value} {p : Option Addr} (c : Nat)
    (hown : w.ownsRow base e s v n xs) (hT : P.underlying T = some (.slice e)) (he : Many P e s) (hs : Lies w w.heap.size p news) (hl : news.length = m * s) (hm : 0 < m) (hs0 : 0 < s) (h1 : news.all (·.oneCell') = true) (hn : Big (n + m ≤ 1099511627776)) (hbase : base ≤ w.heap.size)
    (ho : appendOf o a = some (T, T, v, .slice p m c))
    (k : ∀ v' w', w'.ownsRow base e s v' (n + m) (xs ++ news) → w.grownBy w' v.ownBlock → (v'.ownBlock = v.ownBlock ∨ v'.ownBlock = some w.heap.size) → wpList P ops Q rest (a.put o.dst v') w') : wpList P ops Q (o :: rest) a w := by
  obtain ⟨hg, x, y, hop, hx, hy⟩ := appendOf_spec ho
  obtain ⟨i, z, hi, hz, h2, h3, h4⟩ := he.row
  obtain ⟨b, off, rfl, hb, hc⟩ := hs (by rw [hl]; exact Nat.mul_pos hm hs0)
  refine wpList_append_own_at w hg x y T hop base e i z s i.bytes hT hi hz h2 rfl h3 hs0 v n xs hx hown ⟨b, off, none⟩ m c news hy hl ?_ (fun u hu => (List.all_eq_true.1 h1) u hu) ?_ ?_ hbase fun v' w' g1 g2 _ g4 => k v' w' g1 g2 g4
  · intro j u hj
    rw [Addr.add_mid]
    exact hc j u hj
  · have := hn.out; unfold maxLen; omega
  · exact Nat.le_trans (Nat.mul_le_mul hn.out h4) (by omega)
end
/-- A block of one's own as a slice that may be appended to. -/
theorem Row.ownsM {w : World} {g base n cap s : Nat} {e : TypeId} {xs ys : List Value} (h : Row w g e (xs ++ ys)) (hb : base ≤ g) (hx : xs.length = n * s) (hy : ys.length = (cap - n) * s) (hn : n ≤ cap) (hcap : cap ≤ maxLen) : w.ownsRow base e s (.slice (some ⟨g, 0, none⟩) n cap) n xs :=
  ⟨hx, .inr ⟨g, cap, _, rfl, hb, h, hn, hcap, by simp [hx, hy, ← Nat.add_mul]; rw [show n + (cap - n) = cap from by omega], by simp [← hx]⟩⟩
/-- What a slice of one's own holds. -/
theorem own_formM {w : World} {base s : Nat} {v : Value} {n : Nat} {xs : List Value} {e : TypeId} (h : w.ownsRow base e s v n xs) :
    ∃ a cap, v = .slice a n cap ∧ Lies w w.heap.size a xs := by
  rcases h.2 with ⟨rfl, rfl⟩ | ⟨g, cap, cur, rfl, hb, hh, hr⟩
  · exact ⟨none, 0, rfl, fun h0 => by have := h.1; omega⟩
  · refine ⟨some ⟨g, 0, none⟩, cap, rfl, fun _ => ⟨g, 0, rfl, (Array.getElem?_eq_some_iff.1 hh).1, fun j u hu => ?_⟩⟩
    have := h.cells (g := g) rfl j u hu
    rwa [Addr.add_lit] at this
end Go.Proofs.Ytbpdnaiackfdmaa
