/- A builder that is written bytes; tag's Join. -/
import Derived.Test.YtmffkfgcopaoeaaTagB
import Derived.Shelf.Strings.Builder1
namespace Go.Proofs.Ytmffkfgcopaoeaa
open Go.RowKit CrcMath
set_option linter.unusedVariables false
set_option maxRecDepth 100000

theorem layC : Go.Proofs.Lays.n240 Try.prog Try.lays156_ren := { Try.lays156 with }

/-- A builder in block b that holds the bytes l. -/
def Bd (B b : Nat) (l : List UInt8) (w : World) : Prop := Lib.IsBuilder 58 5 B b (bytes l) w

theorem Bd.below {B b : Nat} {l : List UInt8} {w w' : World} (h : Bd B b l w) (hb : Below w.heap.size w w') : Bd B b l w' := by
  have key : ∀ p, Lib.BuilderAt 58 5 B b p (bytes l) w → Lib.BuilderAt 58 5 B b p (bytes l) w' := by
    rintro p ⟨h1, v, h2, h3, h4⟩
    exact ⟨h1, v, (hb.block b (Array.getElem?_eq_some_iff.1 h2).1).trans h2, own_below h3 hb, h4⟩
  rcases h with h | h
  · exact Or.inl (key _ h)
  · exact Or.inr (key _ h)
theorem Bd.lt {B b : Nat} {l : List UInt8} {w : World} (h : Bd B b l w) : b < w.heap.size := by
  rcases h with h | h
  · exact h.lt
  · exact h.lt
theorem Bd.new (w : World) : Bd w.heap.size w.heap.size [] (w.alloc (.cells #[.pointer none, .slice none 0 0] 58)) := Lib.fresh_isBuilder _ _ _

set_option maxHeartbeats 1000000 in
theorem bwrite_any (B b : Nat) (l : List UInt8) (g cap n : Nat) (m : List UInt8) (w : World) (h : Bd B b l w) (hg : Row w g 23 (bytes m)) (hgb : g ≠ b) (hm : m.length = n) (hm0 : 0 < n) (hlen : Big (l.length + n ≤ 1099511627776)) (hBw : B ≤ w.heap.size) :
    Calls Try.prog 30 #[.pointer (some ⟨b, 0, none⟩), .slice (some ⟨g, 0, none⟩) n cap] w fun e w' => e = .returned (.tuple #[.int .i64 (n : Int), .nilIface]) ∧ Bd B b (l ++ m) w' ∧ Below B w w' := by
  have HC : Hid (Calls Try.prog 39 #[.pointer (some ⟨b, 0, none⟩)] w fun e w' => e = .returned (.tuple #[]) ∧ Lib.BuilderAt 58 5 B b (.pointer (some ⟨b, 0, none⟩)) (bytes l) w' ∧ Below B w w' ∧ Row w' g 23 (bytes m)) := Lib.hid <| by
    rcases h with h | h
    · refine (Any.Builder_copyCheck_fresh layC Try.Builder_Extra_156.toX72 b w h.cell0 h.shape h.frozen0).mono ?_
      rintro e w' ⟨rfl, rfl⟩
      exact ⟨rfl, h.used _, (Below.refl B w).setCell (p := ⟨b, 0, none⟩) h.1 _, hg.far _ _ hgb⟩
    · refine (Any.Builder_copyCheck_used layC Try.Builder_Extra_156.toX72 b w h.cell0).mono ?_
      rintro e w' ⟨rfl, rfl⟩
      exact ⟨rfl, h, Below.refl B _, hg⟩
  have HL : Hid ((bytes l).length = l.length) := Lib.hid (bytes_length l)
  have HM : Hid ((bytes m).length = n) := Lib.hid ((bytes_length m).trans hm)
  have HM1 : Hid ((bytes m).all (·.oneCell') = true) := Lib.hid (bytes_oneC m)
  have HBA : Hid (bytes (l ++ m) = bytes l ++ bytes m) := Lib.hid (bytes_append l m)
  unfold Bd
  rw [HBA.out]
  have hlies : ∀ u, Row u g 23 (bytes m) → Lies u u.heap.size (some ⟨g, 0, none⟩) (bytes m) := fun u hu _ => ⟨g, 0, rfl, hu.lt, fun j v hj => by rw [Nat.zero_add, hu.cell]; exact hj⟩
  clear HBA h hg
  generalize hL : bytes l = L at HC HL ⊢
  generalize hM : bytes m = M at HC HM HM1 hlies ⊢
  generalize hk : l.length = k at HL hlen
  have HLEN := hlen
  have hmi : 0 < (n : Int) := by omega
  have HM0 := Lib.hid hm0
  have HBW := Lib.hid hBw
  have HLI := Lib.hid hlies
  clear hL hM hk hlies hm hm0 hBw hlen hgb
  go_enter Try.func30, Try.ntmps30
  go_wp2_with (first
    | (go_at_call 39; (with_reducible refine HC.out.mono ?_); rintro e w1 ⟨rfl, ⟨h1, v, h2, h3, h4⟩, hb1, hr1⟩; rw [HL.out] at h3; have H1 := Lib.hid h1; have H2 := Lib.hid h2; have H3 := Lib.hid h3; have H4 := Lib.hid h4; have HB1 := Lib.hid hb1; have R1 := Lib.hid (HLI.out w1 hr1); have c1 : w1.cell? ⟨b, 1, none⟩ = some v := (by rw [Lib.cell_of_heap h2]; rfl); clear h1 h2 h3 h4 hb1 hr1)
    | ((with_reducible refine wpAppendK (base := B) cap H3.out Try.underlying39 tag_byte R1.out HM.out HM0.out HM1.out HLEN ?_ ?_ ?_); exact Nat.le_trans HBW.out HB1.out.size; rfl; intro v' w2 o2 g2 q2; obtain ⟨p2, c2, rfl, _⟩ := own_form o2; have hb2 : w2.heap[b]? = some (.cells #[.pointer (some ⟨b, 0, none⟩), v] 58 (0, 0)) := (by rw [g2.block b (Array.getElem?_eq_some_iff.1 H2.out).1 (fun e => H4.out e.symm)]; exact H2.out); have d1 : w2.cell? ⟨b, 1, none⟩ = some v := (by rw [Lib.cell_of_heap hb2]; rfl); have f1 := Lib.frozen_of_heap hb2 1; have HB2 := Lib.hid hb2; have O2 := Lib.hid o2; have G2 := Lib.hid g2; clear o2 g2 q2 hb2))
  go_ret2
  have hl2 : (L ++ M).length = k + n := by rw [List.length_append, HL.out, HM.out]
  refine ⟨rfl, Or.inr (Lib.BuilderAt.put H1.out HB2.out (by rw [hl2]; exact O2.out) (by decide)), ?_⟩
  exact (HB1.out.grown G2.out (Nat.le_trans HBW.out HB1.out.size) (fun q hq => (H3.out.lt q hq).1)).setCell (p := ⟨b, 1, none⟩) H1.out _

theorem Lies.range {w : World} {B : Nat} {b o : Nat} {xs : List Value} (hc : ∀ j u, xs[j]? = some u → w.cell? ⟨b, o + j, none⟩ = some u) (x y z : List Value) (e : xs = x ++ y ++ z) (i : Nat) (hi : x.length = i) : w.rangeAt b (o + i) y := by
  intro j v hv
  have hj : j < y.length := (List.getElem?_eq_some_iff.1 hv).1
  have := hc (i + j) v (by rw [e, List.append_assoc, List.getElem?_append_right (by omega), ← hi, Nat.add_sub_cancel_left, List.getElem?_append_left hj, hv])
  rwa [← Nat.add_assoc] at this

set_option maxHeartbeats 1000000 in
theorem tag_join_any (a : Option Addr) (cap : Nat) (L : List (List UInt8)) (w : World) (hL : ∀ b ∈ L, b.length = 60) (hn : L.length ≤ 100000) (hr : Lies w w.heap.size a (bytes L.flatten)) :
    Calls Try.prog 16 #[.slice a L.length cap] w fun e w' => e = .returned (.string (str L.flatten)) ∧ Below w.heap.size w w' := by
  obtain ⟨O, hO⟩ : ∃ O : List UInt8, O = List.replicate 60 0 := ⟨_, rfl⟩
  have HZ0 : Hid (∀ u, (zeroValue 23).run Try.prog u = .ok (.agg (bytes O).toArray) u) := Lib.hid (by rw [hO]; exact tag_zero)
  have LO : Hid ((bytes O).length = 60) := Lib.hid (by rw [hO, bytes_length, List.length_replicate])
  have HL := Lib.hid hL
  have HR := Lib.hid hr
  have HB0 := Lib.hid (Bd.new w)
  clear hO hL hr
  go_enter Try.func16, Try.ntmps16
  go_wp2
  go_loopw [5, 8] (fun _ i wr => ∃ k : Nat, k ≤ L.length ∧ i = .int .i64 k ∧ Bd w.heap.size w.heap.size (L.take k).flatten wr ∧ Below w.heap.size w wr) (fun _ i _ => L.length - (intOf i).toNat)
  case atStart => exact ⟨0, by omega, rfl, HB0.out, alloc_below _ _⟩
  case round =>
    obtain ⟨k, hk, rfl, hbd, hbw⟩ := hrel
    by_cases hlt : k < L.length
    · have hl60 := HL.out L[k] (List.getElem_mem _)
      obtain ⟨z, e1, e2⟩ := flat_mid L HL.out k hlt
      obtain ⟨bl, off, rfl, hbb, hc⟩ := HR.out (by rw [bytes_length, flat_length L HL.out]; omega)
      obtain ⟨C, hC⟩ : ∃ C, L[k] = C := ⟨_, rfl⟩
      rw [hC] at hl60 e1
      have HT : Hid ((L.take (k + 1)).flatten = (L.take k).flatten ++ C) := Lib.hid (by rw [flat_take L k hlt, hC])
      have HRG : Hid (wr.rangeAt bl (off + k * 60) (bytes C)) := Lib.hid (Lies.range (w := wr) (B := 0) (fun j u hj => (hbw.cell (p := ⟨bl, off + j, none⟩) hbb).trans (hc j u hj)) (bytes (L.take k).flatten) (bytes C) (bytes z) (by rw [e1, bytes_append, bytes_append]) (k * 60) (by rw [bytes_length, e2]; omega))
      have LC : Hid ((bytes C).length = 60) := Lib.hid (by rw [bytes_length, hl60])
      have LC2 := Lib.hid hl60
      have HC1 : Hid ((bytes C).all (·.oneCell') = true) := Lib.hid (bytes_oneC C)
      have HBIG : Big ((L.take k).flatten.length + 60 ≤ 1099511627776) := ⟨by rw [e2]; omega⟩
      have HBD := Lib.hid hbd
      have HBW := Lib.hid hbw
      generalize (L.take k).flatten = D at HT HBIG HBD
      generalize hM : bytes C = M at HRG LC HC1
      have HM := Lib.hid hM
      clear hc hl60 e1 e2 hC hbd hbw hM
      go_wp2_with (first
        | ((with_reducible refine wpLoadRK HRG.out 23 fits_block LC.out ?_ ?_); rfl)
        | ((with_reducible refine wpAllocK (w := wr) (bytes O) 23 HZ0.out ?_ ?_); rfl; intro u1 r1 b1 s1; have R1 := Lib.hid r1; have W1 := Lib.hid b1; have B1 := Lib.hid (HBW.out.next b1); clear r1 b1 s1)
        | ((with_reducible refine R1.out.wpStoreK 23 M fits_block LO.out LC.out HC1.out ?_ ?_); rfl; intro u2 r2 o2 s2; rw [← HM.out] at r2; have R2 := Lib.hid r2; have D2 : Hid (Bd w.heap.size w.heap.size D u2) := Lib.hid (HBD.out.below (W1.out.trans (o2.below (Nat.le_refl _) W1.out.size))); have B2 : Hid (Below w.heap.size w u2) := Lib.hid (B1.out.trans (o2.below HBW.out.size B1.out.size)); have N2 : Hid (wr.heap.size ≠ w.heap.size) := Lib.hid (by have := HBD.out.lt; omega); clear r2 o2 s2)
        | (go_at_call 30; (with_reducible refine (bwrite_any _ _ D _ _ 60 C u2 D2.out R2.out N2.out LC2.out (by decide) HBIG B2.out.size).mono ?_); rintro e u3 ⟨rfl, d3, b3⟩; have D3 := Lib.hid d3; have B3 : Hid (Below w.heap.size w u3) := Lib.hid (B2.out.trans b3); clear d3 b3))
      go_roundw
      case rel => exact ⟨k + 1, by omega, by go_num, by rw [HT.out]; exact D3.out, B3.out⟩
      case measure => simp [intOf]; omega
    · have HE : Hid (L.take k = L) := Lib.hid (List.take_of_length_le (by omega))
      rw [HE.out] at hbd
      have HS := Lib.hid (Try.Builder_String_any w.heap.size w.heap.size L.flatten wr hbd hbw.size)
      clear hbd
      go_wp2_with (go_at_call 27; (with_reducible refine HS.out.mono ?_); rintro e w3 ⟨rfl, hb3⟩)
      go_ret
      exact ⟨rfl, hbw.trans hb3⟩
end Go.Proofs.Ytmffkfgcopaoeaa
