/- StripeMends for what comes in. -/
import Derived.Test.YtlcmnpbbfnfcmaaGreatStrMc
import Derived.Test.YtlcmnpbbfnfcmaaGreatStrR
import Derived.Test.YtlcmnpbbfnfcmaaGreatStrL
namespace Go.Proofs.YtlcmnpbbfnfcmaaGreat
open Go.RowKit CrcMath GfMath PolyMath RsMath SolMath GeoMath Go.Maps
set_option linter.unusedVariables false
set_option linter.unusedSimpArgs false
set_option maxRecDepth 100000
def TTu : Open.Ty := .pair (.int .i64) (.pair (.int .i64) (.pair (.int .u8) (.pair .bool .unit)))
theorem tu_byte {n : Int} (h : (Lit.int .u8 n).wf = true) : ∃ b : UInt8, n = (b.toNat : Int) := by
  have h2 := h
  simp [Lit.wf, IntKind.min, IntKind.max, IntKind.bits, IntKind.signed] at h2
  refine ⟨UInt8.ofNat n.toNat, ?_⟩
  rw [UInt8.toNat_ofNat', Nat.mod_eq_of_lt (by omega)]
  omega
theorem reads_tu {w : World} {cs : List Value} {x : TTu.den} (h : Open.Reads w TTu cs x) : ∃ t : Tu, cs = tuv t := by
  have hl : cs.length = 4 := h.length
  match cs, hl with
  | [a, b, c, d], _ =>
    obtain ⟨⟨h1, g1⟩, ⟨h2, g2⟩, ⟨h3, g3⟩, h4, _⟩ := h
    obtain ⟨b3, k3⟩ := tu_byte g3
    have e1 : a = .int .i64 x.1 := by simpa [Open.Ty.size] using h1
    have e2 : b = .int .i64 x.2.1 := by simpa [Open.Ty.size] using h2
    have e3 : c = .int .u8 x.2.2.1 := by simpa [Open.Ty.size] using h3
    have h5 : [d] = [.bool x.2.2.2.1] := h4
    have e4 : d = .bool x.2.2.2.1 := by simpa using h5
    exact ⟨⟨x.1, x.2.1, b3, x.2.2.2.1⟩, by rw [e1, e2, e3, e4, k3]; rfl⟩
theorem reads_tus {w : World} {a : Option Addr} {cap by_ : Nat} {l : List TTu.den} (h : Open.Reads w (.sl by_ TTu) [.slice a l.length cap] l) : ∃ L : List Tu, L.length = l.length ∧ Lies w w.heap.size a (tucs L) := by
  obtain ⟨a', cap', hc, _, _, _, hr⟩ := h
  obtain ⟨rfl, rfl⟩ : a' = a ∧ cap' = cap := by simp at hc; exact ⟨hc.1.symm, hc.2.symm⟩
  rcases Nat.eq_zero_or_pos l.length with h0 | h0
  · exact ⟨[], by rw [h0]; rfl, Lies.nil _ _ _⟩
  · obtain ⟨b, off, ha, hb, hx⟩ := hr h0
    have hp : ∀ i, i < l.length → ∃ r : Tu, ∀ j u, (tuv r)[j]? = some u → w.cell? ⟨b, off + (i * 4 + j), none⟩ = some u := fun i hi => by
      obtain ⟨cs, h1, h2, h3⟩ := hx i hi
      obtain ⟨t, rfl⟩ := reads_tu h3
      refine ⟨t, fun j u hj => ?_⟩
      have hj4 : j < 4 := (List.getElem?_eq_some_iff.1 hj).1
      have := h2 j hj4
      rw [show TTu.size = 4 from rfl] at this
      rw [this]
      exact hj
    obtain ⟨L, hL, hL2⟩ := Open.choose_list (α := Tu) (fun i r => ∀ j u, (tuv r)[j]? = some u → w.cell? ⟨b, off + (i * 4 + j), none⟩ = some u) l.length hp ()
    refine ⟨L, hL, fun _ => ⟨b, off, ha, hb, fun j u hj => ?_⟩⟩
    obtain ⟨hi, hc2⟩ := tucs_back hj
    have := hL2 (j / 4) hi _ _ hc2
    rwa [show j / 4 * 4 + j % 4 = j by omega] at this
theorem stripeMends_walk (d p s : Int) (a1 a2 : Option Addr) (n1 n2 cap1 cap2 : Nat) (f : Fb) (ts : List Tu) (w : World) (hr1 : Lies w w.heap.size a1 (bytes (grid n1 f))) (hn1 : n1 ≤ 9223372036854775807) (hts : ts.length = n2) (hn2 : n2 ≤ 9223372036854775807) (hr2 : Lies w w.heap.size a2 (tucs ts)) :
    Calls Tryz.prog 3 #[.agg #[.int .i64 d, .int .i64 p, .int .i64 s], .slice a1 n1 cap1, .slice a2 n2 cap2] w fun e w' => e = .returned (.bool true) ∧ Below w.heap.size w w' := by
  by_cases h : right ⟨d, p, s⟩ = true ∧ (n1 : Int) = d ∧ n2 ≤ 60
  · obtain ⟨hr, hd, h60⟩ := h
    obtain ⟨k, p', s', hg, hk, hk8, hp, hp6, hs, hs8⟩ := right_is hr
    have e1 : d = (k : Int) := congrArg Gm.d hg
    have e2 : p = (p' : Int) := congrArg Gm.p hg
    have e3 : s = (s' : Int) := congrArg Gm.s hg
    obtain rfl : n1 = k := by omega
    rw [e1, e2, e3]
    exact stripeMends_good n1 p' s' a1 a2 cap1 n2 cap2 f ts w hk hk8 hp hp6 hs hs8 hr1 hts h60 hr2
  · exact stripeMends_bad d p s a1 a2 n1 n2 cap1 cap2 w h hn1 hn2
end Go.Proofs.YtlcmnpbbfnfcmaaGreat
