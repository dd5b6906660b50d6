/- Contracts of slices.Grow of nil, slices.Concat of lists of bytes. -/
import Derived.Test.YtpnjmbhplckgmaaRsE
import Derived.Test.YtpnjmbhplckgmaaGrow
namespace Go.Proofs.Ytpnjmbhplckgmaa
open Go.RowKit GfMath PolyMath RsMath
set_option linter.unusedVariables false

theorem grow_nil (n : Nat) (w : World) (h0 : 0 < n) (hn : n ≤ 1000000) :
    Calls Try.prog 41 #[.slice none 0 0, .int .i64 (n : Int)] w fun e w' => (∃ c, e = .returned (.slice (some ⟨w.heap.size, 0, none⟩) 0 c) ∧ w'.ownsRow w.heap.size 5 1 (.slice (some ⟨w.heap.size, 0, none⟩) 0 c) 0 []) ∧ Below w.heap.size w w' := by
  have h1 : ¬ (n : Int) < 0 := by omega
  have h2 : (n : Int) > 0 := by omega
  have h3 : (0 : Int) ≤ (n : Int) := by omega
  have hnb : (n : Int) ≤ 1000000 := by omega
  have H0 := Lib.hid h0
  have HN : Hid (n ≤ 1099511627776) := Lib.hid (by omega)
  go_enter Try.func41, Try.ntmps41
  go_wp2_with ((with_reducible refine wpAppendMadeK .i64 Try.underlying22 Try.underlying3 one_byte H0.out HN.out ?_ ?_); rfl; intro c w1 k1 k2 k3; have K1 : ((0 : Int) ≤ (c : Int)) := (by omega); have K2 := Lib.hid k2; have K3 := Lib.hid k3; clear k1 k2 k3)
  go_ret
  exact ⟨⟨_, rfl, K2.out⟩, K3.out⟩

/-- The first k lists, one behind the other. -/
def catl (ls : List (List Nat)) (k : Nat) : List Nat := (ls.take k).flatten
theorem catl_all (ls : List (List Nat)) : catl ls ls.length = ls.flatten := by rw [catl, List.take_of_length_le (Nat.le_refl _)]
set_option maxHeartbeats 1000000 in
theorem concat_any (a : Option Addr) (cap : Nat) (ts : List Hd) (ls : List (List Nat)) (w : World) (hp : Polys w ts ls) (h0 : 0 < ls.length) (hne : ∀ l ∈ ls, 0 < l.length) (hn : ls.length ≤ 1000) (hl : ls.flatten.length ≤ 1000000) (hr : Lies w w.heap.size a (slvs ts)) :
    Calls Try.prog 26 #[.slice a ls.length cap] w fun e w' =>
      (∃ g c, e = .returned (.slice (some ⟨g, 0, none⟩) ls.flatten.length c) ∧ w.heap.size ≤ g ∧ w'.ownsRow w.heap.size 5 1 (.slice (some ⟨g, 0, none⟩) ls.flatten.length c) ls.flatten.length (u8s ls.flatten)) ∧ Below w.heap.size w w' := by
  rw [← catl_all] at hl ⊢
  have HR := Lib.hid hr
  have HP := Lib.hid hp
  have HNE := Lib.hid hne
  have HL : Hid ((catl ls ls.length).length ≤ 1000000) := Lib.hid hl
  have hfl : 0 < (catl ls ls.length).length := by
    rw [catl_all]
    match ls, h0, hne with
    | l :: r, _, hne => rw [List.flatten_cons, List.length_append]; have := hne l (by simp); omega
  have hst : ∀ k (hk : k < ls.length), catl ls (k + 1) = catl ls k ++ ls[k] := fun k hk => by rw [catl, catl, take_snoc ls k hk, List.flatten_append, List.flatten_cons, List.flatten_nil, List.append_nil]
  have hle : ∀ k, (catl ls k).length ≤ (catl ls ls.length).length := fun k => by
    have h : catl ls ls.length = catl ls k ++ (ls.drop k).flatten := by rw [catl_all, catl, ← List.flatten_append, List.take_append_drop]
    rw [h, List.length_append]
    omega
  have HST := Lib.hid hst
  have HLE := Lib.hid hle
  have HG := Lib.hid (grow_nil (catl ls ls.length).length w hfl hl)
  have HFL : Hid (0 < (catl ls ls.length).length) := Lib.hid hfl
  clear hr hp hne hst hle hfl hl
  go_enter Try.func26, Try.ntmps26
  go_wp2
  go_loop [3, 11] (fun s i => ∃ k : Nat, k ≤ ls.length ∧ i = .int .i64 k ∧ s = .int .i64 (((catl ls k).length : Nat) : Int)) (fun _ i => ls.length - (intOf i).toNat)
  case atStart => exact ⟨0, Nat.zero_le _, rfl, rfl⟩
  case round =>
    obtain ⟨k, hk, rfl, rfl⟩ := hrel
    by_cases hlt : k < ls.length
    · have hk1 : (k : Int) < ls.length := by omega
      obtain ⟨q, c, ht, hqc, hc1, hq8, hql⟩ := HP.out.get k hlt
      have hkt : k < ts.length := by rw [HP.out.len]; exact hlt
      obtain ⟨b2, off, rfl, hbb, hcl⟩ := HR.out (by rw [slvs_length]; omega)
      have hcell : w.cell? ⟨b2, off + k, none⟩ = some (.slice q ls[k].length c) := by
        have h1 := hcl k _ (slvs_get ts k hkt)
        rw [ht] at h1
        exact h1
      have hs2 := congrArg List.length (HST.out k hlt)
      rw [List.length_append] at hs2
      have hb1 := HLE.out (k + 1)
      have hb2 := HL.out
      obtain ⟨x, hx⟩ : ∃ x, (catl ls k).length = x := ⟨_, rfl⟩
      obtain ⟨y, hy⟩ : ∃ y, ls[k].length = y := ⟨_, rfl⟩
      rw [hx, hy] at hs2
      rw [hy] at hcell
      rw [hx]
      obtain ⟨t, ht2⟩ : ∃ t, x + y = t := ⟨_, rfl⟩
      rw [ht2] at hs2
      have hxy : ((x : Int) + (y : Int)) = (t : Int) := by omega
      have hxy0 : ¬ (t : Int) < 0 := by omega
      have hxyw : IntKind.i64.wrap (t : Int) = (t : Int) := by rw [IntKind.wrap_i64]; omega
      have HS2 := Lib.hid hs2
      clear hs2 hb1 hb2 hx hy ht hqc hc1 hq8 hql hcl hbb ht2
      go_wp2
      go_round
      case rel => exact ⟨k + 1, by omega, by go_num, by rw [HS2.out]⟩
      case measure => simp [intOf]; omega
    · have ek : k = ls.length := by omega
      have e1 : catl ls k = catl ls ls.length := by rw [ek]
      rw [e1]
      clear e1 ek
      obtain ⟨M, hM⟩ : ∃ M, (catl ls ls.length).length = M := ⟨_, rfl⟩
      rw [hM] at HG ⊢
      have HM := Lib.hid hM
      clear hM
      go_wp2_with (go_at_call 41; (with_reducible refine HG.out.mono ?_); rintro e w1 ⟨⟨c1, rfl, o1⟩, b1⟩; have O1 := Lib.hid o1; have B1 := Lib.hid b1; clear o1 b1)
      go_loopw [6, 27] (fun v i wr => ∃ j : Nat, j ≤ ls.length ∧ i = .int .i64 j ∧ wr.ownsRow w.heap.size 5 1 v (catl ls j).length (u8s (catl ls j)) ∧ Below w.heap.size w wr) (fun _ i _ => ls.length - (intOf i).toNat)
      case atStart => exact ⟨0, Nat.zero_le _, rfl, O1.out, B1.out⟩
      case round =>
        clear O1 B1
        obtain ⟨j, hj, rfl, hown, hbw⟩ := hrel
        obtain ⟨av, cv, rfl, hcv, hlv⟩ := own_form2 hown
        clear hcv hlv
        by_cases hlt : j < ls.length
        · have hk1 : (j : Int) < ls.length := by omega
          obtain ⟨q, c, ht, hqc, hc1, hq8, hql⟩ := HP.out.get j hlt
          have hkt : j < ts.length := by rw [HP.out.len]; exact hlt
          obtain ⟨b2, off, rfl, hbb, hcl⟩ := HR.out (by rw [slvs_length]; omega)
          have hcell : wr.cell? ⟨b2, off + j, none⟩ = some (.slice q ls[j].length c) := by
            have h1 := (hbw.cell (p := ⟨b2, off + j, none⟩) hbb).trans (hcl j _ (slvs_get ts j hkt))
            rw [ht] at h1
            exact h1
          have hs2 := HST.out j hlt
          have hb1 := HLE.out (j + 1)
          have hb2 := HL.out
          have hpos := HNE.out _ (List.getElem_mem hlt)
          rw [hs2, List.length_append] at hb1
          have HS2 := Lib.hid hs2
          obtain ⟨F, hF⟩ : ∃ F, catl ls j = F := ⟨_, rfl⟩
          obtain ⟨l, hl⟩ : ∃ l, ls[j] = l := ⟨_, rfl⟩
          rw [hF] at hown hb1 ⊢
          rw [hl] at hcell hb1 hpos
          have HQL := Lib.hid (hql.step hbw)
          rw [hl] at HQL
          have HFF := Lib.hid hF
          have HLL2 := Lib.hid hl
          have HOWN := Lib.hid hown
          have HBW := Lib.hid hbw
          have HUL : Hid ((u8s l).length = l.length) := Lib.hid (u8s_length l)
          have HPO : Hid (0 < l.length) := Lib.hid hpos
          have HU1 : Hid ((u8s l).all (·.oneCell') = true) := Lib.hid (u8s_one l)
          have HBG : Big (F.length + l.length ≤ 1099511627776) := ⟨by omega⟩
          have HSZ : Hid (w.heap.size ≤ wr.heap.size) := Lib.hid hbw.size
          have HOL : Hid (∀ j, (Value.slice av F.length cv).ownBlock = some j → w.heap.size ≤ j) := Lib.hid fun j hj => (HOWN.out.lt j hj).1
          clear hs2 hb1 hb2 hF hl hown hbw ht hqc hc1 hq8 hql hcl hbb hpos
          go_wp2_with ((with_reducible refine wpAppendK c HOWN.out Try.underlying22 one_byte HQL.out HUL.out HPO.out HU1.out HBG HSZ.out ?_ ?_); rfl; intro v1 w2 g1 g2 g3; have G1 := Lib.hid g1; have G2 := Lib.hid g2; clear g1 g2 g3)
          go_roundw
          case rel => exact ⟨j + 1, by omega, by go_num, by rw [HS2.out, HFF.out, HLL2.out, u8s_append, List.length_append]; exact G1.out, HBW.out.grown G2.out HBW.out.size HOL.out⟩
          case measure => simp [intOf]; omega
        · have ek : j = ls.length := by omega
          have e1 : catl ls j = catl ls ls.length := by rw [ek]
          rw [e1] at hown
          rw [e1]
          have hform : ∃ g c2, Value.slice av (catl ls ls.length).length cv = .slice (some ⟨g, 0, none⟩) (catl ls ls.length).length c2 ∧ w.heap.size ≤ g := by
            rcases hown.2 with ⟨_, h2⟩ | ⟨g', cap', cur, h2, h3, _⟩
            · have := HFL.out; omega
            · exact ⟨g', cap', h2, h3⟩
          obtain ⟨g, c2, hv, hg⟩ := hform
          have hM := HM.out
          rw [hM] at hv hown ⊢
          rw [hv] at hown ⊢
          have HOWN := Lib.hid hown
          have HBW := Lib.hid hbw
          clear hown hbw e1 ek hv hM
          go_wp2
          go_ret
          exact ⟨⟨g, c2, congrArg (fun m => Ending.returned (.slice (some ⟨g, 0, none⟩) m c2)) HM.out.symm, hg, by rw [HM.out]; exact HOWN.out⟩, HBW.out⟩

end Go.Proofs.Ytpnjmbhplckgmaa
