/- Contracts of slices.Grow, slices.Concat of lists of blocks. -/
import Derived.Test.YtlcmnpbbfnfcmaaGreatStrA
import Derived.Test.YtlcmnpbbfnfcmaaGreatGrowM
import Derived.Test.YtlcmnpbbfnfcmaaGreatB5
namespace Go.Proofs.YtlcmnpbbfnfcmaaGreat
open Go.RowKit CrcMath GfMath PolyMath RsMath SolMath
set_option linter.unusedVariables false
set_option maxRecDepth 100000

theorem many_block : Many Tryz.prog 47 60 := Many.of (by kernel_rfl)
theorem str_grow_nil (n : Nat) (w : World) (h0 : 0 < n) (hn : n ≤ 1000000) :
    Calls Tryz.prog 65 #[.slice none 0 0, .int .i64 (n : Int)] w fun e w' => (∃ c, e = .returned (.slice (some ⟨w.heap.size, 0, none⟩) 0 c) ∧ w'.ownsRow w.heap.size 47 60 (.slice (some ⟨w.heap.size, 0, none⟩) 0 c) 0 []) ∧ Below w.heap.size w w' := by
  have h1 : ¬ (n : Int) < 0 := by omega
  have h2 : (n : Int) > 0 := by omega
  have h3 : (0 : Int) ≤ (n : Int) := by omega
  have hnb : (n : Int) ≤ 1000000 := by omega
  have H0 := Lib.hid h0
  have HS0 : Hid (0 < 60) := Lib.hid (by omega)
  have HN : Hid (n ≤ 1099511627776) := Lib.hid (by omega)
  go_enter Tryz.func65, Tryz.ntmps65
  go_wp2_with ((with_reducible refine wpAppendMadeM .i64 Tryz.underlying24 Tryz.underlying3 many_block H0.out HS0.out HN.out ?_ ?_); rfl; intro c w1 k1 k2 k3; have K1 : ((0 : Int) ≤ (c : Int)) := (by omega); have K2 := Lib.hid k2; have K3 := Lib.hid k3; clear k1 k2 k3)
  go_ret
  exact ⟨⟨_, rfl, K2.out⟩, K3.out⟩

theorem own_rowM {w : World} {base g n cap s : Nat} {e : TypeId} {xs : List Value} (h : w.ownsRow base e s (.slice (some ⟨g, 0, none⟩) n cap) n xs) : base ≤ g ∧ ∃ ys, Row w g e (xs ++ ys) := by
  rcases h.2 with ⟨h1, _⟩ | ⟨g', cap', cur, h1, h2, h3, h4, h5, h6, h7⟩
  · cases h1
  · cases h1
    refine ⟨h2, cur.toList.drop (n * s), ?_⟩
    rw [← h7, List.take_append_drop]
    exact h3

def cumF (k p j : Nat) : Nat := if j = 0 then 0 else if j = 1 then k else k + p
def catF (f : Fb) (k p j : Nat) : List UInt8 := grid (cumF k p j) (wholeT f k p 0)
set_option maxHeartbeats 1000000 in
theorem str_concat (gl gz : Nat) (a : Option Addr) (capa capz k p : Nat) (f : Fb) (w : World) (hk : 0 < k) (hk2 : k ≤ 1000) (hp : 0 < p) (hp2 : p ≤ 1000)
    (c0 : w.cell? ⟨gl, 0, none⟩ = some (.slice a k capa)) (c1 : w.cell? ⟨gl, 1, none⟩ = some (.slice (some ⟨gz, 0, none⟩) p capz)) (hra : Lies w w.heap.size a (bytes (grid k f))) (hrz : Row w gz 47 (List.replicate (p * 60) (.int .u8 0))) :
    Calls Tryz.prog 45 #[.slice (some ⟨gl, 0, none⟩) 2 2] w fun e w' =>
      (∃ g c ys, e = .returned (.slice (some ⟨g, 0, none⟩) (k + p) c) ∧ k + p ≤ c ∧ w.heap.size ≤ g ∧ Row w' g 47 (bytes (grid (k + p) (wholeT f k p 0)) ++ ys)) ∧ Below w.heap.size w w' := by
  have hgl : gl < w.heap.size := by
    simp only [World.cell?] at c0
    by_cases h : gl < w.heap.size
    · exact h
    · rw [Array.getElem?_eq_none (by omega)] at c0
      cases c0
  have HGL := Lib.hid hgl
  have HGET : Hid (∀ j, j < 2 → ∃ q y c news, w.cell? ⟨gl, j, none⟩ = some (.slice q y c) ∧ Lies w w.heap.size q (bytes news) ∧ news.length = y * 60 ∧ 0 < y ∧ y ≤ 1000 ∧ cumF k p (j + 1) = cumF k p j + y ∧ catF f k p (j + 1) = catF f k p j ++ news) := Lib.hid fun j hj => by
    match j, hj with
    | 0, _ =>
      refine ⟨a, k, capa, grid k f, c0, hra, grid_length _ _, hk, hk2, by simp [cumF], ?_⟩
      show grid k (wholeT f k p 0) = [] ++ grid k f
      rw [List.nil_append]
      exact grid_congr fun i hi b _ => wholeT_data f k p 0 i b hi
    | 1, _ =>
      refine ⟨_, p, capz, List.replicate (p * 60) 0, c1, ?_, List.length_replicate, hp, hp2, by simp [cumF], ?_⟩
      · intro _
        refine ⟨gz, 0, rfl, hrz.lt, fun j u hu => ?_⟩
        rw [Nat.zero_add, hrz.cell]
        rw [bytes_rep] at hu
        exact hu
      · show grid (k + p) (wholeT f k p 0) = grid k (wholeT f k p 0) ++ _
        rw [← grid_start, grid_congr (g := f) (f := wholeT f k p 0) fun i hi b _ => wholeT_data f k p 0 i b hi]
  have HG := Lib.hid (str_grow_nil (k + p) w (by omega) (by omega))
  have H0 : Hid (cumF k p 0 = 0) := Lib.hid rfl
  have HC0 : Hid (catF f k p 0 = []) := Lib.hid rfl
  have H2 : Hid (cumF k p 2 = k + p) := Lib.hid rfl
  have HC2 : Hid (catF f k p 2 = grid (k + p) (wholeT f k p 0)) := Lib.hid rfl
  have HLE : Hid (∀ j, cumF k p j ≤ 2000) := Lib.hid fun j => by unfold cumF; split; omega; split <;> omega
  have HFL : Hid (0 < k + p) := Lib.hid (by omega)
  rw [← HC2.out]
  obtain ⟨M, hM⟩ : ∃ M, k + p = M := ⟨_, rfl⟩
  rw [hM] at HG H2 HFL ⊢
  generalize cumF k p = cum at *
  generalize catF f k p = catl at *
  clear hM c0 c1 hra hrz hk hk2 hp hp2 HC2 hgl
  go_enter Tryz.func45, Tryz.ntmps45
  go_wp2
  go_loop [3, 11] (fun s i => ∃ j : Nat, j ≤ 2 ∧ i = .int .i64 j ∧ s = .int .i64 ((cum j : Nat) : Int)) (fun _ i => 2 - (intOf i).toNat)
  case atStart => exact ⟨0, Nat.zero_le _, rfl, by rw [H0.out]; rfl⟩
  case round =>
    obtain ⟨j, hj, rfl, rfl⟩ := hrel
    by_cases hlt : j < 2
    · have hk1 : (j : Int) < 2 := by omega
      obtain ⟨q, y, c, news, hcell, _, _, hy0, hy1, hcum, _⟩ := HGET.out j hlt
      have hb1 := HLE.out (j + 1)
      obtain ⟨x, hx⟩ : ∃ x, cum j = x := ⟨_, rfl⟩
      rw [hx] at hcum ⊢
      obtain ⟨t, ht2⟩ : ∃ t, x + y = t := ⟨_, rfl⟩
      rw [ht2] at hcum
      have hxy : ((x : Int) + (y : Int)) = (t : Int) := by omega
      have hxy0 : ¬ (t : Int) < 0 := by omega
      have hxyw : IntKind.i64.wrap (t : Int) = (t : Int) := by rw [IntKind.wrap_i64]; omega
      have HS2 := Lib.hid hcum
      clear hcum hb1 hx ht2 hy0 hy1
      go_wp2
      go_round
      case rel => exact ⟨j + 1, by omega, by go_num, by rw [HS2.out]⟩
      case measure => simp [intOf]; omega
    · have HJ : Hid (cum j = M) := Lib.hid (by rw [show j = 2 by omega, H2.out])
      have hj2 : ¬ (j : Int) < 2 := by omega
      rw [HJ.out]
      go_wp2_with (go_at_call 65; (with_reducible refine HG.out.mono ?_); rintro e w1 ⟨⟨c1, rfl, o1⟩, b1⟩; have O1 := Lib.hid o1; have B1 := Lib.hid b1; clear o1 b1)
      go_loopw [6, 27] (fun v i wr => ∃ q : Nat, q ≤ 2 ∧ i = .int .i64 q ∧ wr.ownsRow w.heap.size 47 60 v (cum q) (bytes (catl q)) ∧ Below w.heap.size w wr) (fun _ i _ => 2 - (intOf i).toNat)
      case atStart => exact ⟨0, Nat.zero_le _, rfl, by rw [H0.out, HC0.out]; exact O1.out, B1.out⟩
      case round =>
        clear O1 B1
        obtain ⟨z, hz, rfl, hown, hbw⟩ := hrel
        obtain ⟨av, cv, rfl, hlv⟩ := own_formM hown
        clear hlv
        by_cases hlt : z < 2
        · have hk1 : (z : Int) < 2 := by omega
          obtain ⟨q, y, c, news, hc1, hql, hnl, hy0, hy1, hcum, hcat⟩ := HGET.out z hlt
          have hcell : wr.cell? ⟨gl, z, none⟩ = some (.slice q y c) := (hbw.cell (p := ⟨gl, z, none⟩) HGL.out).trans hc1
          have hb1 := HLE.out z
          have HQL := Lib.hid ((hql.below hbw).mono hbw.size)
          have HNL : Hid ((bytes news).length = y * 60) := Lib.hid (by rw [bytes_length, hnl])
          have HU1 : Hid ((bytes news).all (·.oneCell') = true) := Lib.hid (bytes_oneC news)
          have HCAT : Hid (bytes (catl (z + 1)) = bytes (catl z) ++ bytes news) := Lib.hid (by rw [hcat, bytes_append])
          obtain ⟨x, hx⟩ : ∃ x, cum z = x := ⟨_, rfl⟩
          rw [hx] at hown hb1 hcum ⊢
          have HBG : Big (x + y ≤ 1099511627776) := ⟨by omega⟩
          have HCUM := Lib.hid hcum
          have HSZ : Hid (w.heap.size ≤ wr.heap.size) := Lib.hid hbw.size
          have HOWN := Lib.hid hown
          have HBW := Lib.hid hbw
          have HPO : Hid (0 < y) := Lib.hid hy0
          have HP60 : Hid (0 < 60) := Lib.hid (by omega)
          have HOL : Hid (∀ j, (Value.slice av x cv).ownBlock = some j → w.heap.size ≤ j) := Lib.hid fun j hj => by
            rcases HOWN.out.2 with ⟨h1, _⟩ | ⟨g', cap', cur, h1, h2, _⟩
            · rw [h1] at hj; cases hj
            · rw [h1] at hj; cases hj; exact h2
          generalize bytes news = NW at HQL HNL HU1 HCAT
          clear hcum hcat hown hbw hql hnl hy0 hy1 hb1 hx hc1
          go_wp2_with ((with_reducible refine wpAppendM c HOWN.out Tryz.underlying24 many_block HQL.out HNL.out HPO.out HP60.out HU1.out HBG HSZ.out ?_ ?_); rfl; intro v1 w2 g1 g2 g3; have G1 := Lib.hid g1; have G2 := Lib.hid g2; clear g1 g2 g3)
          go_roundw
          case rel => exact ⟨z + 1, by omega, by go_num, by rw [HCUM.out, HCAT.out]; exact G1.out, HBW.out.grown G2.out HBW.out.size HOL.out⟩
          case measure => simp [intOf]; omega
        · have HZ : Hid (z = 2) := Lib.hid (by omega)
          rw [show z = 2 by omega, H2.out] at hown
          rw [show z = 2 by omega, H2.out]
          have hform : ∃ g c2, Value.slice av M cv = .slice (some ⟨g, 0, none⟩) M c2 ∧ M ≤ c2 := by
            rcases hown.2 with ⟨_, h2⟩ | ⟨g', cap', cur, h2, h3, _, h5, _⟩
            · have := HFL.out; omega
            · exact ⟨g', cap', h2, h5⟩
          obtain ⟨g, c2, hv, hg⟩ := hform
          rw [hv] at hown ⊢
          have HOWN := Lib.hid (own_rowM hown)
          have HBW := Lib.hid hbw
          have HGC := Lib.hid hg
          clear hown hbw hv hg hz hlt
          go_wp2
          go_ret
          obtain ⟨h1, ys, h2⟩ := HOWN.out
          exact ⟨⟨g, c2, ys, rfl, HGC.out, h1, h2⟩, HBW.out⟩
end Go.Proofs.YtlcmnpbbfnfcmaaGreat
