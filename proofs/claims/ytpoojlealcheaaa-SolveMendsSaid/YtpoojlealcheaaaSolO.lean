/- The document's Mend. -/
import Derived.Test.YtpoojlealcheaaaSolN
namespace Go.Proofs.Ytpoojlealcheaaa
open Go.RowKit GfMath PolyMath RsMath SolMath
set_option linter.unusedVariables false
set_option linter.unusedSimpArgs false
set_option maxRecDepth 100000

/-- What the document's Mend tells. -/
def Mr (d : Md) (e : Ending) (w' : World) : Prop :=
  match d with
  | .arg => e = .returned (.tuple #[.slice none 0 0, .slice none 0 0, .int .i64 1])
  | .bad => e = .returned (.tuple #[.slice none 0 0, .slice none 0 0, .int .i64 8])
  | .ok m l => ∃ v y, e = .returned (.tuple #[v, y, .int .i64 0]) ∧ Rd m v w' ∧ IReads w' y l
theorem rmend_far (a : Option Addr) (cap m_ : Nat) (n k : Int) (v : Value) (w : World) (hm : (m_ : Int) ≠ n) :
    Calls Try.prog 9 #[.slice a m_ cap, .int .i64 n, .int .i64 k, v] w fun e w' => e = .returned (.tuple #[.slice none 0 0, .slice none 0 0, .int .i64 1]) ∧ Below w.heap.size w w' := by
  have e1 : ((m_ : Int) == n) = false := by
    cases h : ((m_ : Int) == n) with
    | false => rfl
    | true => exact absurd (eq_of_beq h) hm
  have HB := Lib.hid (Below.refl w.heap.size w)
  go_enter Try.func9, Try.ntmps9
  go_wp2
  go_ret3
  exact ⟨rfl, HB.out⟩

set_option maxHeartbeats 8000000 in
theorem rmend_any (a : Option Addr) (cap : Nat) (W : List Nat) (n k p : Nat) (ea : Option Addr) (ecap : Nat) (er : List Int) (w : World) (hW : By W) (hn : W.length = n) (h255 : n ≤ 255) (hp0 : 0 < p) (hkp : k + p = n) (hel : er.length ≤ 1000) (hr : Lies w w.heap.size a (u8s W)) (her : Lies w w.heap.size ea (ints er)) :
    Calls Try.prog 9 #[.slice a n cap, .int .i64 (n : Int), .int .i64 (k : Int), .slice ea er.length ecap] w fun e w' => Mr (mendF masseyF n p W er) e w' ∧ Below w.heap.size w w' := by
  have HR := Lib.hid hr
  have HE := Lib.hid her
  have HARG : Hid (inB n er = false → mendF masseyF n p W er = .arg) := Lib.hid fun h => ref_arg h
  have HMUCH : Hid (inB n er = true → p < (plF er).length → mendF masseyF n p W er = .bad) := Lib.hid fun h1 h2 => ref_much h1 h2
  have HNONE : Hid (inB n er = true → (plF er).length ≤ p → tryF W p n ((p - (plF er).length) / 2) (plF er) 0 = none → mendF masseyF n p W er = .bad) := Lib.hid fun h1 h2 h3 => ref_none hW hn h255 h1 h2 h3
  have HSOME : Hid (∀ D, inB n er = true → (plF er).length ≤ p → tryF W p n ((p - (plF er).length) / 2) (plF er) 0 = some D → mendF masseyF n p W er = .ok D (atF (SolMath.er W D) n)) := Lib.hid fun D h1 h2 h3 => ref_some hW hn h255 hp0 h1 h2 h3
  have HAG : Hid (∀ m, mendF masseyF n p W er = m → Mr m = Mr (mendF masseyF n p W er)) := Lib.hid fun m h => by rw [h]
  have HOKL : Hid (∀ D l, mendF masseyF n p W er = .ok D l → D.length = n ∧ By D) := Lib.hid fun D l h => ⟨by rw [(mendF_ok h).2.2.2, hn], mendF_by hW h⟩
  have HPL : Hid (inB n er = true → Plc (plF er) n) := Lib.hid fun h => (plF_spec er h).1
  have HTRY : Hid (∀ (m pb capP : Nat) (zs : List Value) (u : World), inB n er = true → (plF er).length + m ≤ p → Lies u u.heap.size a (u8s W) → Row u pb 3 (nats (plF er) ++ zs) →
      Calls Try.prog 20 #[.slice a n cap, .int .i64 (n : Int), .int .i64 (k : Int), .slice (some ⟨pb, 0, none⟩) (plF er).length capP, .int .i64 0, .int .i64 (m : Int)] u fun e w' => SolP u.heap.size (tryF W p n m (plF er) 0) e w' ∧ Below u.heap.size u w') := Lib.hid fun m pb capP zs u h1 h2 h3 h4 => try_any a cap W n k p hW hn h255 hp0 hkp m (plF er) 0 pb capP zs u (HPL.out h1) h2 (Nat.zero_le _) h3 h4
  have HHA : Hid (∀ (u : World) (P : List Nat) (pb capP q : Nat) (zs : List Value), P.length ≤ 1000 → Row u pb 3 (nats P ++ zs) → Calls Try.prog 19 #[.slice (some ⟨pb, 0, none⟩) P.length capP, .int .i64 (q : Int)] u fun e w' => e = .returned (.bool (decide (q ∈ P))) ∧ u = w') := Lib.hid fun u P pb capP q zs h1 h2 => rhas_any _ _ _ _ u h1 (rs_lies h2)
  have HNEXT : Hid (∀ (j : Nat) (h : j < er.length), plF (er.take (j + 1)) = plStep (plF (er.take j)) er[j]) := Lib.hid fun j h => plF_next er j h
  have HLEN : Hid (∀ j, j ≤ er.length → (plF (er.take j)).length ≤ j) := Lib.hid fun j => by
    induction j with
    | zero => intro _; exact Nat.le_refl _
    | succ j ih =>
      intro h
      rw [plF_next er j (by omega)]
      have := ih (by omega)
      unfold plStep
      split
      · omega
      · rw [List.length_append, List.length_singleton]; omega
  have HTAKE : Hid (er.take er.length = er) := Lib.hid List.take_length
  have HINB : Hid ((∀ c (h : c < er.length), 0 ≤ er[c] ∧ er[c] < (n : Int)) → inB n er = true) := Lib.hid fun h => inB_true h
  have HOUT : Hid (∀ (j : Nat) (h : j < er.length), er[j] < 0 ∨ (n : Int) ≤ er[j] → inB n er = false) := Lib.hid fun j h hb => inB_false j h hb
  have hb3 : (n : Int) - (k : Int) = (p : Int) := by omega
  have hni : (n : Int) ≤ 255 := by omega
  have hki : (k : Int) ≤ 255 := by omega
  have hpi : (p : Int) ≤ 255 := by omega
  have hnn : ((n : Int) == (n : Int)) = true := by simp
  have HWL := Lib.hid hn
  have HP255 : Hid (n ≤ 255 ∧ 0 < n) := Lib.hid (by omega)
  obtain ⟨t, ht⟩ : ∃ t, er.length = t := ⟨_, rfl⟩
  have HT := Lib.hid ht
  have hti : (t : Int) ≤ 1000 := by omega
  rw [ht]
  clear hr her hW hn h255 hp0 hkp hel HPL ht
  go_enter Try.func9, Try.ntmps9
  go_wp2
  go_loopw [11, 12] (fun v x wr => ∃ (j g cg : Nat), j ≤ t ∧ x = .int .i64 j ∧ v = .slice (some ⟨g, 0, none⟩) (plF (er.take j)).length cg ∧ wr.ownsRow w.heap.size 3 1 (.slice (some ⟨g, 0, none⟩) (plF (er.take j)).length cg) (plF (er.take j)).length (nats (plF (er.take j))) ∧ (∀ c (h : c < er.length), c < j → 0 ≤ er[c] ∧ er[c] < (n : Int)) ∧ Below w.heap.size w wr) (fun _ x _ => t - (intOf x).toNat)
  case atStart => exact ⟨0, w.heap.size, 0, Nat.zero_le _, rfl, rfl, own_zero w _, fun c _ h => absurd h (Nat.not_lt_zero _), alloc_below _ _⟩
  case round =>
    obtain ⟨j, g, cg, hj, rfl, rfl, hown, hin, hbw⟩ := hrel
    have HOWN := Lib.hid hown
    have HIN := Lib.hid hin
    have HBW := Lib.hid hbw
    obtain ⟨_, zs, hrow⟩ := own_row hown
    have HROW := Lib.hid hrow
    clear hown hin hbw hrow
    by_cases hlt : j < t
    · have hjl : Hid (j < er.length) := Lib.hid (by rw [HT.out]; exact hlt)
      have hji : (j : Int) < (t : Int) := by omega
      obtain ⟨bb, off, rfl, hbb, hcl⟩ := HE.out (by rw [ints_length, HT.out]; omega)
      have hc : wr.cell? ⟨bb, off + j, none⟩ = some (.int .i64 (er[j]'hjl.out)) := by
        rw [HBW.out.cell (p := ⟨bb, off + j, none⟩) hbb]
        exact hcl j _ (ints_get er j hjl.out)
      have HOUTJ := Lib.hid (HOUT.out j hjl.out)
      have HNX := Lib.hid (HNEXT.out j hjl.out)
      have HLJ := Lib.hid (HLEN.out j (Nat.le_of_lt hjl.out))
      have HIN2 : Hid (0 ≤ er[j]'hjl.out → er[j]'hjl.out < (n : Int) → ∀ c (h : c < er.length), c < j + 1 → 0 ≤ er[c] ∧ er[c] < (n : Int)) := Lib.hid fun h1 h2 c h h3 => by
        by_cases e : c = j
        · subst e; exact ⟨h1, h2⟩
        · exact HIN.out c h (by omega)
      obtain ⟨x, hx⟩ : ∃ x, er[j]'hjl.out = x := ⟨_, rfl⟩
      rw [hx] at hc HOUTJ HNX HIN2
      clear hcl hx hbb
      by_cases hx0 : x < 0
      · have d1 : decide (x < 0) = true := decide_eq_true hx0
        have HF : Hid (mendF masseyF n p W er = .arg) := Lib.hid (HARG.out (HOUTJ.out (Or.inl hx0)))
        go_wp2
        go_ret3
        rw [HF.out]
        exact ⟨rfl, HBW.out⟩
      have d1 : decide (x < 0) = false := decide_eq_false hx0
      by_cases hxn : (n : Int) ≤ x
      · have d2 : decide ((n : Int) ≤ x) = true := decide_eq_true hxn
        have HF : Hid (mendF masseyF n p W er = .arg) := Lib.hid (HARG.out (HOUTJ.out (Or.inr hxn)))
        go_wp2
        go_ret3
        rw [HF.out]
        exact ⟨rfl, HBW.out⟩
      have d2 : decide ((n : Int) ≤ x) = false := decide_eq_false hxn
      obtain ⟨q, rfl⟩ : ∃ q : Nat, x = (q : Int) := ⟨x.toNat, by omega⟩
      have HIN3 := Lib.hid (HIN2.out (by omega) (by omega))
      have HHI := Lib.hid (HHA.out wr (plF (er.take j)) g cg q zs (by have := HLJ.out; omega) HROW.out)
      rw [plStep, Int.toNat_natCast] at HNX
      clear HOUTJ HIN2 HIN HARG HMUCH HNONE HSOME HAG HOKL HTRY HHA HINB HOUT HTAKE
      by_cases hmem : q ∈ plF (er.take j)
      · rw [if_pos hmem] at HNX
        rw [decide_eq_true hmem] at HHI
        clear hmem
        go_wp2_with (go_at_call 19; (with_reducible refine HHI.out.mono ?_); rintro e w2 ⟨rfl, rfl⟩)
        go_roundw
        case rel => exact ⟨j + 1, g, cg, by omega, by go_num, by rw [HNX.out], by rw [HNX.out]; exact HOWN.out, HIN3.out, HBW.out⟩
        case measure => simp [intOf]; omega
      · rw [if_neg hmem] at HNX
        rw [decide_eq_false hmem] at HHI
        have HOW2 := Lib.hid (own_below HOWN.out (alloc_below wr (.cells #[.int .i64 (q : Int)] 3)))
        have HL2 : Hid (Lies (wr.alloc (.cells #[.int .i64 (q : Int)] 3)) (wr.alloc (.cells #[.int .i64 (q : Int)] 3)).heap.size (some ⟨wr.heap.size, 0, none⟩) [.int .i64 (q : Int)]) := Lib.hid (Lies.new [_] _ _)
        have HBW2 := Lib.hid (HBW.out.next (alloc_below wr (.cells #[.int .i64 (q : Int)] 3)))
        have HZ2 := Lib.hid HBW2.out.size
        have HO1 : Hid ((Value.int .i64 (q : Int)).oneCell' = true) := Lib.hid rfl
        have HSN : Hid (nats (plF (er.take j)) ++ [.int .i64 (q : Int)] = nats (plF (er.take (j + 1)))) := Lib.hid (by rw [HNX.out, nats_snoc])
        have HLN : Hid ((plF (er.take j)).length + 1 = (plF (er.take (j + 1))).length) := Lib.hid (by rw [HNX.out, List.length_append]; rfl)
        obtain ⟨P, hP⟩ : ∃ P, plF (er.take j) = P := ⟨_, rfl⟩
        obtain ⟨P2, hP2⟩ : ∃ P, plF (er.take (j + 1)) = P := ⟨_, rfl⟩
        rw [hP] at HOW2 HHI HSN HLN HLJ ⊢
        rw [hP2] at HSN HLN
        have HP2 := Lib.hid hP2
        have HBG : Big (P.length + 1 ≤ 1099511627776) := ⟨by have := HLJ.out; omega⟩
        clear hmem hP hP2 HOWN HROW HNX
        go_wp2_with (first
          | (go_at_call 19; (with_reducible refine HHI.out.mono ?_); rintro e w2 ⟨rfl, rfl⟩)
          | ((with_reducible refine wpAppend1K HOW2.out Try.underlying23 one_int HL2.out HO1.out HBG HZ2.out ?_ ?_); rfl; intro v3 w3 g1 g2 g3; rw [HSN.out, HLN.out] at g1; obtain ⟨g9, c9, ys, rfl, _, _, _⟩ := own_some g1 (by rw [← HLN.out]; exact Nat.succ_pos _); have G1 := Lib.hid g1; have BW3 : Hid (Below w.heap.size w w3) := Lib.hid (HBW2.out.grown g2 HZ2.out (fun j hj => (HOW2.out.lt j hj).1)); clear g1 g2 g3))
        go_roundw
        case rel => exact ⟨j + 1, g9, c9, by omega, by go_num, by rw [HP2.out], by rw [HP2.out]; exact G1.out, HIN3.out, BW3.out⟩
        case measure => simp [intOf]; omega
    · have ej : j = er.length := by have := HT.out; omega
      have hji : ¬ (j : Int) < (t : Int) := by omega
      have HB : Hid (inB n er = true) := Lib.hid (HINB.out fun c h => HIN.out c h (by omega))
      have hle : (plF er).length ≤ 1000 := by have := HLEN.out er.length (Nat.le_refl _); rw [HTAKE.out] at this; have := HT.out; omega
      rw [ej, HTAKE.out] at HROW
      have hpe : plF (er.take j) = plF er := by rw [ej, HTAKE.out]
      rw [hpe]
      clear hpe HOWN HIN HOUT HNEXT HLEN HTAKE HINB HHA HARG
      by_cases hmu : p < (plF er).length
      · have d1 : decide ((p : Int) < ((plF er).length : Int)) = true := decide_eq_true (by omega)
        have HF : Hid (mendF masseyF n p W er = .bad) := Lib.hid (HMUCH.out HB.out hmu)
        have d3 : (p : Int) < ((plF er).length : Int) := by omega
        go_wp2
        go_ret3
        rw [HF.out]
        exact ⟨rfl, HBW.out⟩
      have d1 : decide ((p : Int) < ((plF er).length : Int)) = false := decide_eq_false (by omega)
      have d3 : ¬ (p : Int) < ((plF er).length : Int) := by omega
      have HBIG : Hid ((plF er).length ≤ p) := Lib.hid (by omega)
      obtain ⟨m, hm⟩ : ∃ m, (p - (plF er).length) / 2 = m := ⟨_, rfl⟩
      have HTR := Lib.hid (HTRY.out m g cg zs wr HB.out (by omega) (HR.out.step HBW.out) HROW.out)
      have e2 : ((p : Int) - ((plF er).length : Int)) / 2 = (m : Int) := by omega
      have e2t : ((p : Int) - ((plF er).length : Int)).tdiv 2 = (m : Int) := by rw [Int.tdiv_eq_ediv_of_nonneg (by omega)]; exact e2
      have HN2 := Lib.hid (HNONE.out HB.out HBIG.out)
      have HS2 := Lib.hid fun D => HSOME.out D HB.out HBIG.out
      rw [hm] at HN2 HS2
      obtain ⟨r, hr⟩ : ∃ r, tryF W p n m (plF er) 0 = r := ⟨_, rfl⟩
      rw [hr] at HTR HN2
      rw [hr] at HS2
      obtain ⟨L, hL⟩ : ∃ L, (plF er).length = L := ⟨_, rfl⟩
      rw [hL] at d1 d3 HTR e2 e2t hle ⊢
      have hLi : (L : Int) ≤ 1000 := by omega
      have hmi : (m : Int) ≤ 255 := by omega
      clear hm hr hL HBIG HTRY HNONE HSOME HMUCH hmu hle HROW
      cases r with
      | none =>
        have HF : Hid (mendF masseyF n p W er = .bad) := Lib.hid (HN2.out rfl)
        clear HN2 HS2
        go_wp2_with (go_at_call 20; (with_reducible refine HTR.out.mono ?_); rintro e u1 ⟨h1, b1⟩; obtain rfl : e = _ := h1; have B1 := Lib.hid (HBW.out.next b1); clear b1)
        go_ret3
        rw [HF.out]
        exact ⟨rfl, B1.out⟩
      | some D =>
        have HF : Hid (mendF masseyF n p W er = .ok D (atF (SolMath.er W D) n)) := Lib.hid (HS2.out D rfl)
        have HDL : Hid (D.length = n) := Lib.hid (HOKL.out _ _ HF.out).1
        clear HN2 HS2
        go_wp2_with (go_at_call 20; (with_reducible refine HTR.out.mono ?_); rintro e u1 ⟨⟨v, rfl, ⟨va, vc, rfl, hvc, hvl⟩, h2⟩, b1⟩; have B1 := Lib.hid (HBW.out.next b1); have HV := Lib.hid hvl; have HVC := Lib.hid hvc; clear b1 h2 hvl hvc)
        rw [HDL.out]
        go_loopw [15, 16] (fun y x w2 => ∃ (i g2 c2 : Nat), i ≤ n ∧ x = .int .i64 i ∧ y = .slice (some ⟨g2, 0, none⟩) (atF (SolMath.er W D) i).length c2 ∧ w2.ownsRow u1.heap.size 3 1 (.slice (some ⟨g2, 0, none⟩) (atF (SolMath.er W D) i).length c2) (atF (SolMath.er W D) i).length (nats (atF (SolMath.er W D) i)) ∧ Below u1.heap.size u1 w2) (fun _ x _ => n - (intOf x).toNat)
        case atStart => exact ⟨0, u1.heap.size, 0, Nat.zero_le _, rfl, rfl, own_zero u1 _, alloc_below _ _⟩
        case round =>
          obtain ⟨i, g2, c2, hi, rfl, rfl, hown, hbw2⟩ := hrel
          have HOWN := Lib.hid hown
          have HBW3 := Lib.hid hbw2
          clear hown hbw2
          by_cases hlt2 : i < n
          · have hii : (i : Int) < (n : Int) := by omega
            obtain ⟨b1, o1, rfl, hb1, hc1⟩ := HV.out (by rw [u8s_length, HDL.out]; omega)
            obtain ⟨b2, o2, rfl, hb2, hc2⟩ := HR.out (by rw [u8s_length, HWL.out]; omega)
            have k1 : wr.cell? ⟨b1, o1 + i, none⟩ = some (.int .u8 (sq D i : Int)) := (HBW3.out.cell (p := ⟨b1, o1 + i, none⟩) hb1).trans (u8s_sq hc1 i (by rw [HDL.out]; exact hlt2))
            have k2 : wr.cell? ⟨b2, o2 + i, none⟩ = some (.int .u8 (sq W i : Int)) := ((B1.out.next HBW3.out).cell (p := ⟨b2, o2 + i, none⟩) hb2).trans (u8s_sq hc2 i (by rw [HWL.out]; exact hlt2))
            have HAT := Lib.hid (atF_succ (SolMath.er W D) i)
            have hle2 := atF_le (SolMath.er W D) i
            by_cases heq : sq D i = sq W i
            · have hz : SolMath.er W D i = 0 := by unfold SolMath.er; rw [heq, Nat.xor_self]
              rw [if_pos hz, List.append_nil] at HAT
              have e5 : ((sq D i : Int) == (sq W i : Int)) = true := by simp [heq]
              clear hz hc1 hc2 hb1 hb2 heq
              generalize sq D i = y1 at *
              generalize sq W i = y2 at *
              go_wp2
              go_quiet (fail)
              go_wp2
              go_roundw
              case rel => exact ⟨i + 1, g2, c2, by omega, by go_num, by rw [HAT.out], by rw [HAT.out]; exact own_below HOWN.out ((Below.refl _ _).drewN nq), HBW3.out.drewN nq⟩
              case measure => simp [intOf]; omega
            · have hz : ¬ SolMath.er W D i = 0 := by unfold SolMath.er; exact fun h => heq (xor_zero_iff.1 h)
              rw [if_neg hz] at HAT
              have e5 : ((sq D i : Int) == (sq W i : Int)) = false := by
                cases h : ((sq D i : Int) == (sq W i : Int)) with
                | false => rfl
                | true => exact absurd (by have := eq_of_beq h; omega) heq
              clear hz hc1 hc2 hb1 hb2 heq
              generalize sq D i = y1 at *
              generalize sq W i = y2 at *
              go_wp2
              go_quiet (fail)
              have HO9 := Lib.hid (own_below HOWN.out ((Below.refl _ _).drewN nq))
              have HB9 := Lib.hid (HBW3.out.drewN nq)
              generalize wr.drewN nq = wq at *
              have HOW2 := Lib.hid (own_below HO9.out (alloc_below wq (.cells #[.int .i64 (i : Int)] 3)))
              have HL2 : Hid (Lies (wq.alloc (.cells #[.int .i64 (i : Int)] 3)) (wq.alloc (.cells #[.int .i64 (i : Int)] 3)).heap.size (some ⟨wq.heap.size, 0, none⟩) [.int .i64 (i : Int)]) := Lib.hid (Lies.new [_] _ _)
              have HBW2 := Lib.hid (HB9.out.next (alloc_below wq (.cells #[.int .i64 (i : Int)] 3)))
              have HZ2 := Lib.hid HBW2.out.size
              have HO1 : Hid ((Value.int .i64 (i : Int)).oneCell' = true) := Lib.hid rfl
              have HSN : Hid (nats (atF (SolMath.er W D) i) ++ [.int .i64 (i : Int)] = nats (atF (SolMath.er W D) (i + 1))) := Lib.hid (by rw [HAT.out, nats_snoc])
              have HLN : Hid ((atF (SolMath.er W D) i).length + 1 = (atF (SolMath.er W D) (i + 1)).length) := Lib.hid (by rw [HAT.out, List.length_append]; rfl)
              obtain ⟨P, hP⟩ : ∃ P, atF (SolMath.er W D) i = P := ⟨_, rfl⟩
              obtain ⟨P2, hP2⟩ : ∃ P, atF (SolMath.er W D) (i + 1) = P := ⟨_, rfl⟩
              rw [hP] at HOW2 HSN HLN hle2 ⊢
              rw [hP2] at HSN HLN
              have HP2 := Lib.hid hP2
              have HBG : Big (P.length + 1 ≤ 1099511627776) := ⟨by have := HP255.out; omega⟩
              clear HAT HO9 HOWN hP hP2
              go_wp2_with ((with_reducible refine wpAppend1K HOW2.out Try.underlying23 one_int HL2.out HO1.out HBG HZ2.out ?_ ?_); rfl; intro v3 w3 g1 g2 g3; rw [HSN.out, HLN.out] at g1; obtain ⟨g9, c9, ys, rfl, _, _, _⟩ := own_some g1 (by rw [← HLN.out]; exact Nat.succ_pos _); have G1 := Lib.hid g1; have BW3 := Lib.hid (HBW2.out.grown g2 HZ2.out (fun j hj => (HOW2.out.lt j hj).1)); clear g1 g2 g3)
              go_roundw
              case rel => exact ⟨i + 1, g9, c9, by omega, by go_num, by rw [HP2.out], by rw [HP2.out]; exact G1.out, BW3.out⟩
              case measure => simp [intOf]; omega
          · have ei : i = n := by omega
            have hii : ¬ (i : Int) < (n : Int) := by omega
            rw [ei] at HOWN
            obtain ⟨a9, c9, e9, h9, l9⟩ := own_form2 HOWN.out
            cases e9
            have HIR : Hid (IReads wr (.slice (some ⟨g2, 0, none⟩) (atF (SolMath.er W D) n).length c2) (atF (SolMath.er W D) n)) := Lib.hid ⟨_, _, rfl, h9, l9⟩
            have HVR : Hid (Rd D (.slice va n vc) wr) := Lib.hid ⟨va, vc, by rw [HDL.out], HVC.out, HV.out.step HBW3.out⟩
            have HB9 := Lib.hid (B1.out.next HBW3.out)
            rw [ei]
            clear h9 l9 HOWN
            go_wp2
            go_ret3
            rw [HF.out]
            exact ⟨⟨_, _, rfl, HVR.out, HIR.out⟩, HB9.out⟩
end Go.Proofs.Ytpoojlealcheaaa
