/- The contract of solve's euclid (gen_sol_euclid.py). -/
import Derived.Test.YtkcnmiaedcenoaaSolE
import Derived.Test.YtkcnmiaedcenoaaSolMath9
import Derived.Test.YtkcnmiaedcenoaaB3
namespace SolMath
open GfMath PolyMath RsMath
/-- How long the rests and the rules may be. -/
structure ELn (T : List Nat) (p q : Nat) (s : EU) : Prop where
  by_ : EBy s
  la : s.a.length ≤ p + 1
  lb : s.b.length ≤ p + 1
  lu : s.u.length ≤ p + 2
  lv : s.v.length ≤ p + 2
  inv : q ≤ p → EInv T p q s
theorem ELn.start {p q : Nat} {T : List Nat} (hT : By T) (hTl : T.length ≤ p) : ELn T p q (euS p T) :=
  ⟨EBy.start hT, by show (shl [1] p).length ≤ p + 1; rw [shl_one]; simp, by show T.length ≤ p + 1; omega, by show 0 ≤ p + 2; omega, by show 1 ≤ p + 2; omega, fun hq => EInv.start hT hTl hq⟩
theorem ELn.step {p q : Nat} {T : List Nat} (hT : By T) {s : EU} (h : ELn T p q s) (hg : euGo p q s) : ELn T p q (euStep s) ∧ 0 < (beh s.b).length ∧ (dr s.a s.b).length < (beh s.b).length ∧ (dq s.a s.b).length ≤ p + 1 := by
  have hg' : p + q + 2 ≤ 2 * (beh s.b).length := hg
  have hbl := beh_le s.b
  have hal := beh_le s.a
  have h1 := h.lb
  have h2 := h.la
  have hq : q ≤ p := by omega
  have hI := (h.inv hq).step hT hg
  have h0 : 0 < (beh s.b).length := by omega
  obtain ⟨d1, d2, d3, d4, d5, d6, d7⟩ := div_spec h.by_.a8 h.by_.b8 h0
  refine ⟨⟨h.by_.step hg, h.lb, ?_, h.lv, ?_, fun _ => hI⟩, h0, d5, by omega⟩
  · show (dr s.a s.b).length ≤ p + 1
    omega
  · have := hI.lv
    omega
/-- The steps that are left. -/
def EAt (p q : Nat) (R : List Nat) (s : EU) : Prop := ∃ f, (eu p q f s).v = R ∧ (beh s.b).length < f
theorem EAt.start {p q : Nat} {T : List Nat} (hTl : T.length ≤ p) : EAt p q (euclidF p T q) (euS p T) := ⟨p + 1, rfl, by
  have := beh_le T
  show (beh T).length < p + 1
  omega⟩
theorem EAt.step {p q : Nat} {R : List Nat} {s : EU} (h : EAt p q R s) (hg : euGo p q s) (hd : (beh (euStep s).b).length < (beh s.b).length) : EAt p q R (euStep s) := by
  obtain ⟨f, h1, h2⟩ := h
  cases f with
  | zero => omega
  | succ f =>
    unfold eu at h1
    rw [if_pos hg] at h1
    exact ⟨f, h1, by omega⟩
theorem EAt.stop {p q : Nat} {R : List Nat} {s : EU} (h : EAt p q R s) (hg : ¬ euGo p q s) : s.v = R := by
  obtain ⟨f, h1, h2⟩ := h
  cases f with
  | zero => omega
  | succ f =>
    unfold eu at h1
    rwa [if_neg hg] at h1
theorem euclidF_ok {T : List Nat} (hT : By T) {p : Nat} (hTl : T.length ≤ p) (lost : Nat) (hp : p ≤ 64) : By (euclidF p T lost) ∧ (euclidF p T lost).length ≤ 300 := by
  refine ⟨euclidF_by hT, ?_⟩
  have hgo : ∀ (f : Nat) {s : EU}, ELn T p lost s → (eu p lost f s).v.length ≤ p + 2 := fun f => by
    induction f with
    | zero => exact fun h => h.lv
    | succ f ih =>
      intro s h
      unfold eu
      split
      · exact ih (h.step hT (by assumption)).1
      · exact h.lv
  have := hgo (p + 1) (ELn.start (q := lost) hT hTl)
  unfold euclidF
  omega
end SolMath
namespace Go.Proofs.Ytkcnmiaedcenoaa
open Go.RowKit GfMath PolyMath RsMath SolMath
set_option linter.unusedVariables false
set_option linter.unusedSimpArgs false
set_option maxRecDepth 100000

/-- Rests and rules in memory. -/
structure Emr (w : World) (a b u v : Value) (st : EU) : Prop where
  a : Reads w a st.a
  b : Reads w b st.b
  u : Reads w u st.u
  v : Reads w v st.v
def lenOf (v : Value) : Nat := match v with | .slice _ n _ => n | _ => 0
theorem Reads.lenOf {w : World} {v : Value} {l : List Nat} (h : Reads w v l) : lenOf v = l.length := by
  obtain ⟨a, c, rfl, _⟩ := h
  rfl
theorem degreeV (v : Value) (l : List Nat) (w : World) (h : Rd l v w) (hl : l.length ≤ 5000) :
    Calls Try.prog 39 #[v] w fun e w' => e = .returned (.int .i64 (((beh l).length : Int) - 1)) ∧ Below w.heap.size w w' := by
  obtain ⟨a, c, rfl, h0, h⟩ := h
  exact (degree_any a c l w (by omega) h0 h).mono fun e w' ⟨h1, h2⟩ => ⟨h1, h2 ▸ Below.refl _ _⟩
theorem divmodV (b : Nat) (v1 v2 : Value) (X Y : List Nat) (w : World) (hf : Fld w b) (h1 : Rd X v1 w) (h2 : Rd Y v2 w) (hX : By X) (hY : By Y) (hlx : X.length ≤ 5000) (hly : Y.length ≤ 5000) (h0 : 0 < (beh Y).length) :
    Calls Try.prog 40 #[.pointer (some ⟨b, 0, none⟩), v1, v2] w fun e w' => (∃ v v2, e = .returned (.tuple #[v, v2, .bool true]) ∧ Reads w' v (dq X Y) ∧ Reads w' v2 (dr X Y)) ∧ Below w.heap.size w w' := by
  obtain ⟨a, c, rfl, g1, g2⟩ := h1
  obtain ⟨a', c', rfl, g3, g4⟩ := h2
  exact divmod_any b a a' c c' X Y w hf hX hY (by omega) (by omega) g1 g3 h0 g2 g4

set_option maxHeartbeats 2000000 in
theorem euclid_any (s b n p g lost : Nat) (G : List Bool) (V E T : Value) (TL : List Nat) (w : World) (h : Sol w s b n p g G lost V E T) (hT : Reads w T TL) (hT8 : By TL) (hTl : TL.length ≤ p) (hp : p ≤ 64) (hlo : lost ≤ 255) :
    Calls Try.prog 18 #[.pointer (some ⟨s, 0, none⟩)] w fun e w' => (∃ v, e = .returned v ∧ Reads w' v (euclidF p TL lost)) ∧ Below w.heap.size w w' := by
  have HS0 := Lib.hid h
  have HT0 := Lib.hid hT
  have HT8 := Lib.hid hT8
  have hpb : (p : Int) ≤ 64 := by omega
  have hlb : (lost : Int) ≤ 255 := by omega
  have HLT : Hid (s < w.heap.size) := Lib.hid h.lt
  have C2 := Lib.hid h.c2
  have C7 := Lib.hid h.c7
  have HA0 : Hid (∀ wx, Below w.heap.size w wx → ∀ v, Rd [1] v wx → Calls Try.prog 38 #[v, .int .i64 (p : Int)] wx fun e w' => (∃ v, e = .returned v ∧ Reads w' v (shl [1] p)) ∧ Below wx.heap.size wx w') := Lib.hid fun wx hb v hv => by
    have := shiftV v [1] (p : Int) wx hv (by simp)
    rwa [shn_nat p (by omega)] at this
  have HAT := Lib.hid (EAt.start (q := lost) hTl)
  have HLN := Lib.hid (ELn.start (q := lost) hT8 hTl)
  have HST : Hid ((euS p TL).a = shl [1] p ∧ (euS p TL).b = TL ∧ (euS p TL).u = [] ∧ (euS p TL).v = [1]) := Lib.hid ⟨rfl, rfl, rfl, rfl⟩
  obtain ⟨RR, hRR⟩ : ∃ R, euclidF p TL lost = R := ⟨_, rfl⟩
  rw [hRR] at HAT ⊢
  obtain ⟨A0, hA0⟩ : ∃ A, shl [1] p = A := ⟨_, rfl⟩
  rw [hA0] at HA0 HST
  have HP64 : Hid (p ≤ 64) := Lib.hid hp
  clear h hT hT8 hTl hp hlo hRR hA0
  go_enter Try.func18, Try.ntmps18
  go_wp2
  refine region_invX [(0, 10), (1, 11), (2, 12), (3, 13), (4, 14), (5, 15), (6, 16), (7, 17), (8, 18), (9, 19), (10, 3), (11, 4)]
    (fun ii => [Rd [1], Is (.pointer (some ⟨s, 0, none⟩)), Is (.pointer (some ⟨s, 0, none⟩)), Is (.pointer (some ⟨s, 2, none⟩)), Is (.int .i64 (p : Int)), Rd A0, Is (.pointer (some ⟨s, 0, none⟩)), Is (.pointer (some ⟨s, 0, none⟩)), Is (.pointer (some ⟨s, 7, none⟩)), Is T, Rd A0, Is T].getD ii (Is undef))
    (fun w' => Below w.heap.size w w') (by kernel_rfl) (by kernel_rfl) (by decide) (by decide) (by kernel_rfl) rfl ?monoa ((Below.refl _ _).drew) ?stepa ?fina
  case monoa =>
    intro i
    match i with
    | 0 | 5 | 10 => exact Rd.monot _
    | 1 | 2 | 3 | 4 | 6 | 7 | 8 | 9 | 11 => exact Is.monot _
    | _ + 12 => exact Is.monot _
  case stepa =>
    refine List.forall_mem_cons.2 ⟨?as0, List.forall_mem_cons.2 ⟨?as1, List.forall_mem_cons.2 ⟨?as2, List.forall_mem_cons.2 ⟨?as3, List.forall_mem_cons.2 ⟨?as4, List.forall_mem_cons.2 ⟨?as5, List.forall_mem_cons.2 ⟨?as6, List.forall_mem_cons.2 ⟨?as7, List.forall_mem_cons.2 ⟨?as8, List.forall_mem_cons.2 ⟨?as9, List.forall_mem_cons.2 ⟨?as10, List.forall_mem_cons.2 ⟨?as11, List.forall_mem_nil _⟩⟩⟩⟩⟩⟩⟩⟩⟩⟩⟩⟩
    case as0 =>
      intro u wx hg hC
      clear hC
      refine wpOp_step rfl (fun K hK => ?_)
      simp only [puts, List.foldl]
      go_simp
      exact hK _ _ ⟨rfl, ⟨some ⟨wx.heap.size, 0, none⟩, 1, rfl, Nat.le_refl _, Lies.new [_] _ _⟩, hg.alloc hg.size _, alloc_below _ _⟩
    case as1 =>
      intro u wx hg hC
      clear hC
      refine wpOp_step rfl (fun K hK => ?_)
      simp only [puts, List.foldl]
      go_simp
      exact hK _ _ ⟨rfl, rfl, hg, Below.refl _ _⟩
    case as2 =>
      intro u wx hg hC
      have hJ1 : u 1 = (.pointer (some ⟨s, 0, none⟩)) := hC.at 1 (by kernel_rfl)
      clear hC
      refine wpOp_step rfl (fun K hK => ?_)
      simp only [puts, List.foldl]
      go_simp
      exact hK _ _ ⟨rfl, rfl, hg, Below.refl _ _⟩
    case as3 =>
      intro u wx hg hC
      have hJ2 : u 2 = (.pointer (some ⟨s, 0, none⟩)) := hC.at 2 (by kernel_rfl)
      clear hC
      refine wpOp_step rfl (fun K hK => ?_)
      simp only [puts, List.foldl]
      go_simp
      exact hK _ _ ⟨rfl, rfl, hg, Below.refl _ _⟩
    case as4 =>
      intro u wx hg hC
      have hJ3 : u 3 = (.pointer (some ⟨s, 2, none⟩)) := hC.at 3 (by kernel_rfl)
      clear hC
      have hcl : wx.cell? ⟨s, 2, none⟩ = some (.int .i64 (p : Int)) := (hg.cell (p := ⟨s, 2, none⟩) HLT.out).trans C2.out
      refine wpOp_step rfl (fun K hK => ?_)
      simp only [puts, List.foldl]
      go_simp
      exact hK _ _ ⟨rfl, rfl, hg, Below.refl _ _⟩
    case as5 =>
      intro u wx hg hC
      have hJ0 : (Rd [1]) (u 0) wx := hC.at 0 (by kernel_rfl)
      have hJ4 : u 4 = (.int .i64 (p : Int)) := hC.at 4 (by kernel_rfl)
      clear hC
      refine wpOp_step rfl (fun K hK => ?_)
      simp only [puts, List.foldl]
      go_simp
      refine (HA0.out wx hg _ hJ0).mono ?_
      rintro e w' ⟨⟨v, rfl, hv⟩, hb'⟩
      exact hK _ _ ⟨rfl, hv, hg.next hb', hb'⟩
    case as6 =>
      intro u wx hg hC
      clear hC
      refine wpOp_step rfl (fun K hK => ?_)
      simp only [puts, List.foldl]
      go_simp
      exact hK _ _ ⟨rfl, rfl, hg, Below.refl _ _⟩
    case as7 =>
      intro u wx hg hC
      have hJ6 : u 6 = (.pointer (some ⟨s, 0, none⟩)) := hC.at 6 (by kernel_rfl)
      clear hC
      refine wpOp_step rfl (fun K hK => ?_)
      simp only [puts, List.foldl]
      go_simp
      exact hK _ _ ⟨rfl, rfl, hg, Below.refl _ _⟩
    case as8 =>
      intro u wx hg hC
      have hJ7 : u 7 = (.pointer (some ⟨s, 0, none⟩)) := hC.at 7 (by kernel_rfl)
      clear hC
      refine wpOp_step rfl (fun K hK => ?_)
      simp only [puts, List.foldl]
      go_simp
      exact hK _ _ ⟨rfl, rfl, hg, Below.refl _ _⟩
    case as9 =>
      intro u wx hg hC
      have hJ8 : u 8 = (.pointer (some ⟨s, 7, none⟩)) := hC.at 8 (by kernel_rfl)
      clear hC
      have hcl : wx.cell? ⟨s, 7, none⟩ = some T := (hg.cell (p := ⟨s, 7, none⟩) HLT.out).trans C7.out
      refine wpOp_step rfl (fun K hK => ?_)
      simp only [puts, List.foldl]
      go_simp
      exact hK _ _ ⟨rfl, rfl, hg, Below.refl _ _⟩
    case as10 =>
      intro u wx hg hC
      have hJ5 : (Rd A0) (u 5) wx := hC.at 5 (by kernel_rfl)
      clear hC
      refine wpOp_step rfl (fun K hK => ?_)
      simp only [puts, List.foldl]
      go_simp
      exact hK _ _ ⟨rfl, hJ5, hg, Below.refl _ _⟩
    case as11 =>
      intro u wx hg hC
      have hJ9 : u 9 = T := hC.at 9 (by kernel_rfl)
      clear hC
      refine wpOp_step rfl (fun K hK => ?_)
      simp only [puts, List.foldl]
      go_simp
      exact hK _ _ ⟨rfl, rfl, hg, Below.refl _ _⟩
  case fina =>
    intro u w1 hb1 hφ
    have h3 : Rd A0 (u 10) w1 := hφ (10, 3) (by decide)
    have h4 : u 11 = T := hφ (11, 4) (by decide)
    clear hφ
    simp only [puts, List.foldl]
    rw [h4]
    go_simp
    obtain ⟨x3, hx3⟩ : ∃ x, u 10 = x := ⟨_, rfl⟩
    rw [hx3] at h3 ⊢
    have H3 : Hid (Reads w1 x3 A0) := Lib.hid h3
    have B1 := Lib.hid hb1
    clear hb1 h3 h4 hx3
    have hEM : ∀ wz, Below w1.heap.size w1 wz → Emr (wz.alloc (.cells #[.int .u8 1] 5)) x3 T (.slice none 0 0) (.slice (some ⟨wz.heap.size, 0, none⟩) 1 1) (euS p TL) := fun wz hz => ⟨by rw [HST.out.1]; exact (H3.out.step hz).step (alloc_below _ _), by rw [HST.out.2.1]; exact ((HT0.out.step B1.out).step hz).step (alloc_below _ _), by rw [HST.out.2.2.1]; exact Reads.nil _, by rw [HST.out.2.2.2]; exact ⟨_, 1, rfl, Nat.le_refl _, Lies.new [.int .u8 1] _ _⟩⟩
    have HEM := Lib.hid hEM
    clear hEM
    go_wp2
    go_loopw [3, 4, 5, 6] (fun a b' u v wr => ∃ st : EU, EAt p lost RR st ∧ ELn TL p lost st ∧ Emr wr a b' u v st ∧ Below w.heap.size w wr) (fun _ b' _ _ _ => lenOf b')
    case atStart => exact ⟨euS p TL, HAT.out, HLN.out, HEM.out _ (Below.refl _ _), B1.out.next (alloc_below _ _)⟩
    case round =>
      clear HAT HLN HEM H3 B1 HST HA0 HLT C2 C7
      obtain ⟨st, hat, hln, ⟨ha, hb, hu, hv⟩, hbw⟩ := hrel
      have HAT := Lib.hid hat
      have HLN := Lib.hid hln
      have HA := Lib.hid ha
      have HB := Lib.hid hb
      have HU := Lib.hid hu
      have HV := Lib.hid hv
      have HBW := Lib.hid hbw
      have HSOL := Lib.hid (HS0.out.step hbw)
      have HLT : Hid (s < wr.heap.size) := Lib.hid HSOL.out.lt
      have C0 := Lib.hid HSOL.out.c0
      have C2 := Lib.hid HSOL.out.c2
      have C4 := Lib.hid HSOL.out.c4
      have hbl := beh_le st.b
      have hlb2 := hln.lb
      have hp64 := HP64.out
      have HDG : Hid (∀ wx, Below wr.heap.size wr wx → Calls Try.prog 39 #[u4] wx fun e w' => e = .returned (.int .i64 (((beh st.b).length : Int) - 1)) ∧ Below wx.heap.size wx w') := Lib.hid fun wx hx => degreeV _ _ wx (hb.step hx) (by omega)
      obtain ⟨m, hm⟩ : ∃ m, (beh st.b).length = m := ⟨_, rfl⟩
      rw [hm] at HDG hbl
      have HMM := Lib.hid hm
      have hmb : (m : Int) ≤ 65 := by omega
      have w1 : IntKind.i64.wrap (2 * ((m : Int) - 1)) = 2 * ((m : Int) - 1) := by rw [IntKind.wrap_i64]; omega
      have w2 : IntKind.i64.wrap ((p : Int) + (lost : Int)) = (p : Int) + (lost : Int) := by rw [IntKind.wrap_i64]; omega
      clear hat hln ha hb hu hv hbw hm hlb2 hbl
      by_cases hgo : p + lost + 2 ≤ 2 * m
      · have hge : decide ((p : Int) + (lost : Int) ≤ 2 * ((m : Int) - 1)) = true := decide_eq_true (by omega)
        have HGO : Hid (euGo p lost st) := Lib.hid (by unfold euGo; rw [HMM.out]; exact hgo)
        obtain ⟨hl2, h0, hd5, hql⟩ := HLN.out.step HT8.out HGO.out
        have HL2 := Lib.hid hl2
        have hby := HLN.out.by_
        have hla := HLN.out.la
        have hlb3 := HLN.out.lb
        have hlu := HLN.out.lu
        have hlv := HLN.out.lv
        obtain ⟨q8, q9, r8, r9, _⟩ := div_spec hby.a8 hby.b8 h0
        have HAT2 : Hid (EAt p lost RR (euStep st)) := Lib.hid (HAT.out.step HGO.out (by show (beh (dr st.a st.b)).length < _; rw [r9.beh]; exact hd5))
        have HDM : Hid (∀ wx, Below wr.heap.size wr wx → Calls Try.prog 40 #[.pointer (some ⟨b, 0, none⟩), u3, u4] wx fun e w' => (∃ v v2, e = .returned (.tuple #[v, v2, .bool true]) ∧ Reads w' v (dq st.a st.b) ∧ Reads w' v2 (dr st.a st.b)) ∧ Below wx.heap.size wx w') := Lib.hid fun wx hx => divmodV b _ _ _ _ wx (HSOL.out.fld.step hx) (HA.out.step hx) (HB.out.step hx) hby.a8 hby.b8 (by omega) (by omega) h0
        have HSTA : Hid ((euStep st).a = st.b ∧ (euStep st).b = dr st.a st.b ∧ (euStep st).u = st.v ∧ (euStep st).v = addl [st.u, pms [dq st.a st.b, st.v]]) := Lib.hid ⟨rfl, rfl, rfl, rfl⟩
        have HMEA : Hid ((dr st.a st.b).length < st.b.length) := Lib.hid (Nat.lt_of_lt_of_le hd5 (beh_le _))
        obtain ⟨Q, hQ⟩ : ∃ Q, dq st.a st.b = Q := ⟨_, rfl⟩
        obtain ⟨DR, hDR⟩ : ∃ D, dr st.a st.b = D := ⟨_, rfl⟩
        rw [hQ] at HDM HSTA q8 hql
        rw [hDR] at HDM HSTA HMEA
        have HM8 : Hid (By (pms [Q, st.v])) := Lib.hid (pms_two_by q8 hby.v8)
        have hMl := pms_two_le Q st.v
        have HPM : Hid (∀ wx, Below wr.heap.size wr wx → ∀ v, Pls [Q, st.v] v wx → Calls Try.prog 37 #[.pointer (some ⟨b, 0, none⟩), v] wx fun e w' => (∃ v, e = .returned v ∧ Reads w' v (pms [Q, st.v])) ∧ Below wx.heap.size wx w') := Lib.hid fun wx hb v hv => pmulV b v _ wx (HSOL.out.fld.step hb) hv (by simp) (by intro l hl; simp only [List.mem_cons, List.not_mem_nil, or_false] at hl; rcases hl with rfl | rfl <;> omega)
        obtain ⟨Mm, hMm⟩ : ∃ Mm, pms [Q, st.v] = Mm := ⟨_, rfl⟩
        rw [hMm] at HPM HM8 hMl HSTA
        have HPA : Hid (∀ wx, Below wr.heap.size wr wx → ∀ v, Pls [st.u, Mm] v wx → Calls Try.prog 36 #[.pointer (some ⟨b, 0, none⟩), v] wx fun e w' => (∃ v, e = .returned v ∧ Reads w' v (addl [st.u, Mm])) ∧ Below wx.heap.size wx w') := Lib.hid fun wx hb v hv => paddV b v _ wx hv (by simp) (by intro l hl; simp only [List.mem_cons, List.not_mem_nil, or_false] at hl; rcases hl with rfl | rfl <;> omega)
        obtain ⟨Nn, hNn⟩ : ∃ Nn, addl [st.u, Mm] = Nn := ⟨_, rfl⟩
        rw [hNn] at HPA HSTA
        have HQ8 := Lib.hid q8
        have HV8 := Lib.hid hby.v8
        have HU8 := Lib.hid hby.u8
        clear hgo hl2 h0 hd5 hql hby hla hlb3 hlu hlv q8 q9 r8 r9 hQ hDR hMl hMm hNn HMM HGO HAT HLN
        go_wp2
        refine region_invX [(0, 21), (1, 22), (2, 23), (3, 24), (4, 25), (5, 26), (6, 27), (7, 28), (8, 29), (9, 30), (10, 31), (11, 32), (12, 33)]
          (fun ii => [Is u4, Is (.int .i64 ((m : Int) - 1)), Is (.int .i64 (2 * ((m : Int) - 1))), Is (.pointer (some ⟨s, 0, none⟩)), Is (.pointer (some ⟨s, 0, none⟩)), Is (.pointer (some ⟨s, 2, none⟩)), Is (.int .i64 (p : Int)), Is (.pointer (some ⟨s, 0, none⟩)), Is (.pointer (some ⟨s, 0, none⟩)), Is (.pointer (some ⟨s, 4, none⟩)), Is (.int .i64 (lost : Int)), Is (.int .i64 ((p : Int) + (lost : Int))), Is (.bool true)].getD ii (Is undef))
          (fun w' => Below wr.heap.size wr w') (by kernel_rfl) (by kernel_rfl) (by decide) (by decide) (by kernel_rfl) rfl ?monot ((Below.refl _ _).drew) ?stept ?fint
        case monot =>
          intro i
          match i with
          | 0 | 1 | 2 | 3 | 4 | 5 | 6 | 7 | 8 | 9 | 10 | 11 | 12 => exact Is.monot _
          | _ + 13 => exact Is.monot _
        case stept =>
          refine List.forall_mem_cons.2 ⟨?ts0, List.forall_mem_cons.2 ⟨?ts1, List.forall_mem_cons.2 ⟨?ts2, List.forall_mem_cons.2 ⟨?ts3, List.forall_mem_cons.2 ⟨?ts4, List.forall_mem_cons.2 ⟨?ts5, List.forall_mem_cons.2 ⟨?ts6, List.forall_mem_cons.2 ⟨?ts7, List.forall_mem_cons.2 ⟨?ts8, List.forall_mem_cons.2 ⟨?ts9, List.forall_mem_cons.2 ⟨?ts10, List.forall_mem_cons.2 ⟨?ts11, List.forall_mem_cons.2 ⟨?ts12, List.forall_mem_nil _⟩⟩⟩⟩⟩⟩⟩⟩⟩⟩⟩⟩⟩
          case ts0 =>
            intro u wx hg hC
            clear hC
            refine wpOp_step rfl (fun K hK => ?_)
            simp only [puts, List.foldl]
            go_simp
            exact hK _ _ ⟨rfl, rfl, hg, Below.refl _ _⟩
          case ts1 =>
            intro u wx hg hC
            have hJ0 : u 0 = u4 := hC.at 0 (by kernel_rfl)
            clear hC
            refine wpOp_step rfl (fun K hK => ?_)
            simp only [puts, List.foldl]
            go_simp
            refine (HDG.out wx hg).mono ?_
            rintro e w' ⟨rfl, hb'⟩
            exact hK _ _ ⟨rfl, rfl, hg.next hb', hb'⟩
          case ts2 =>
            intro u wx hg hC
            have hJ1 : u 1 = (.int .i64 ((m : Int) - 1)) := hC.at 1 (by kernel_rfl)
            clear hC
            refine wpOp_step rfl (fun K hK => ?_)
            simp only [puts, List.foldl]
            go_simp
            exact hK _ _ ⟨rfl, rfl, hg, Below.refl _ _⟩
          case ts3 =>
            intro u wx hg hC
            clear hC
            refine wpOp_step rfl (fun K hK => ?_)
            simp only [puts, List.foldl]
            go_simp
            exact hK _ _ ⟨rfl, rfl, hg, Below.refl _ _⟩
          case ts4 =>
            intro u wx hg hC
            have hJ3 : u 3 = (.pointer (some ⟨s, 0, none⟩)) := hC.at 3 (by kernel_rfl)
            clear hC
            refine wpOp_step rfl (fun K hK => ?_)
            simp only [puts, List.foldl]
            go_simp
            exact hK _ _ ⟨rfl, rfl, hg, Below.refl _ _⟩
          case ts5 =>
            intro u wx hg hC
            have hJ4 : u 4 = (.pointer (some ⟨s, 0, none⟩)) := hC.at 4 (by kernel_rfl)
            clear hC
            refine wpOp_step rfl (fun K hK => ?_)
            simp only [puts, List.foldl]
            go_simp
            exact hK _ _ ⟨rfl, rfl, hg, Below.refl _ _⟩
          case ts6 =>
            intro u wx hg hC
            have hJ5 : u 5 = (.pointer (some ⟨s, 2, none⟩)) := hC.at 5 (by kernel_rfl)
            clear hC
            have hcl : wx.cell? ⟨s, 2, none⟩ = some (.int .i64 (p : Int)) := (hg.cell (p := ⟨s, 2, none⟩) HLT.out).trans C2.out
            refine wpOp_step rfl (fun K hK => ?_)
            simp only [puts, List.foldl]
            go_simp
            exact hK _ _ ⟨rfl, rfl, hg, Below.refl _ _⟩
          case ts7 =>
            intro u wx hg hC
            clear hC
            refine wpOp_step rfl (fun K hK => ?_)
            simp only [puts, List.foldl]
            go_simp
            exact hK _ _ ⟨rfl, rfl, hg, Below.refl _ _⟩
          case ts8 =>
            intro u wx hg hC
            have hJ7 : u 7 = (.pointer (some ⟨s, 0, none⟩)) := hC.at 7 (by kernel_rfl)
            clear hC
            refine wpOp_step rfl (fun K hK => ?_)
            simp only [puts, List.foldl]
            go_simp
            exact hK _ _ ⟨rfl, rfl, hg, Below.refl _ _⟩
          case ts9 =>
            intro u wx hg hC
            have hJ8 : u 8 = (.pointer (some ⟨s, 0, none⟩)) := hC.at 8 (by kernel_rfl)
            clear hC
            refine wpOp_step rfl (fun K hK => ?_)
            simp only [puts, List.foldl]
            go_simp
            exact hK _ _ ⟨rfl, rfl, hg, Below.refl _ _⟩
          case ts10 =>
            intro u wx hg hC
            have hJ9 : u 9 = (.pointer (some ⟨s, 4, none⟩)) := hC.at 9 (by kernel_rfl)
            clear hC
            have hcl : wx.cell? ⟨s, 4, none⟩ = some (.int .i64 (lost : Int)) := (hg.cell (p := ⟨s, 4, none⟩) HLT.out).trans C4.out
            refine wpOp_step rfl (fun K hK => ?_)
            simp only [puts, List.foldl]
            go_simp
            exact hK _ _ ⟨rfl, rfl, hg, Below.refl _ _⟩
          case ts11 =>
            intro u wx hg hC
            have hJ6 : u 6 = (.int .i64 (p : Int)) := hC.at 6 (by kernel_rfl)
            have hJ10 : u 10 = (.int .i64 (lost : Int)) := hC.at 10 (by kernel_rfl)
            clear hC
            refine wpOp_step rfl (fun K hK => ?_)
            simp only [puts, List.foldl]
            go_simp
            exact hK _ _ ⟨rfl, rfl, hg, Below.refl _ _⟩
          case ts12 =>
            intro u wx hg hC
            have hJ2 : u 2 = (.int .i64 (2 * ((m : Int) - 1))) := hC.at 2 (by kernel_rfl)
            have hJ11 : u 11 = (.int .i64 ((p : Int) + (lost : Int))) := hC.at 11 (by kernel_rfl)
            clear hC
            refine wpOp_step rfl (fun K hK => ?_)
            simp only [puts, List.foldl]
            go_simp
            exact hK _ _ ⟨rfl, rfl, hg, Below.refl _ _⟩
        case fint =>
          intro u w2 hb2 hφ
          have e33 : u 12 = .bool true := hφ (12, 33) (by decide)
          clear hφ
          simp only [puts, List.foldl]
          rw [e33]
          go_simp
          have B2 := Lib.hid hb2
          have c02 := (HSOL.out.step hb2).c0
          clear hb2 e33
          go_wp2_with (go_at_call 40; (with_reducible refine (HDM.out w2 B2.out).mono ?_); rintro e w3 ⟨⟨qv, rv, rfl, hq, hr⟩, b3⟩; have RQ3 := Lib.hid hq; have RR3 := Lib.hid hr; have B3 := Lib.hid (B2.out.next b3); clear b3 hq hr c02)
          have HLT3 : Hid (s < w3.heap.size) := Lib.hid (HSOL.out.step B3.out).lt
          have C03 : Hid (w3.cell? ⟨s, 0, none⟩ = some (.pointer (some ⟨b, 0, none⟩))) := Lib.hid (HSOL.out.step B3.out).c0
          have HV3 := Lib.hid (HV.out.step B3.out)
          have HU3 := Lib.hid (HU.out.step B3.out)
          refine region_invY [(0, 45), (1, 46), (2, 47), (3, 48), (4, 49), (5, 50), (6, 51), (7, 52), (8, 53), (9, 54), (10, 55), (11, 56), (12, 57), (13, 58), (14, 59), (15, 60), (16, 5), (17, 6)]
            (fun ii => [Rd st.v, Is (.pointer (some ⟨s, 0, none⟩)), Is (.pointer (some ⟨s, 0, none⟩)), Is (.pointer (some ⟨s, 0, none⟩)), Is (.pointer (some ⟨b, 0, none⟩)), Rd st.u, Is (.pointer (some ⟨s, 0, none⟩)), Is (.pointer (some ⟨s, 0, none⟩)), Is (.pointer (some ⟨s, 0, none⟩)), Is (.pointer (some ⟨b, 0, none⟩)), Rd Q, Rd st.v, Pls [Q, st.v], Rd Mm, Pls [st.u, Mm], Rd Nn, Rd st.v, Rd Nn].getD ii (Is undef))
            (fun w' => Below w3.heap.size w3 w') (by kernel_rfl) (by kernel_rfl) (by decide) (by decide) (by kernel_rfl) rfl ?monon ((Below.refl _ _).drew) ?stepn ?finn
          case monon =>
            intro i
            match i with
            | 0 | 5 | 10 | 11 | 13 | 15 | 16 | 17 => exact Rd.monot _
            | 1 | 2 | 3 | 4 | 6 | 7 | 8 | 9 => exact Is.monot _
            | 12 | 14 => exact Pls.monot _
            | _ + 18 => exact Is.monot _
          case stepn =>
            refine List.forall_mem_cons.2 ⟨?ns0, List.forall_mem_cons.2 ⟨?ns1, List.forall_mem_cons.2 ⟨?ns2, List.forall_mem_cons.2 ⟨?ns3, List.forall_mem_cons.2 ⟨?ns4, List.forall_mem_cons.2 ⟨?ns5, List.forall_mem_cons.2 ⟨?ns6, List.forall_mem_cons.2 ⟨?ns7, List.forall_mem_cons.2 ⟨?ns8, List.forall_mem_cons.2 ⟨?ns9, List.forall_mem_cons.2 ⟨?ns10, List.forall_mem_cons.2 ⟨?ns11, List.forall_mem_cons.2 ⟨?ns12, List.forall_mem_cons.2 ⟨?ns13, List.forall_mem_cons.2 ⟨?ns14, List.forall_mem_cons.2 ⟨?ns15, List.forall_mem_cons.2 ⟨?ns16, List.forall_mem_cons.2 ⟨?ns17, List.forall_mem_nil _⟩⟩⟩⟩⟩⟩⟩⟩⟩⟩⟩⟩⟩⟩⟩⟩⟩⟩
            case ns0 =>
              intro u wx hg hC hOld
              have hO17 : u 17 = u6 := hOld (17, 6) (by decide) (by kernel_rfl)
              clear hC hOld
              refine wpOp_step rfl (fun K hK => ?_)
              simp only [puts, List.foldl]
              go_simp
              exact hK _ _ ⟨rfl, HV3.out.step hg, hg, Below.refl _ _⟩
            case ns1 =>
              intro u wx hg hC hOld
              clear hC hOld
              refine wpOp_step rfl (fun K hK => ?_)
              simp only [puts, List.foldl]
              go_simp
              exact hK _ _ ⟨rfl, rfl, hg, Below.refl _ _⟩
            case ns2 =>
              intro u wx hg hC hOld
              have hJ1 : u 1 = (.pointer (some ⟨s, 0, none⟩)) := hC.at 1 (by kernel_rfl)
              clear hC hOld
              refine wpOp_step rfl (fun K hK => ?_)
              simp only [puts, List.foldl]
              go_simp
              exact hK _ _ ⟨rfl, rfl, hg, Below.refl _ _⟩
            case ns3 =>
              intro u wx hg hC hOld
              have hJ2 : u 2 = (.pointer (some ⟨s, 0, none⟩)) := hC.at 2 (by kernel_rfl)
              clear hC hOld
              refine wpOp_step rfl (fun K hK => ?_)
              simp only [puts, List.foldl]
              go_simp
              exact hK _ _ ⟨rfl, rfl, hg, Below.refl _ _⟩
            case ns4 =>
              intro u wx hg hC hOld
              have hJ3 : u 3 = (.pointer (some ⟨s, 0, none⟩)) := hC.at 3 (by kernel_rfl)
              clear hC hOld
              have hcl : wx.cell? ⟨s, 0, none⟩ = some (.pointer (some ⟨b, 0, none⟩)) := (hg.cell (p := ⟨s, 0, none⟩) HLT3.out).trans C03.out
              refine wpOp_step rfl (fun K hK => ?_)
              simp only [puts, List.foldl]
              go_simp
              exact hK _ _ ⟨rfl, rfl, hg, Below.refl _ _⟩
            case ns5 =>
              intro u wx hg hC hOld
              have hO16 : u 16 = u5 := hOld (16, 5) (by decide) (by kernel_rfl)
              clear hC hOld
              refine wpOp_step rfl (fun K hK => ?_)
              simp only [puts, List.foldl]
              go_simp
              exact hK _ _ ⟨rfl, HU3.out.step hg, hg, Below.refl _ _⟩
            case ns6 =>
              intro u wx hg hC hOld
              clear hC hOld
              refine wpOp_step rfl (fun K hK => ?_)
              simp only [puts, List.foldl]
              go_simp
              exact hK _ _ ⟨rfl, rfl, hg, Below.refl _ _⟩
            case ns7 =>
              intro u wx hg hC hOld
              have hJ6 : u 6 = (.pointer (some ⟨s, 0, none⟩)) := hC.at 6 (by kernel_rfl)
              clear hC hOld
              refine wpOp_step rfl (fun K hK => ?_)
              simp only [puts, List.foldl]
              go_simp
              exact hK _ _ ⟨rfl, rfl, hg, Below.refl _ _⟩
            case ns8 =>
              intro u wx hg hC hOld
              have hJ7 : u 7 = (.pointer (some ⟨s, 0, none⟩)) := hC.at 7 (by kernel_rfl)
              clear hC hOld
              refine wpOp_step rfl (fun K hK => ?_)
              simp only [puts, List.foldl]
              go_simp
              exact hK _ _ ⟨rfl, rfl, hg, Below.refl _ _⟩
            case ns9 =>
              intro u wx hg hC hOld
              have hJ8 : u 8 = (.pointer (some ⟨s, 0, none⟩)) := hC.at 8 (by kernel_rfl)
              clear hC hOld
              have hcl : wx.cell? ⟨s, 0, none⟩ = some (.pointer (some ⟨b, 0, none⟩)) := (hg.cell (p := ⟨s, 0, none⟩) HLT3.out).trans C03.out
              refine wpOp_step rfl (fun K hK => ?_)
              simp only [puts, List.foldl]
              go_simp
              exact hK _ _ ⟨rfl, rfl, hg, Below.refl _ _⟩
            case ns10 =>
              intro u wx hg hC hOld
              clear hC hOld
              refine wpOp_step rfl (fun K hK => ?_)
              simp only [puts, List.foldl]
              go_simp
              exact hK _ _ ⟨rfl, RQ3.out.step hg, hg, Below.refl _ _⟩
            case ns11 =>
              intro u wx hg hC hOld
              have hO17 : u 17 = u6 := hOld (17, 6) (by decide) (by kernel_rfl)
              clear hC hOld
              refine wpOp_step rfl (fun K hK => ?_)
              simp only [puts, List.foldl]
              go_simp
              exact hK _ _ ⟨rfl, HV3.out.step hg, hg, Below.refl _ _⟩
            case ns12 =>
              intro u wx hg hC hOld
              obtain ⟨a10, c10, e10, q10⟩ : (Rd Q) (u 10) wx := hC.at 10 (by kernel_rfl)
              have hJ10 : Rd (Q) (.slice a10 (Q).length c10) wx := ⟨_, _, rfl, q10⟩
              obtain ⟨a11, c11, e11, q11⟩ : (Rd st.v) (u 11) wx := hC.at 11 (by kernel_rfl)
              have hJ11 : Rd (st.v) (.slice a11 (st.v).length c11) wx := ⟨_, _, rfl, q11⟩
              clear hC hOld
              refine wpOp_step rfl (fun K hK => ?_)
              simp only [puts, List.foldl]
              go_simp
              refine hK _ _ ⟨rfl, ?_, hg.alloc hg.size _, alloc_below _ _⟩
              change Pls [Q, st.v] _ _
              exact pls_two (HQ8.out) (HV8.out) (hJ10) (hJ11)
            case ns13 =>
              intro u wx hg hC hOld
              have hJ9 : u 9 = (.pointer (some ⟨b, 0, none⟩)) := hC.at 9 (by kernel_rfl)
              have hJ12 : (Pls [Q, st.v]) (u 12) wx := hC.at 12 (by kernel_rfl)
              clear hC hOld
              refine wpOp_step rfl (fun K hK => ?_)
              simp only [puts, List.foldl]
              go_simp
              refine (HPM.out wx (B3.out.next hg) _ hJ12).mono ?_
              rintro e w' ⟨⟨v, rfl, hv⟩, hb'⟩
              exact hK _ _ ⟨rfl, hv, hg.next hb', hb'⟩
            case ns14 =>
              intro u wx hg hC hOld
              obtain ⟨a5, c5, e5, q5⟩ : (Rd st.u) (u 5) wx := hC.at 5 (by kernel_rfl)
              have hJ5 : Rd (st.u) (.slice a5 (st.u).length c5) wx := ⟨_, _, rfl, q5⟩
              obtain ⟨a13, c13, e13, q13⟩ : (Rd Mm) (u 13) wx := hC.at 13 (by kernel_rfl)
              have hJ13 : Rd (Mm) (.slice a13 (Mm).length c13) wx := ⟨_, _, rfl, q13⟩
              clear hC hOld
              refine wpOp_step rfl (fun K hK => ?_)
              simp only [puts, List.foldl]
              go_simp
              refine hK _ _ ⟨rfl, ?_, hg.alloc hg.size _, alloc_below _ _⟩
              change Pls [st.u, Mm] _ _
              exact pls_two (HU8.out) (HM8.out) (hJ5) (hJ13)
            case ns15 =>
              intro u wx hg hC hOld
              have hJ4 : u 4 = (.pointer (some ⟨b, 0, none⟩)) := hC.at 4 (by kernel_rfl)
              have hJ14 : (Pls [st.u, Mm]) (u 14) wx := hC.at 14 (by kernel_rfl)
              clear hC hOld
              refine wpOp_step rfl (fun K hK => ?_)
              simp only [puts, List.foldl]
              go_simp
              refine (HPA.out wx (B3.out.next hg) _ hJ14).mono ?_
              rintro e w' ⟨⟨v, rfl, hv⟩, hb'⟩
              exact hK _ _ ⟨rfl, hv, hg.next hb', hb'⟩
            case ns16 =>
              intro u wx hg hC hOld
              have hJ0 : (Rd st.v) (u 0) wx := hC.at 0 (by kernel_rfl)
              clear hC hOld
              refine wpOp_step rfl (fun K hK => ?_)
              simp only [puts, List.foldl]
              go_simp
              exact hK _ _ ⟨rfl, hJ0, hg, Below.refl _ _⟩
            case ns17 =>
              intro u wx hg hC hOld
              have hJ15 : (Rd Nn) (u 15) wx := hC.at 15 (by kernel_rfl)
              clear hC hOld
              refine wpOp_step rfl (fun K hK => ?_)
              simp only [puts, List.foldl]
              go_simp
              exact hK _ _ ⟨rfl, hJ15, hg, Below.refl _ _⟩
          case finn =>
            intro u w4 hb4 hφ
            have h5 : Rd st.v (u 16) w4 := hφ (16, 5) (by decide)
            have h6 : Rd Nn (u 17) w4 := hφ (17, 6) (by decide)
            clear hφ
            simp only [puts, List.foldl]
            go_simp
            obtain ⟨x5, hx5⟩ : ∃ x, u 16 = x := ⟨_, rfl⟩
            obtain ⟨x6, hx6⟩ : ∃ x, u 17 = x := ⟨_, rfl⟩
            rw [hx5] at h5 ⊢
            rw [hx6] at h6 ⊢
            have H5 : Hid (Reads w4 x5 st.v) := Lib.hid h5
            have H6 : Hid (Reads w4 x6 Nn) := Lib.hid h6
            have HB4 := Lib.hid ((HB.out.step B3.out).step hb4)
            have HR4 := Lib.hid (RR3.out.step hb4)
            have HBW4 := Lib.hid ((HBW.out.next B3.out).next hb4)
            clear hb4 h5 h6 hx5 hx6
            go_wp2
            go_roundw
            case rel => exact ⟨euStep st, HAT2.out, HL2.out, ⟨by rw [HSTA.out.1]; exact HB4.out, by rw [HSTA.out.2.1]; exact HR4.out, by rw [HSTA.out.2.2.1]; exact H5.out, by rw [HSTA.out.2.2.2]; exact H6.out⟩, HBW4.out⟩
            case measure => show lenOf _ < lenOf _; rw [HR4.out.lenOf, HB.out.lenOf]; exact HMEA.out
      · have hge : decide ((p : Int) + (lost : Int) ≤ 2 * ((m : Int) - 1)) = false := decide_eq_false (by omega)
        have HE : Hid (st.v = RR) := Lib.hid (HAT.out.stop (by unfold euGo; rw [HMM.out]; exact hgo))
        clear hgo HMM HAT HLN
        go_wp2
        refine region_invX [(0, 21), (1, 22), (2, 23), (3, 24), (4, 25), (5, 26), (6, 27), (7, 28), (8, 29), (9, 30), (10, 31), (11, 32), (12, 33)]
          (fun ii => [Is u4, Is (.int .i64 ((m : Int) - 1)), Is (.int .i64 (2 * ((m : Int) - 1))), Is (.pointer (some ⟨s, 0, none⟩)), Is (.pointer (some ⟨s, 0, none⟩)), Is (.pointer (some ⟨s, 2, none⟩)), Is (.int .i64 (p : Int)), Is (.pointer (some ⟨s, 0, none⟩)), Is (.pointer (some ⟨s, 0, none⟩)), Is (.pointer (some ⟨s, 4, none⟩)), Is (.int .i64 (lost : Int)), Is (.int .i64 ((p : Int) + (lost : Int))), Is (.bool false)].getD ii (Is undef))
          (fun w' => Below wr.heap.size wr w') (by kernel_rfl) (by kernel_rfl) (by decide) (by decide) (by kernel_rfl) rfl ?monof ((Below.refl _ _).drew) ?stepf ?finf
        case monof =>
          intro i
          match i with
          | 0 | 1 | 2 | 3 | 4 | 5 | 6 | 7 | 8 | 9 | 10 | 11 | 12 => exact Is.monot _
          | _ + 13 => exact Is.monot _
        case stepf =>
          refine List.forall_mem_cons.2 ⟨?fs0, List.forall_mem_cons.2 ⟨?fs1, List.forall_mem_cons.2 ⟨?fs2, List.forall_mem_cons.2 ⟨?fs3, List.forall_mem_cons.2 ⟨?fs4, List.forall_mem_cons.2 ⟨?fs5, List.forall_mem_cons.2 ⟨?fs6, List.forall_mem_cons.2 ⟨?fs7, List.forall_mem_cons.2 ⟨?fs8, List.forall_mem_cons.2 ⟨?fs9, List.forall_mem_cons.2 ⟨?fs10, List.forall_mem_cons.2 ⟨?fs11, List.forall_mem_cons.2 ⟨?fs12, List.forall_mem_nil _⟩⟩⟩⟩⟩⟩⟩⟩⟩⟩⟩⟩⟩
          case fs0 =>
            intro u wx hg hC
            clear hC
            refine wpOp_step rfl (fun K hK => ?_)
            simp only [puts, List.foldl]
            go_simp
            exact hK _ _ ⟨rfl, rfl, hg, Below.refl _ _⟩
          case fs1 =>
            intro u wx hg hC
            have hJ0 : u 0 = u4 := hC.at 0 (by kernel_rfl)
            clear hC
            refine wpOp_step rfl (fun K hK => ?_)
            simp only [puts, List.foldl]
            go_simp
            refine (HDG.out wx hg).mono ?_
            rintro e w' ⟨rfl, hb'⟩
            exact hK _ _ ⟨rfl, rfl, hg.next hb', hb'⟩
          case fs2 =>
            intro u wx hg hC
            have hJ1 : u 1 = (.int .i64 ((m : Int) - 1)) := hC.at 1 (by kernel_rfl)
            clear hC
            refine wpOp_step rfl (fun K hK => ?_)
            simp only [puts, List.foldl]
            go_simp
            exact hK _ _ ⟨rfl, rfl, hg, Below.refl _ _⟩
          case fs3 =>
            intro u wx hg hC
            clear hC
            refine wpOp_step rfl (fun K hK => ?_)
            simp only [puts, List.foldl]
            go_simp
            exact hK _ _ ⟨rfl, rfl, hg, Below.refl _ _⟩
          case fs4 =>
            intro u wx hg hC
            have hJ3 : u 3 = (.pointer (some ⟨s, 0, none⟩)) := hC.at 3 (by kernel_rfl)
            clear hC
            refine wpOp_step rfl (fun K hK => ?_)
            simp only [puts, List.foldl]
            go_simp
            exact hK _ _ ⟨rfl, rfl, hg, Below.refl _ _⟩
          case fs5 =>
            intro u wx hg hC
            have hJ4 : u 4 = (.pointer (some ⟨s, 0, none⟩)) := hC.at 4 (by kernel_rfl)
            clear hC
            refine wpOp_step rfl (fun K hK => ?_)
            simp only [puts, List.foldl]
            go_simp
            exact hK _ _ ⟨rfl, rfl, hg, Below.refl _ _⟩
          case fs6 =>
            intro u wx hg hC
            have hJ5 : u 5 = (.pointer (some ⟨s, 2, none⟩)) := hC.at 5 (by kernel_rfl)
            clear hC
            have hcl : wx.cell? ⟨s, 2, none⟩ = some (.int .i64 (p : Int)) := (hg.cell (p := ⟨s, 2, none⟩) HLT.out).trans C2.out
            refine wpOp_step rfl (fun K hK => ?_)
            simp only [puts, List.foldl]
            go_simp
            exact hK _ _ ⟨rfl, rfl, hg, Below.refl _ _⟩
          case fs7 =>
            intro u wx hg hC
            clear hC
            refine wpOp_step rfl (fun K hK => ?_)
            simp only [puts, List.foldl]
            go_simp
            exact hK _ _ ⟨rfl, rfl, hg, Below.refl _ _⟩
          case fs8 =>
            intro u wx hg hC
            have hJ7 : u 7 = (.pointer (some ⟨s, 0, none⟩)) := hC.at 7 (by kernel_rfl)
            clear hC
            refine wpOp_step rfl (fun K hK => ?_)
            simp only [puts, List.foldl]
            go_simp
            exact hK _ _ ⟨rfl, rfl, hg, Below.refl _ _⟩
          case fs9 =>
            intro u wx hg hC
            have hJ8 : u 8 = (.pointer (some ⟨s, 0, none⟩)) := hC.at 8 (by kernel_rfl)
            clear hC
            refine wpOp_step rfl (fun K hK => ?_)
            simp only [puts, List.foldl]
            go_simp
            exact hK _ _ ⟨rfl, rfl, hg, Below.refl _ _⟩
          case fs10 =>
            intro u wx hg hC
            have hJ9 : u 9 = (.pointer (some ⟨s, 4, none⟩)) := hC.at 9 (by kernel_rfl)
            clear hC
            have hcl : wx.cell? ⟨s, 4, none⟩ = some (.int .i64 (lost : Int)) := (hg.cell (p := ⟨s, 4, none⟩) HLT.out).trans C4.out
            refine wpOp_step rfl (fun K hK => ?_)
            simp only [puts, List.foldl]
            go_simp
            exact hK _ _ ⟨rfl, rfl, hg, Below.refl _ _⟩
          case fs11 =>
            intro u wx hg hC
            have hJ6 : u 6 = (.int .i64 (p : Int)) := hC.at 6 (by kernel_rfl)
            have hJ10 : u 10 = (.int .i64 (lost : Int)) := hC.at 10 (by kernel_rfl)
            clear hC
            refine wpOp_step rfl (fun K hK => ?_)
            simp only [puts, List.foldl]
            go_simp
            exact hK _ _ ⟨rfl, rfl, hg, Below.refl _ _⟩
          case fs12 =>
            intro u wx hg hC
            have hJ2 : u 2 = (.int .i64 (2 * ((m : Int) - 1))) := hC.at 2 (by kernel_rfl)
            have hJ11 : u 11 = (.int .i64 ((p : Int) + (lost : Int))) := hC.at 11 (by kernel_rfl)
            clear hC
            refine wpOp_step rfl (fun K hK => ?_)
            simp only [puts, List.foldl]
            go_simp
            exact hK _ _ ⟨rfl, rfl, hg, Below.refl _ _⟩
        case finf =>
          intro u w2 hb2 hφ
          have e33 : u 12 = .bool false := hφ (12, 33) (by decide)
          clear hφ
          simp only [puts, List.foldl]
          rw [e33]
          go_simp
          have HVR : Hid (Reads w2 u6 RR) := Lib.hid (by rw [← HE.out]; exact HV.out.step hb2)
          have B2 := Lib.hid (HBW.out.next hb2)
          clear hb2 e33
          go_wp2
          go_ret
          exact ⟨⟨_, rfl, HVR.out⟩, B2.out⟩
end Go.Proofs.Ytkcnmiaedcenoaa
