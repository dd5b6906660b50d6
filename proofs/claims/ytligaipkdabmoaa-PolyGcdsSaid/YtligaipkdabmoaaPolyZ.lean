/- Contracts of poly's divisor and Gcd. -/
import Derived.Test.YtligaipkdabmoaaPolyX
import Derived.Test.YtligaipkdabmoaaPolyMath6
import Derived.Test.YtligaipkdabmoaaPolyR
namespace Go.Proofs.Ytligaipkdabmoaa
open Go.RowKit GfMath PolyMath
set_option linter.unusedVariables false

set_option maxHeartbeats 2000000 in
theorem divisor_any (b : Nat) (a c : Option Addr) (ca cc : Nat) (X Y : List Nat) (w : World) (hf : Fld w b) (hX : By X) (hY : By Y) (hlx : X.length ≤ 1000000) (hly : Y.length ≤ 1000000) (h1 : X.length ≤ ca) (h2 : Y.length ≤ cc)
    (hr : Lies w w.heap.size a (u8s X)) (hs : Lies w w.heap.size c (u8s Y)) :
    Calls Try.prog 44 #[.pointer (some ⟨b, 0, none⟩), .slice a X.length ca, .slice c Y.length cc] w fun e w' =>
      (∃ v G, e = .returned v ∧ Reads w' v G ∧ By G ∧ PolyMath.Can G ∧ G.length ≤ 1000000 ∧ ∀ d, By d → (Dv d G ↔ Dv d X ∧ Dv d Y)) ∧ Below w.heap.size w w' := by
  have HB := Lib.hid (behind_any a ca X w (by omega) h1 hr)
  have HC := Lib.hid (behind_any c cc Y w (by omega) h2 hs)
  have hbx := beh_le X
  have hby := beh_le Y
  have HINV : Hid (∀ d, By d → ((Dv d X ∧ Dv d Y) ↔ (Dv d (beh X) ∧ Dv d (beh Y)))) := Lib.hid fun d _ => by rw [Dv.beh, Dv.beh]
  have hcx := beh_can X
  have hcy := beh_can Y
  have h8x := hX.beh
  have h8y := hY.beh
  have HF := Lib.hid hf
  obtain ⟨A, hA⟩ : ∃ A, beh X = A := ⟨_, rfl⟩
  obtain ⟨C, hC⟩ : ∃ C, beh Y = C := ⟨_, rfl⟩
  rw [hA] at HB hbx HINV hcx h8x
  rw [hC] at HC hby HINV hcy h8y
  have HF0 : Hid (By A ∧ By C ∧ PolyMath.Can A ∧ PolyMath.Can C ∧ A.length ≤ 1000000 ∧ C.length ≤ 1000000) := Lib.hid ⟨h8x, h8y, hcx, hcy, by omega, by omega⟩
  clear hr hs hbx hby hcx hcy h8x h8y hA hC hX hY hf
  go_enter Try.func44, Try.ntmps44
  go_wp2_with (first
    | (go_at_call 39; (with_reducible refine HB.out.mono ?_); rintro e w1 ⟨⟨v, rfl, hv⟩, rfl⟩; have HVA := Lib.hid hv; clear hv)
    | (go_at_call 39; (with_reducible refine HC.out.mono ?_); rintro e w1 ⟨⟨v2, rfl, hv⟩, rfl⟩; have HVC := Lib.hid hv; clear hv))
  go_loopw [1, 2] (fun va vb wr => ∃ x y : List Nat, Reads wr va x ∧ Reads wr vb y ∧ (By x ∧ By y ∧ PolyMath.Can x ∧ PolyMath.Can y ∧ x.length ≤ 1000000 ∧ y.length ≤ 1000000) ∧ (∀ d, By d → ((Dv d X ∧ Dv d Y) ↔ (Dv d x ∧ Dv d y))) ∧ Below w.heap.size w wr) (fun _ vb _ => lenV vb)
  case atStart => exact ⟨A, C, HVA.out, HVC.out, HF0.out, HINV.out, Below.refl _ _⟩
  case round =>
    clear HVA HVC HF0 HINV HB HC
    obtain ⟨x, y, ⟨ax, cx, rfl, hcx, lx⟩, ⟨ay, cy, rfl, hcy, ly⟩, ⟨hx8, hy8, hxc, hyc, hxl, hyl⟩, hinv, hbw⟩ := hrel
    by_cases h0 : y.length = 0
    · have hi : (y.length : Int) = 0 := by omega
      have hy : y = [] := List.eq_nil_of_length_eq_zero h0
      have HV : Hid (Reads wr (.slice ax x.length cx) x) := Lib.hid ⟨ax, cx, rfl, hcx, lx⟩
      have HX8 := Lib.hid hx8
      have HXC := Lib.hid hxc
      have HXL := Lib.hid hxl
      have HI : Hid (∀ d, By d → (Dv d x ↔ Dv d X ∧ Dv d Y)) := Lib.hid fun d hd => by
        rw [hinv d hd, hy]
        exact ⟨fun h => ⟨h, Dv.zero d⟩, fun h => h.1⟩
      have HW := Lib.hid hbw
      clear hcx lx hcy ly hx8 hy8 hxc hyc hxl hyl hinv hbw h0 hy
      go_wp2
      go_ret
      exact ⟨⟨_, x, rfl, HV.out, HX8.out, HXC.out, HXL.out, HI.out⟩, HW.out⟩
    · have hyp : 0 < (beh y).length := by rw [hyc.beh]; omega
      obtain ⟨_, _, hR8, hRc, hRl, _, _⟩ := div_spec hx8 hy8 hyp
      rw [hyc.beh] at hRl
      have hi : 0 < (y.length : Int) := by omega
      have HDM : Hid (Calls Try.prog 20 #[.pointer (some ⟨b, 0, none⟩), .slice ax x.length cx, .slice ay y.length cy] wr fun e w' => (∃ v v2, e = .returned (.tuple #[v, v2, .bool true]) ∧ Reads w' v (dq x y) ∧ Reads w' v2 (dr x y)) ∧ Below wr.heap.size wr w') :=
        Lib.hid (divmod_any b ax ay cx cy x y wr (HF.out.step hbw) hx8 hy8 hxl hyl hcx hcy hyp lx ly)
      have hstep : ∀ d, By d → ((Dv d X ∧ Dv d Y) ↔ (Dv d y ∧ Dv d (dr x y))) := fun d hd => by rw [hinv d hd, Dv.step hd hx8 hy8 hyp]
      obtain ⟨R, hR⟩ : ∃ R, dr x y = R := ⟨_, rfl⟩
      rw [hR] at HDM hstep hR8 hRc hRl
      have HST := Lib.hid hstep
      have HRV : Hid (Reads wr (.slice ay y.length cy) y) := Lib.hid ⟨ay, cy, rfl, hcy, ly⟩
      have HALL : Hid (By y ∧ By R ∧ PolyMath.Can y ∧ PolyMath.Can R ∧ y.length ≤ 1000000 ∧ R.length ≤ 1000000) := Lib.hid ⟨hy8, hR8, hyc, hRc, hyl, by omega⟩
      have HRL := Lib.hid hRl
      have HW := Lib.hid hbw
      clear hcx lx hcy ly hx8 hy8 hxc hyc hxl hyl hinv hbw h0 hyp hR8 hRc hRl hstep hR
      go_wp2_with (go_at_call 20; (with_reducible refine HDM.out.mono ?_); rintro e w1 ⟨⟨v, v2, rfl, _, ⟨ar, cr, rfl, hcr, lr⟩⟩, b1⟩; have HRR : Hid (Reads w1 (.slice ar R.length cr) R) := Lib.hid ⟨ar, cr, rfl, hcr, lr⟩; have B1 := Lib.hid b1; clear b1 lr hcr)
      go_roundw
      case rel => exact ⟨y, R, HRV.out.step B1.out, HRR.out, HALL.out, HST.out, HW.out.next B1.out⟩
      case measure => simp [lenV]; exact HRL.out

/-- A list of polynomials, whatever room they have. -/
structure Polz (w : World) (ts : List Hd) (ls : List (List Nat)) : Prop where
  len : ts.length = ls.length
  at_ : ∀ i (h : i < ts.length) (h2 : i < ls.length), ts[i].2.1 = ls[i].length ∧ ls[i].length ≤ ts[i].2.2 ∧ By ls[i] ∧ Lies w w.heap.size ts[i].1 (u8s ls[i])
theorem Polz.step {w w' : World} {ts : List Hd} {ls : List (List Nat)} (h : Polz w ts ls) (hb : Below w.heap.size w w') : Polz w' ts ls :=
  ⟨h.len, fun i h1 h2 => by obtain ⟨a, b, d, e⟩ := h.at_ i h1 h2; exact ⟨a, b, d, e.step hb⟩⟩
theorem Polz.nil (w : World) : Polz w [] [] := ⟨rfl, fun i h => by simp at h⟩
theorem Polz.get {w : World} {ts : List Hd} {ls : List (List Nat)} (h : Polz w ts ls) (k : Nat) (hk : k < ls.length) :
    ∃ a c, ts[k]'(by rw [h.len]; exact hk) = (a, ls[k].length, c) ∧ ls[k].length ≤ c ∧ By ls[k] ∧ Lies w w.heap.size a (u8s ls[k]) := by
  obtain ⟨h1, h2, h4, h5⟩ := h.at_ k (by rw [h.len]; exact hk) hk
  have hk' : k < ts.length := by rw [h.len]; exact hk
  refine ⟨(ts[k]'hk').1, (ts[k]'hk').2.2, ?_, h2, h4, h5⟩
  rw [← h1]
theorem Polz.snoc {w : World} {ts : List Hd} {ls : List (List Nat)} (h : Polz w ts ls) {a : Option Addr} {c : Nat} {l : List Nat} (hc : l.length ≤ c) (hl : By l) (hr : Lies w w.heap.size a (u8s l)) : Polz w (ts ++ [(a, l.length, c)]) (ls ++ [l]) := by
  refine ⟨by rw [List.length_append, List.length_append, h.len]; rfl, fun i h1 h2 => ?_⟩
  rw [List.length_append, List.length_singleton] at h1 h2
  by_cases e : i < ls.length
  · have e2 : i < ts.length := by rw [h.len]; exact e
    rw [List.getElem_append_left e2, List.getElem_append_left e]
    exact h.at_ i e2 e
  · have e1 : i = ls.length := by omega
    subst e1
    have e2 : ts.length = ls.length := h.len
    rw [List.getElem_append_right (by omega), List.getElem_append_right (by omega)]
    simp only [e2, Nat.sub_self, List.getElem_cons_zero]
    exact ⟨trivial, hc, hl, hr⟩

set_option maxHeartbeats 2000000 in
theorem gcd_any (b : Nat) (a : Option Addr) (cap : Nat) (ts : List Hd) (ls : List (List Nat)) (w : World) (hf : Fld w b) (hp : Polz w ts ls) (hn : ls.length ≤ 100) (hl : ∀ l ∈ ls, l.length ≤ 5000) (hr : Lies w w.heap.size a (slvs ts)) :
    Calls Try.prog 29 #[.pointer (some ⟨b, 0, none⟩), .slice a ls.length cap] w fun e w' =>
      (∃ v G, e = .returned v ∧ Reads w' v G ∧ By G ∧ PolyMath.Can G ∧ G.length ≤ 1000000 ∧ (0 < G.length → sq G 0 = 1) ∧ ∀ d, By d → (Dv d G ↔ ∀ p ∈ ls, Dv d p)) ∧ Below w.heap.size w w' := by
  have HF := Lib.hid hf
  have HR := Lib.hid hr
  have HP := Lib.hid hp
  have HL := Lib.hid hl
  clear hf hr hp hl
  go_enter Try.func29, Try.ntmps29
  go_wp2
  go_loopw [5, 14] (fun v i wr => ∃ (k : Nat) (G : List Nat), k ≤ ls.length ∧ i = .int .i64 k ∧ Reads wr v G ∧ (By G ∧ PolyMath.Can G ∧ G.length ≤ 1000000) ∧ (∀ d, By d → (Dv d G ↔ ∀ p ∈ ls.take k, Dv d p)) ∧ Below w.heap.size w wr) (fun _ i _ => ls.length - (intOf i).toNat)
  case atStart => exact ⟨0, [], Nat.zero_le _, rfl, Reads.nil _, ⟨by_nil, fun h => absurd h (by simp), by simp⟩, fun d _ => ⟨fun _ p hp => by simp at hp, fun _ => Dv.zero d⟩, Below.refl _ _⟩
  case round =>
    obtain ⟨k, G, hk, rfl, ⟨ag, cg, rfl, hcg, lg⟩, ⟨hG8, hGc, hGl⟩, hinv, hbw⟩ := hrel
    by_cases hlt : k < ls.length
    · have hk1 : (k : Int) < ls.length := by omega
      obtain ⟨q, c, ht, hqc, hq8, hql⟩ := HP.out.get k hlt
      have hkt : k < ts.length := by rw [HP.out.len]; exact hlt
      obtain ⟨b2, off, rfl, hbb, hcl⟩ := HR.out (by rw [slvs_length]; omega)
      have hcell : wr.cell? ⟨b2, off + k, none⟩ = some (.slice q ls[k].length c) := by
        have h1 := (hbw.cell (p := ⟨b2, off + k, none⟩) hbb).trans (hcl k _ (slvs_get ts k hkt))
        rw [ht] at h1
        exact h1
      have hl5 := HL.out ls[k] (List.getElem_mem hlt)
      have hts := take_snoc ls k hlt
      obtain ⟨l, hle⟩ : ∃ l, ls[k] = l := ⟨_, rfl⟩
      rw [hle] at hcell hqc hq8 hql hl5 hts
      have HDV : Hid (Calls Try.prog 44 #[.pointer (some ⟨b, 0, none⟩), .slice ag G.length cg, .slice q l.length c] wr fun e w' => (∃ v G', e = .returned v ∧ Reads w' v G' ∧ By G' ∧ PolyMath.Can G' ∧ G'.length ≤ 1000000 ∧ ∀ d, By d → (Dv d G' ↔ Dv d G ∧ Dv d l)) ∧ Below wr.heap.size wr w') :=
        Lib.hid (divisor_any b ag q cg c G l wr (HF.out.step hbw) hG8 hq8 hGl (by omega) hcg hqc lg (hql.step hbw))
      have HINV := Lib.hid hinv
      have HTS := Lib.hid hts
      have HW := Lib.hid hbw
      clear hcg lg hG8 hGc hGl hinv hbw hqc hq8 hql hcl hbb ht hle hl5 hts
      go_wp2_with (go_at_call 44; (with_reducible refine HDV.out.mono ?_); rintro e w1 ⟨⟨v, G', rfl, hv, hg8, hgc, hgl, hgd⟩, b1⟩; have HV := Lib.hid hv; have HG := Lib.hid (And.intro hg8 (And.intro hgc hgl)); have HGD := Lib.hid hgd; have B1 := Lib.hid b1; clear hv hg8 hgc hgl hgd b1)
      go_roundw
      case rel =>
        refine ⟨k + 1, G', by omega, by go_num, HV.out, HG.out, fun d hd => ?_, HW.out.next B1.out⟩
        rw [HGD.out d hd, HINV.out d hd, HTS.out]
        constructor
        · rintro ⟨h1, h2⟩ p hp
          rcases List.mem_append.1 hp with h | h
          · exact h1 p h
          · simp at h; rw [h]; exact h2
        · intro h
          exact ⟨fun p hp => h p (List.mem_append_left _ hp), h l (List.mem_append_right _ (by simp))⟩
      case measure => first | (simp [intOf]; done) | (simp [intOf]; omega)
    · have ek : k = ls.length := by omega
      rw [ek, List.take_of_length_le (Nat.le_refl _)] at hinv
      by_cases h0 : G.length = 0
      · have hi : (G.length : Int) = 0 := by omega
        have hi1 : ((G.length : Int) == 0) = true := beq_iff_eq.2 hi
        have hGe : G = [] := List.eq_nil_of_length_eq_zero h0
        have HI : Hid (∀ d, By d → (Dv d [] ↔ ∀ p ∈ ls, Dv d p)) := Lib.hid fun d hd => by rw [← hGe]; exact hinv d hd
        have HW := Lib.hid hbw
        clear hcg lg hG8 hGc hGl hinv hbw hGe h0
        go_wp2
        go_ret
        exact ⟨⟨_, [], rfl, Reads.nil _, by_nil, fun h => absurd h (by simp), by simp, fun h => absurd h (by simp), HI.out⟩, HW.out⟩
      · have hi : ¬ (G.length : Int) = 0 := by omega
        have hi1 : ((G.length : Int) == 0) = false := beq_false_of_ne hi
        have hip : 0 < (G.length : Int) := by omega
        have hin : 0 < G.length := by omega
        obtain ⟨bg, og, rfl, hbg, hcc⟩ := lg (by rw [u8s_length]; omega)
        have hcell : wr.cell? ⟨bg, og, none⟩ = some (.int .u8 (sq G 0 : Int)) := by have := u8s_sq hcc 0 hin; rwa [Nat.add_zero] at this
        have hs := fun d hd => Dv.scale (d := d) hd hG8 hGc hin
        have hs0 := hs [] by_nil
        have hx8 := hG8.sq 0
        have hx0 := hGc hin
        have hiv := iv_lt (sq G 0)
        obtain ⟨x, hx⟩ : ∃ x, sq G 0 = x := ⟨_, rfl⟩
        rw [hx] at hcell hs0 hx8 hx0 hiv
        simp only [hx] at hs
        have HIN : Hid (Calls Try.prog 45 #[.pointer (some ⟨b, 0, none⟩), .int .u8 (x : Int)] wr fun e w' => e = .returned (.tuple #[.int .u8 (iv x : Int), .bool true]) ∧ Below wr.heap.size wr w') := Lib.hid (inv_any b x wr (HF.out.step hbw) hx8 hx0)
        obtain ⟨i, hie⟩ : ∃ i, iv x = i := ⟨_, rfl⟩
        rw [hie] at HIN hs0 hiv
        simp only [hie] at hs
        have HLG : Hid (Lies wr wr.heap.size (some ⟨bg, og, none⟩) (u8s G)) := Lib.hid fun _ => ⟨bg, og, rfl, hbg, hcc⟩
        have HT : Hid (∀ u : World, Fld u b → Lies u u.heap.size (some ⟨bg, og, none⟩) (u8s G) → Calls Try.prog 40 #[.pointer (some ⟨b, 0, none⟩), .slice (some ⟨u.heap.size, 0, none⟩) 1 1, .slice (some ⟨bg, og, none⟩) G.length cg] (u.alloc (.cells #[.int .u8 (i : Int)] 5)) fun e w' => (∃ v, e = .returned v ∧ Reads w' v (pm [i] G)) ∧ Below u.heap.size u w') :=
          Lib.hid fun u hf hl => (ptimes_any b (some ⟨u.heap.size, 0, none⟩) (some ⟨bg, og, none⟩) 1 cg [i] G _ (hf.step (alloc_below _ _)) (by_c hiv) hG8 (by simp) hGl (Lies.new [.int .u8 (i : Int)] u _) (hl.step (alloc_below _ _))).mono fun e w' h => ⟨h.1, (alloc_below _ _).next h.2⟩
        have HS0 := Lib.hid hs0
        have HSD : Hid (∀ d, By d → (Dv d (pm [i] G) ↔ ∀ p ∈ ls, Dv d p)) := Lib.hid fun d hd => by rw [(hs d hd).2.2.2.2]; exact hinv d hd
        have HGL := Lib.hid hGl
        have HFR : Hid (Fld wr b) := Lib.hid (HF.out.step hbw)
        have HW := Lib.hid hbw
        clear hcg lg hG8 hGc hGl hinv hbw hcc hbg hs hs0 hx8 hx0 hiv hx hie h0
        go_wp2_with (first
          | (go_at_call 45; (with_reducible refine HIN.out.mono ?_); rintro e w1 ⟨rfl, b1⟩; have B1 := Lib.hid b1; clear b1)
          | (go_at_call 40; (with_reducible refine (HT.out w1 (HFR.out.step B1.out) (HLG.out.step B1.out)).mono ?_); rintro e w2 ⟨⟨v, rfl, hv⟩, b2⟩; have HV := Lib.hid hv; have B2 := Lib.hid b2; clear hv b2))
        go_ret
        exact ⟨⟨_, pm [i] G, rfl, HV.out, HS0.out.1, HS0.out.2.1, by rw [HS0.out.2.2.1]; exact HGL.out, fun _ => HS0.out.2.2.2.1, HSD.out⟩, (HW.out.next B1.out).next B2.out⟩

end Go.Proofs.Ytligaipkdabmoaa
