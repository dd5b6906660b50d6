/- Contracts of poly's Trim and Roots; the document's example. -/
import Derived.Test.YtpkjannlndnfdaaPolyB
namespace Go.Proofs.Ytpkjannlndnfdaa
open Go.RowKit GfMath PolyMath
set_option linter.unusedVariables false

theorem one_byte : One Try.prog 5 := One.of (by kernel_rfl)

theorem behind_none (a : Option Addr) (cap : Nat) (l : List Nat) (w : World) (hl : l.length ≤ 140737488355328) (hcap : l.length ≤ cap) (hr : Lies w w.heap.size a (u8s l)) (h0 : (beh l).length = 0) :
    Calls Try.prog 23 #[.slice a l.length cap] w fun e w' => e = .returned (.slice none 0 0) ∧ w = w' := by
  have HI := Lib.hid (index_any a cap l w hl hr)
  have hf : firstOf l = -1 := if_neg (by rw [beh_length] at h0; have := zs_le l; omega)
  rw [hf] at HI
  clear hf hr h0
  go_enter Try.func23, Try.ntmps23
  go_wp2_with (go_at_call 28; (with_reducible refine HI.out.mono ?_); rintro e w1 ⟨rfl, rfl⟩)
  go_ret
  exact ⟨rfl, rfl⟩
theorem behind_some (a : Option Addr) (cap : Nat) (l : List Nat) (w : World) (hl : l.length ≤ 140737488355328) (hcap : l.length ≤ cap) (hr : Lies w w.heap.size a (u8s l)) (h0 : 0 < (beh l).length) :
    Calls Try.prog 23 #[.slice a l.length cap] w fun e w' => (∃ g o c, e = .returned (.slice (some ⟨g, o, none⟩) (beh l).length c) ∧ (beh l).length ≤ c ∧ Lies w w.heap.size (some ⟨g, o, none⟩) (u8s (beh l))) ∧ w = w' :=
  (behind_any a cap l w hl hcap hr).mono fun e w' ⟨⟨v, he, a', c, hv, hc, hL⟩, h2⟩ => by
    obtain ⟨g, o, rfl, h3⟩ := hL (by rw [u8s_length]; exact h0)
    exact ⟨⟨g, o, c, by rw [he, hv], hc, fun _ => ⟨g, o, rfl, h3⟩⟩, h2⟩

set_option maxRecDepth 100000 in
theorem clone_nil (w : World) : Calls Try.prog 25 #[.slice none 0 0] w fun e w' => e = .returned (.slice none 0 0) ∧ w = w' := by
  have he : ∀ w : World, (binOp .eql 22 (.slice none 0 0) (.slice none 0 0)).run Try.prog w = .ok (.bool true) w := fun _ => rfl
  go_enter Try.func25, Try.ntmps25
  go_wp2
  go_ret
  exact ⟨rfl, rfl⟩

set_option maxRecDepth 100000 in
theorem clone_some (g o cap : Nat) (l : List Nat) (w : World) (hl : l.length ≤ 1000000) (h0 : 0 < l.length) (hr : Lies w w.heap.size (some ⟨g, o, none⟩) (u8s l)) :
    Calls Try.prog 25 #[.slice (some ⟨g, o, none⟩) l.length cap] w fun e w' =>
      (∃ g' c', e = .returned (.slice (some ⟨g', 0, none⟩) l.length c') ∧ w.heap.size ≤ g' ∧ w'.ownsRow w.heap.size 5 1 (.slice (some ⟨g', 0, none⟩) l.length c') l.length (u8s l)) ∧ Below w.heap.size w w' := by
  have he : ∀ w : World, (binOp .eql 22 (.slice (some ⟨g, o, none⟩) l.length cap) (.slice none 0 0)).run Try.prog w = .ok (.bool false) w := fun _ => rfl
  have HR := Lib.hid hr
  have HL : Hid ((u8s l).length = l.length) := Lib.hid (u8s_length l)
  have H0 : Hid (0 < l.length) := Lib.hid h0
  have H1 : Hid ((u8s l).all (·.oneCell') = true) := Lib.hid (u8s_one l)
  have HN : Big (0 + l.length ≤ 1099511627776) := ⟨by omega⟩
  obtain ⟨B, hB⟩ : ∃ B, B = w.heap.size := ⟨_, rfl⟩
  have HB := Lib.hid hB
  have HOW : Hid (∀ (t : TypeId) (u : World), u.heap.size = B → t = 5 → (u.alloc (.cells #[] t)).ownsRow B 5 1 (.slice (some ⟨u.heap.size, 0, none⟩) 0 0) 0 []) := Lib.hid (by
    intro t u hu ht
    subst ht
    exact Row.owns (xs := []) (ys := []) (Row.new u _ []) (by omega) rfl rfl (Nat.le_refl _) (by unfold maxLen; omega))
  clear hr h0 hB
  go_enter Try.func25, Try.ntmps25
  go_wp2_with ((with_reducible refine wpAppendK cap (HOW.out 5 w HB.out.symm rfl) Try.underlying22 one_byte (HR.out.step (alloc_below _ _)) HL.out H0.out H1.out HN (by rw [HB.out]; exact (alloc_below w _).size) ?_ ?_); rfl; intro v1 w1 g1 g2 g3; have G1 := Lib.hid g1; have G2 := Lib.hid g2; have G3 := Lib.hid g3; clear g1 g2 g3)
  obtain ⟨B1, hB1⟩ : ∃ B1 : Below w.heap.size w w1, True := ⟨((alloc_below w _).grown G2.out (by simp) (fun k hk => by cases hk; exact Nat.le_refl _)), trivial⟩
  have h1 := G1.out
  rw [Nat.zero_add, List.nil_append, HB.out] at h1
  rcases h1.2 with ⟨_, h2⟩ | ⟨g', cap', cur, h2, h3, _⟩
  · have := H0.out; omega
  · subst h2
    go_ret
    exact ⟨⟨g', cap', rfl, h3, h1⟩, B1⟩

theorem own_lies {w : World} {base g n cap : Nat} {e : TypeId} {xs : List Value} (h : w.ownsRow base e 1 (.slice (some ⟨g, 0, none⟩) n cap) n xs) : Lies w w.heap.size (some ⟨g, 0, none⟩) xs ∧ n ≤ cap := by
  obtain ⟨a, c, e1, h1⟩ := own_form h
  cases e1
  refine ⟨h1, ?_⟩
  rcases h.2 with ⟨h1, _⟩ | ⟨g', cap', cur, h1, h2, h3, h4, _⟩
  · cases h1
  · cases h1; exact h4

/-- A slice of one's own, or none, that reads as l: what Clone answers. -/
theorem clone_any (a : Option Addr) (cap : Nat) (l : List Nat) (w : World) (hl : l.length ≤ 1000000) (hn : l.length = 0 → a = none ∧ cap = 0) (hr : Lies w w.heap.size a (u8s l)) :
    Calls Try.prog 25 #[.slice a l.length cap] w fun e w' => (∃ v, e = .returned v ∧ Reads w' v l) ∧ Below w.heap.size w w' := by
  by_cases h0 : l.length = 0
  · obtain ⟨rfl, rfl⟩ := hn h0
    have e0 : l = [] := List.eq_nil_of_length_eq_zero h0
    subst e0
    exact (clone_nil w).mono fun e w' h => ⟨⟨_, h.1, Reads.nil _⟩, by rw [← h.2]; exact Below.refl _ _⟩
  · obtain ⟨g, o, rfl, h1⟩ := hr (by rw [u8s_length]; omega)
    exact (clone_some g o cap l w hl (by omega) (fun _ => ⟨g, o, rfl, h1⟩)).mono fun e w' ⟨⟨g', c', h1, _, h3⟩, h4⟩ => ⟨⟨_, h1, _, _, rfl, (own_lies h3).2, (own_lies h3).1⟩, h4⟩

theorem trim_any (a : Option Addr) (cap : Nat) (l : List Nat) (w : World) (hl : l.length ≤ 1000000) (hcap : l.length ≤ cap) (hr : Lies w w.heap.size a (u8s l)) :
    Calls Try.prog 12 #[.slice a l.length cap] w fun e w' => (∃ v, e = .returned v ∧ Reads w' v (beh l)) ∧ Below w.heap.size w w' := by
  have hb := beh_length l
  by_cases h0 : (beh l).length = 0
  · have HB := Lib.hid (behind_none a cap l w (by omega) hcap hr h0)
    have HE : Hid (beh l = []) := Lib.hid (List.eq_nil_of_length_eq_zero h0)
    clear hr h0 hb
    go_enter Try.func12, Try.ntmps12
    go_wp2_with (first
      | (go_at_call 23; (with_reducible refine HB.out.mono ?_); rintro e w1 ⟨rfl, rfl⟩)
      | (go_at_call 25; (with_reducible refine (clone_nil w).mono ?_); rintro e w1 ⟨rfl, rfl⟩))
    go_ret
    exact ⟨⟨_, rfl, by rw [HE.out]; exact Reads.nil _⟩, Below.refl _ _⟩
  · have HB := Lib.hid (behind_some a cap l w (by omega) hcap hr (by omega))
    have hb2 : (beh l).length ≤ 1000000 := by omega
    clear hb
    generalize beh l = m at *
    clear hr
    go_enter Try.func12, Try.ntmps12
    go_wp2_with (first
      | (go_at_call 23; (with_reducible refine HB.out.mono ?_); rintro e w1 ⟨⟨g, o, c, rfl, hc, hm⟩, rfl⟩; have HM := Lib.hid hm; clear hm)
      | (go_at_call 25; (with_reducible refine (clone_any (some ⟨g, o, none⟩) c m w (by omega) (fun h => absurd h h0) HM.out).mono ?_); rintro e w2 ⟨⟨v, rfl, hv⟩, b2⟩; have HV := Lib.hid hv; have B2 := Lib.hid b2; clear hv b2))
    go_ret
    exact ⟨⟨_, rfl, HV.out⟩, B2.out⟩

set_option maxHeartbeats 1000000 in
theorem roots_any (b : Nat) (a : Option Addr) (cap : Nat) (l : List Nat) (w : World) (hf : Fld w b) (hb : By l) (hl : l.length ≤ 1000) (hr : Lies w w.heap.size a (u8s l)) :
    Calls Try.prog 13 #[.pointer (some ⟨b, 0, none⟩), .slice a l.length cap] w fun e w' => (∃ v, e = .returned v ∧ Reads w' v (rt l)) ∧ Below w.heap.size w w' := by
  have HF := Lib.hid hf
  have HR := Lib.hid hr
  have HB := Lib.hid hb
  have H0 : Hid (Reads (w.alloc (.cells #[.int .u8 1] 5)) (.slice (some ⟨w.heap.size, 0, none⟩) 1 1) (rt [])) := Lib.hid ⟨_, 1, rfl, by decide, Lies.new [.int .u8 1] w _⟩
  clear hf hr hb
  go_enter Try.func13, Try.ntmps13
  go_wp2
  go_loopw [5, 13] (fun p i wr => ∃ k : Nat, k ≤ l.length ∧ i = .int .i64 k ∧ Reads wr p (rt (l.take k)) ∧ Below w.heap.size w wr) (fun _ i _ => l.length - (intOf i).toNat)
  case atStart => exact ⟨0, Nat.zero_le _, rfl, H0.out, alloc_below _ _⟩
  case round =>
    clear H0
    obtain ⟨k, hk, rfl, ⟨ap, cp, rfl, hcp, hp⟩, hbw⟩ := hrel
    by_cases hlt : k < l.length
    · have hk1 : (k : Int) < l.length := by omega
      obtain ⟨b2, off, rfl, hbb, hcl⟩ := HR.out (by rw [u8s_length]; omega)
      have hcell : wr.cell? ⟨b2, off + k, none⟩ = some (.int .u8 (l[k] : Int)) := (hbw.cell (p := ⟨b2, off + k, none⟩) hbb).trans (hcl k _ (u8s_get l k hlt))
      have hst : rt (l.take (k + 1)) = pm (rt (l.take k)) [1, l[k]] := by rw [take_snoc l k hlt, rt_snoc]
      obtain ⟨h1, h2, _⟩ := rt_all (l.take k) fun x hx => HB.out x (List.mem_of_mem_take hx)
      have hx8 := HB.out _ (List.getElem_mem hlt)
      rw [List.length_take] at h2
      obtain ⟨x, hx⟩ : ∃ x, l[k] = x := ⟨_, rfl⟩
      rw [hx] at hcell hst hx8
      obtain ⟨P, hP⟩ : ∃ P, rt (l.take k) = P := ⟨_, rfl⟩
      rw [hP] at hst hp h1 h2 hcp
      rw [hP]
      have HT : Hid (∀ (u : World) (g : Nat), Fld u b → Lies u u.heap.size ap (u8s P) → Lies u u.heap.size (some ⟨g, 0, none⟩) (u8s [1, x]) → Calls Try.prog 21 #[.pointer (some ⟨b, 0, none⟩), .slice ap P.length cp, .slice (some ⟨g, 0, none⟩) 2 2] u fun e w' => (∃ v, e = .returned v ∧ Reads w' v (pm P [1, x])) ∧ Below u.heap.size u w') :=
        Lib.hid fun u g h3 h4 h5 => ptimes_any b ap (some ⟨g, 0, none⟩) cp 2 P [1, x] u h3 h1 (by_two (show 1 < 256 by omega) hx8) (by omega) (by simp) h4 h5
      have HP := Lib.hid hp
      have HS := Lib.hid hst
      have HW := Lib.hid hbw
      have HFR : Hid (Fld wr b) := Lib.hid (HF.out.step hbw)
      clear hp h1 h2 hst hbw hx8 hcl hbb hx hP hcp
      go_wp2_with (first
        | (go_at_call 22; (with_reducible refine (less_any x wr).mono ?_); rintro e w1 ⟨rfl, l1, b1⟩; have L1 := Lib.hid l1; have B1 := Lib.hid b1; clear l1 b1)
        | (go_at_call 21; (with_reducible refine (HT.out w1 _ (HFR.out.step B1.out) (HP.out.step B1.out) L1.out).mono ?_); rintro e w2 ⟨⟨v, rfl, hv⟩, b2⟩; have V2 := Lib.hid hv; have B2 := Lib.hid b2; clear hv b2))
      go_roundw
      case rel => exact ⟨k + 1, by omega, by go_num, by rw [HS.out]; exact V2.out, (HW.out.next B1.out).next B2.out⟩
      case measure => simp [intOf]; omega
    · have ek : k = l.length := by omega
      have HV : Hid (Reads wr (.slice ap (rt (l.take k)).length cp) (rt l)) := Lib.hid (by
        rw [ek, List.take_of_length_le (Nat.le_refl _)] at hp hcp ⊢
        exact ⟨ap, cp, rfl, hcp, hp⟩)
      have HW := Lib.hid hbw
      clear hp hbw
      go_wp2
      go_ret
      exact ⟨⟨_, rfl, HV.out⟩, HW.out⟩

theorem rt_12 : rt [1, 2] = [1, 3, 2] := by decide +kernel
set_option maxHeartbeats 1000000 in
theorem awake_any (w : World) :
    Calls Try.prog 4 #[] w fun e w' => e = .returned (.bool true) ∧ Below w.heap.size w w' := by
  obtain ⟨b, hb⟩ : ∃ b, b = w.heap.size := ⟨_, rfl⟩
  have HN : Hid (Calls Try.prog 6 #[] w fun e w' => e = .returned (.pointer (some ⟨b, 0, none⟩)) ∧ Fld w' b ∧ Below w.heap.size w w') := Lib.hid (by rw [hb]; exact gfNew_any w)
  have H1 : Hid (∀ u, Fld u b → Calls Try.prog 13 #[.pointer (some ⟨b, 0, none⟩), .slice (some ⟨u.heap.size, 0, none⟩) 2 2] (u.alloc (.cells #[.int .u8 1, .int .u8 2] 5)) fun e u' =>
      (∃ g o c, e = .returned (.slice (some ⟨g, o, none⟩) 3 c) ∧ u'.cell? ⟨g, o, none⟩ = some (.int .u8 1) ∧ u'.cell? ⟨g, o + 1, none⟩ = some (.int .u8 3) ∧ u'.cell? ⟨g, o + 2, none⟩ = some (.int .u8 2) ∧ 3 ≤ c ∧ Lies u' u'.heap.size (some ⟨g, o, none⟩) (u8s [1, 3, 2])) ∧ Below u.heap.size u u') :=
    Lib.hid fun u hf => (roots_any b (some ⟨u.heap.size, 0, none⟩) 2 [1, 2] _ (hf.step (alloc_below _ _)) (by_two (by omega) (by omega)) (by decide) (laid_two 1 2 u _)).mono fun e u' ⟨⟨v, h1, a', c, h2, h3, h4⟩, h5⟩ => by
      rw [rt_12] at h2 h3 h4
      obtain ⟨g, o, rfl, h6, h7⟩ := h4 (by decide)
      exact ⟨⟨g, o, c, by rw [h1, h2]; rfl, h7 0 _ rfl, h7 1 _ rfl, h7 2 _ rfl, h3, fun _ => ⟨g, o, rfl, h6, h7⟩⟩, (alloc_below _ _).next h5⟩
  have HD : Hid (∀ (u : World) (g o c : Nat), 3 ≤ c → Lies u u.heap.size (some ⟨g, o, none⟩) (u8s [1, 3, 2]) → Calls Try.prog 10 #[.slice (some ⟨g, o, none⟩) 3 c] u fun e w' => e = .returned (.int .i64 2) ∧ u = w') := Lib.hid fun u g o c h1 h2 => degree_any (some ⟨g, o, none⟩) c [1, 3, 2] u (by decide) h1 h2
  have HB := Lib.hid hb
  clear hb
  go_enter Try.func4, Try.ntmps4
  go_wp2_with (first
    | (go_at_call 6; (with_reducible refine HN.out.mono ?_); rintro e u1 ⟨rfl, f1, b1⟩; have F1 := Lib.hid f1; have B1 := Lib.hid b1; clear f1 b1)
    | (go_at_call 13; (with_reducible refine (H1.out u1 F1.out).mono ?_); rintro e u2 ⟨⟨g, o, c, rfl, c0, c1, c2, hc, hl⟩, b2⟩; have L2 := Lib.hid hl; have B2 := Lib.hid (B1.out.next b2); clear hl b2)
    | (go_at_call 10; (with_reducible refine (HD.out u2 g o c hc L2.out).mono ?_); rintro e u3 ⟨rfl, rfl⟩))
  go_ret
  exact ⟨rfl, B2.out⟩

end Go.Proofs.Ytpkjannlndnfdaa
