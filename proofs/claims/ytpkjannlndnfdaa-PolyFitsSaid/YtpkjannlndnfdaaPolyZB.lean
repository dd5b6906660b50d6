/- The contract of poly's Fit. -/
import Derived.Test.YtpkjannlndnfdaaPolyZC
import Derived.Test.YtpkjannlndnfdaaInvS
import Derived.Test.YtpkjannlndnfdaaPolyMath7
namespace Go.Proofs.Ytpkjannlndnfdaa
open Go.RowKit GfMath PolyMath
set_option linter.unusedVariables false

theorem fit_len (b : Nat) (a c : Option Addr) (ca cc : Nat) (X Y : List Nat) (w : World) (hne : X.length ≠ Y.length) :
    Calls Try.prog 9 #[.pointer (some ⟨b, 0, none⟩), .slice a X.length ca, .slice c Y.length cc] w fun e w' => e = .returned (.tuple #[.slice none 0 0, .bool false]) ∧ w = w' := by
  have h1 : ¬ (X.length : Int) = Y.length := by omega
  have h2 : ((X.length : Int) != Y.length) = true := by rw [bne, beq_false_of_ne h1]; rfl
  clear hne
  go_enter Try.func9, Try.ntmps9
  go_wp2
  go_ret2
  exact ⟨rfl, rfl⟩

/-- No place stands there twice. -/
def Once (X : List Nat) (k : Nat) : Prop := ∀ j, j < k → ev (rt (X.take j)) (sq X j) ≠ 0

set_option maxRecDepth 100000 in
set_option maxHeartbeats 8000000 in
theorem fit_any (b : Nat) (a c : Option Addr) (ca cy : Nat) (X Y : List Nat) (w : World) (hf : Fld w b) (hX : By X) (hY : By Y) (hl : X.length ≤ 500) (hlen : X.length = Y.length) (hr : Lies w w.heap.size a (u8s X)) (hs : Lies w w.heap.size c (u8s Y)) :
    Calls Try.prog 9 #[.pointer (some ⟨b, 0, none⟩), .slice a X.length ca, .slice c Y.length cy] w fun e w' =>
      ((Once X X.length ∧ ∃ v, e = .returned (.tuple #[v, .bool true]) ∧ Reads w' v (fitN X Y X.length)) ∨ (¬ Once X X.length ∧ e = .returned (.tuple #[.slice none 0 0, .bool false]))) ∧ Below w.heap.size w w' := by
  have HF := Lib.hid hf
  have HR := Lib.hid hr
  have HS := Lib.hid hs
  have HX8 := Lib.hid hX
  have HY8 := Lib.hid hY
  have HLE := Lib.hid hlen
  have hli : ((X.length : Int) != Y.length) = false := by rw [hlen]; simp
  have hlj : (X.length : Int) = Y.length := by omega
  have hlb : (Y.length : Int) ≤ 500 := by omega
  have HLB : Hid (X.length ≤ 500) := Lib.hid hl
  have HT0 : Hid (Reads (w.alloc (.cells #[.int .u8 1] 5)) (.slice (some ⟨w.heap.size, 0, none⟩) 1 1) (rt (X.take 0))) := Lib.hid ⟨_, 1, rfl, by rw [List.take_zero]; decide, by rw [List.take_zero]; exact Lies.new [.int .u8 1] w _⟩
  have HP0 : Hid (Reads (w.alloc (.cells #[.int .u8 1] 5)) (.slice none 0 0) (fitN X Y 0)) := Lib.hid (Reads.nil _)
  clear hf hr hs hX hY hlen hl
  go_enter Try.func9, Try.ntmps9
  go_wp2
  go_loopw [8, 9, 26] (fun vp vt i wr => ∃ k : Nat, k ≤ X.length ∧ i = .int .i64 k ∧ Reads wr vp (fitN X Y k) ∧ Reads wr vt (rt (X.take k)) ∧ Once X k ∧ Below w.heap.size w wr) (fun _ _ i _ => X.length - (intOf i).toNat)
  case atStart => exact ⟨0, Nat.zero_le _, rfl, HP0.out, HT0.out, fun j hj => absurd hj (by omega), alloc_below _ _⟩
  case round =>
    clear HT0 HP0
    obtain ⟨k, hk, rfl, ⟨ap, cp, rfl, hcp, lp⟩, ⟨at_, ct_, rfl, hct, lt⟩, hon, hbw⟩ := hrel
    by_cases hlt : k < X.length
    · have hk1 : (k : Int) < Y.length := by omega
      have hk2 : (k : Int) < X.length := by omega
      have hk0 : 0 ≤ (k : Int) := by omega
      obtain ⟨bx, ox, rfl, hbx, hcx⟩ := HR.out (by rw [u8s_length]; omega)
      obtain ⟨by_, oy, rfl, hby, hcy⟩ := HS.out (by rw [u8s_length]; omega)
      have hcell : wr.cell? ⟨bx, ox + k, none⟩ = some (.int .u8 (sq X k : Int)) := (hbw.cell (p := ⟨bx, ox + k, none⟩) hbx).trans (u8s_sq hcx k hlt)
      have hcell2 : wr.cell? ⟨by_, oy + k, none⟩ = some (.int .u8 (sq Y k : Int)) := (hbw.cell (p := ⟨by_, oy + k, none⟩) hby).trans (u8s_sq hcy k (by have := HLE.out; omega))
      obtain ⟨f8, fc, fl⟩ := fitN_all HX8.out HY8.out k (by omega)
      have hxt : By (X.take k) := fun x h => HX8.out x (List.mem_of_mem_take h)
      obtain ⟨t8, tl, tc⟩ := rt_all (X.take k) hxt
      rw [List.length_take] at tl
      have hx8 := HX8.out.sq k
      have hy8 := HY8.out.sq k
      have hfn : fitN X Y (k + 1) = addl [fitN X Y k, pms [[gm (sq Y k ^^^ ev (fitN X Y k) (sq X k)) (iv (ev (rt (X.take k)) (sq X k)))], rt (X.take k)]] := rfl
      have hrn : rt (X.take (k + 1)) = pm (rt (X.take k)) [1, sq X k] := by rw [take_snoc X k hlt, rt_snoc, sq_get X k hlt]
      have hbad : ev (rt (X.take k)) (sq X k) = 0 → ¬ Once X X.length := fun h h2 => h2 k hlt h
      have hnew : ev (rt (X.take k)) (sq X k) ≠ 0 → Once X (k + 1) := fun h j hj => by
        by_cases e : j = k
        · subst e; exact h
        · exact hon j (by omega)
      obtain ⟨x, hx⟩ : ∃ x, sq X k = x := ⟨_, rfl⟩
      obtain ⟨y, hy⟩ : ∃ y, sq Y k = y := ⟨_, rfl⟩
      obtain ⟨F, hF⟩ : ∃ F, fitN X Y k = F := ⟨_, rfl⟩
      obtain ⟨T, hT⟩ : ∃ T, rt (X.take k) = T := ⟨_, rfl⟩
      rw [hx, hy, hF, hT] at hfn
      rw [hx, hT] at hrn hbad hnew
      rw [hx] at hcell hx8
      rw [hy] at hcell2 hy8
      rw [hF] at f8 fc fl lp hcp
      rw [hT] at t8 tl tc lt hct
      rw [hF, hT]
      have he18 := ev_lt f8 hx8
      have he28 := ev_lt t8 hx8
      have HEP0 : ∀ u : World, Below wr.heap.size wr u → Calls Try.prog 11 #[.pointer (some ⟨b, 0, none⟩), .slice ap F.length cp, .int .u8 (x : Int)] u fun e w' => e = .returned (.int .u8 (ev F x : Int)) ∧ Below u.heap.size u w' := fun u hu => eval_any b ap cp F x u ((HF.out.step hbw).step hu) f8 hx8 (by omega) (lp.step hu)
      have HET0 : ∀ u : World, Below wr.heap.size wr u → Calls Try.prog 11 #[.pointer (some ⟨b, 0, none⟩), .slice at_ T.length ct_, .int .u8 (x : Int)] u fun e w' => e = .returned (.int .u8 (ev T x : Int)) ∧ Below u.heap.size u w' := fun u hu => eval_any b at_ ct_ T x u ((HF.out.step hbw).step hu) t8 hx8 (by omega) (lt.step hu)
      obtain ⟨e1, he1⟩ : ∃ e1, ev F x = e1 := ⟨_, rfl⟩
      obtain ⟨e2, he2⟩ : ∃ e2, ev T x = e2 := ⟨_, rfl⟩
      rw [he1] at HEP0 he18 hfn
      rw [he2] at HET0 he28 hfn hbad hnew
      have hs8 := xor_lt hy8 he18
      have HAD0 : ∀ (u : World) (b1 : Nat), Lies u u.heap.size (some ⟨b1, 0, none⟩) [.int .u8 (y : Int), .int .u8 (e1 : Int)] → Calls Try.prog 18 #[.pointer (some ⟨b, 0, none⟩), .slice (some ⟨b1, 0, none⟩) 2 2] u fun e w' => e = .returned (.int .u8 ((y ^^^ e1 : Nat) : Int)) ∧ Below u.heap.size u w' := fun u b1 hl => (add_two b b1 2 y e1 u hy8 he18 hl).mono fun _ u' h => ⟨h.1, by rw [← h.2]; exact Below.refl _ _⟩
      obtain ⟨s, hs⟩ : ∃ s, y ^^^ e1 = s := ⟨_, rfl⟩
      rw [hs] at HAD0 hs8 hfn
      have HEP := Lib.hid HEP0
      have HET := Lib.hid HET0
      have HAD := Lib.hid HAD0
      have HW := Lib.hid hbw
      have HCY := Lib.hid hcell2
      have HYL : Hid (by_ < wr.heap.size) := Lib.hid (Nat.lt_of_lt_of_le hby hbw.size)
      have HFR : Hid (Fld wr b) := Lib.hid (HF.out.step hbw)
      by_cases h0 : e2 = 0
      · have HDV : Hid (∀ u : World, Below wr.heap.size wr u → Calls Try.prog 17 #[.pointer (some ⟨b, 0, none⟩), .int .u8 (s : Int), .int .u8 (e2 : Int)] u fun e w' => e = .returned (.tuple #[.int .u8 0, .bool false]) ∧ Below u.heap.size u w') := Lib.hid fun u _ => by
          have h := (div_zero b s u).mono (R' := fun e w' => e = .returned (.tuple #[.int .u8 0, .bool false]) ∧ Below u.heap.size u w') fun _ u' h => ⟨h.1, by rw [← h.2]; exact Below.refl _ _⟩
          rw [h0]
          exact h
        have HBAD := Lib.hid (hbad h0)
        clear hcx hcy hbx hby hcell2 f8 fc fl t8 tl tc hxt hx8 hy8 hfn hrn hbad hnew hx hy hF hT he18 he28 HEP0 HET0 HAD0 he1 he2 hs8 hs hbw hon lp lt hcp hct h0
        go_wp2
        refine region_invX [(0, 32), (1, 33), (2, 34), (3, 35), (4, 36), (5, 37), (6, 38), (7, 39), (8, 40), (9, 41), (10, 42), (11, 43), (12, 44), (13, 45), (14, 46), (15, 47), (16, 48), (17, 31), (18, 49), (19, 50), (20, 12), (21, 13)]
          (fun i => [Is (.pointer (some ⟨b, 0, none⟩)), Is (.pointer (some ⟨b, 0, none⟩)), Is (.slice (some ⟨by_, oy, none⟩) Y.length cy), Is (.int .i64 (k : Int)), Is (.pointer (some ⟨by_, oy + k, none⟩)), Is (.int .u8 (y : Int)), Is (.pointer (some ⟨b, 0, none⟩)), Is (.slice ap F.length cp), Is (.int .u8 (x : Int)), Is (.int .u8 (e1 : Int)), New [.int .u8 (y : Int), .int .u8 (e1 : Int)], Is (.int .u8 (s : Int)), Is (.pointer (some ⟨b, 0, none⟩)), Is (.slice at_ T.length ct_), Is (.int .u8 (x : Int)), Is (.int .u8 (e2 : Int)), Is (.tuple #[.int .u8 0, .bool false]), Is (.tuple #[.int .u8 0, .bool false]), Is (.int .u8 0), Is (.bool false), Is (.int .u8 0), Is (.bool false)].getD i (Is undef))
          (fun w' => Below wr.heap.size wr w') (by kernel_rfl) (by kernel_rfl) (by decide) (by decide) (by kernel_rfl) rfl ?monoq ((Below.refl _ _).drew) ?stepq ?finq
        case monoq =>
          intro i
          match i with
          | 0 | 1 | 2 | 3 | 4 | 5 | 6 | 7 | 8 | 9 | 11 | 12 | 13 | 14 | 15 | 16 | 17 | 18 | 19 | 20 | 21 => exact Is.monot _
          | 10 => exact New.monot _
          | _ + 22 => exact Is.monot _
        case stepq =>
          refine List.forall_mem_cons.2 ⟨?qs0, List.forall_mem_cons.2 ⟨?qs1, List.forall_mem_cons.2 ⟨?qs2, List.forall_mem_cons.2 ⟨?qs3, List.forall_mem_cons.2 ⟨?qs4, List.forall_mem_cons.2 ⟨?qs5, List.forall_mem_cons.2 ⟨?qs6, List.forall_mem_cons.2 ⟨?qs7, List.forall_mem_cons.2 ⟨?qs8, List.forall_mem_cons.2 ⟨?qs9, List.forall_mem_cons.2 ⟨?qs10, List.forall_mem_cons.2 ⟨?qs11, List.forall_mem_cons.2 ⟨?qs12, List.forall_mem_cons.2 ⟨?qs13, List.forall_mem_cons.2 ⟨?qs14, List.forall_mem_cons.2 ⟨?qs15, List.forall_mem_cons.2 ⟨?qs16, List.forall_mem_cons.2 ⟨?qs17, List.forall_mem_cons.2 ⟨?qs18, List.forall_mem_cons.2 ⟨?qs19, List.forall_mem_cons.2 ⟨?qs20, List.forall_mem_cons.2 ⟨?qs21, List.forall_mem_nil _⟩⟩⟩⟩⟩⟩⟩⟩⟩⟩⟩⟩⟩⟩⟩⟩⟩⟩⟩⟩⟩⟩
          case qs4 =>
            intro u wx hg hC
            have hJ2 : u 2 = (.slice (some ⟨by_, oy, none⟩) Y.length cy) := hC.at 2 (by kernel_rfl)
            have hJ3 : u 3 = (.int .i64 (k : Int)) := hC.at 3 (by kernel_rfl)
            clear hC
            refine wpOp_step rfl (fun K hK => ?_)
            simp only [puts, List.foldl]
            go_simp
            exact hK _ _ ⟨rfl, rfl, hg, Below.refl _ _⟩
          case qs5 =>
            intro u wx hg hC
            have hJ : u 4 = (.pointer (some ⟨by_, oy + k, none⟩)) := hC.at 4 (by kernel_rfl)
            clear hC
            have hcl : wx.cell? ⟨by_, oy + k, none⟩ = some (.int .u8 (y : Int)) := (hg.cell (p := ⟨by_, oy + k, none⟩) HYL.out).trans HCY.out
            refine wpOp_step rfl (fun K hK => ?_)
            simp only [puts, List.foldl]
            go_simp
            exact hK _ _ ⟨rfl, rfl, hg, Below.refl _ _⟩
          case qs9 =>
            intro u wx hg hC
            have hJ6 : u 6 = (.pointer (some ⟨b, 0, none⟩)) := hC.at 6 (by kernel_rfl)
            have hJ7 : u 7 = (.slice ap F.length cp) := hC.at 7 (by kernel_rfl)
            have hJ8 : u 8 = (.int .u8 (x : Int)) := hC.at 8 (by kernel_rfl)
            clear hC
            refine wpOp_step rfl (fun K hK => ?_)
            simp only [puts, List.foldl]
            go_simp
            refine (HEP.out wx hg).mono ?_
            rintro e w' ⟨rfl, hb'⟩
            exact hK _ _ ⟨rfl, rfl, hg.next hb', hb'⟩
          case qs10 =>
            intro u wx hg hC
            have hJ5 : u 5 = (.int .u8 (y : Int)) := hC.at 5 (by kernel_rfl)
            have hJ9 : u 9 = (.int .u8 (e1 : Int)) := hC.at 9 (by kernel_rfl)
            clear hC
            refine wpOp_step rfl (fun K hK => ?_)
            simp only [puts, List.foldl]
            go_simp
            exact hK _ _ ⟨rfl, ⟨wx.heap.size, rfl, Lies.new [_, _] _ _⟩, hg.alloc hg.size _, alloc_below _ _⟩
          case qs11 =>
            intro u wx hg hC
            have hJ1 : u 1 = (.pointer (some ⟨b, 0, none⟩)) := hC.at 1 (by kernel_rfl)
            obtain ⟨b1, h2, hl⟩ : New [.int .u8 (y : Int), .int .u8 (e1 : Int)] (u 10) wx := hC.at 10 (by kernel_rfl)
            clear hC
            simp only [List.length_cons, List.length_nil, Nat.zero_add, Nat.reduceAdd] at h2
            refine wpOp_step rfl (fun K hK => ?_)
            simp only [puts, List.foldl]
            go_simp
            refine (HAD.out wx b1 hl).mono ?_
            rintro e w' ⟨rfl, hb'⟩
            exact hK _ _ ⟨rfl, rfl, hg.next hb', hb'⟩
          case qs15 =>
            intro u wx hg hC
            have hJ12 : u 12 = (.pointer (some ⟨b, 0, none⟩)) := hC.at 12 (by kernel_rfl)
            have hJ13 : u 13 = (.slice at_ T.length ct_) := hC.at 13 (by kernel_rfl)
            have hJ14 : u 14 = (.int .u8 (x : Int)) := hC.at 14 (by kernel_rfl)
            clear hC
            refine wpOp_step rfl (fun K hK => ?_)
            simp only [puts, List.foldl]
            go_simp
            refine (HET.out wx hg).mono ?_
            rintro e w' ⟨rfl, hb'⟩
            exact hK _ _ ⟨rfl, rfl, hg.next hb', hb'⟩
          case qs16 =>
            intro u wx hg hC
            have hJ0 : u 0 = (.pointer (some ⟨b, 0, none⟩)) := hC.at 0 (by kernel_rfl)
            have hJ11 : u 11 = (.int .u8 (s : Int)) := hC.at 11 (by kernel_rfl)
            have hJ15 : u 15 = (.int .u8 (e2 : Int)) := hC.at 15 (by kernel_rfl)
            clear hC
            refine wpOp_step rfl (fun K hK => ?_)
            simp only [puts, List.foldl]
            go_simp
            refine (HDV.out wx hg).mono ?_
            rintro e w' ⟨rfl, hb'⟩
            exact hK _ _ ⟨rfl, rfl, hg.next hb', hb'⟩
          case qs17 =>
            intro u wx hg hC
            have hJ16 : u 16 = (.tuple #[.int .u8 0, .bool false]) := hC.at 16 (by kernel_rfl)
            clear hC
            refine wpOp_step rfl (fun K hK => ?_)
            simp only [puts, List.foldl]
            go_simp
            exact hK _ _ ⟨rfl, rfl, hg, Below.refl _ _⟩
          case qs18 =>
            intro u wx hg hC
            have hJ17 : u 17 = (.tuple #[.int .u8 0, .bool false]) := hC.at 17 (by kernel_rfl)
            clear hC
            refine wpOp_step rfl (fun K hK => ?_)
            simp only [puts, List.foldl]
            go_simp
            exact hK _ _ ⟨rfl, rfl, hg, Below.refl _ _⟩
          case qs19 =>
            intro u wx hg hC
            have hJ17 : u 17 = (.tuple #[.int .u8 0, .bool false]) := hC.at 17 (by kernel_rfl)
            clear hC
            refine wpOp_step rfl (fun K hK => ?_)
            simp only [puts, List.foldl]
            go_simp
            exact hK _ _ ⟨rfl, rfl, hg, Below.refl _ _⟩
          case qs20 =>
            intro u wx hg hC
            have hJ18 : u 18 = (.int .u8 0) := hC.at 18 (by kernel_rfl)
            clear hC
            refine wpOp_step rfl (fun K hK => ?_)
            simp only [puts, List.foldl]
            go_simp
            exact hK _ _ ⟨rfl, rfl, hg, Below.refl _ _⟩
          case qs21 =>
            intro u wx hg hC
            have hJ19 : u 19 = (.bool false) := hC.at 19 (by kernel_rfl)
            clear hC
            refine wpOp_step rfl (fun K hK => ?_)
            simp only [puts, List.foldl]
            go_simp
            exact hK _ _ ⟨rfl, rfl, hg, Below.refl _ _⟩
          all_goals
            intro u wx hg hC
            clear hC
            refine wpOp_step rfl (fun K hK => ?_)
            simp only [puts, List.foldl]
            go_simp
            refine hK _ _ ?_
            clear hK K
            first
              | (refine ⟨rfl, ?_, hg, Below.refl _ _⟩; rfl)
              | (refine ⟨rfl, ?_, hg.alloc hg.size _, alloc_below _ _⟩; exact ⟨wx.heap.size, rfl, Lies.new [_] _ _⟩)
              | (refine ⟨rfl, ?_, hg.alloc hg.size _, alloc_below _ _⟩; exact ⟨wx.heap.size, rfl, Lies.new [_, _] _ _⟩)
        case finq =>
          intro u w9 hbw9 hφ
          have h20 : u 20 = .int .u8 0 := hφ (20, 12) (by decide)
          have h21 : u 21 = .bool false := hφ (21, 13) (by decide)
          clear hφ
          simp only [puts, List.foldl]
          go_simp
          have B9 := Lib.hid hbw9
          clear hbw9
          go_wp2
          go_ret2
          exact ⟨Or.inr ⟨HBAD.out, rfl⟩, HW.out.next B9.out⟩
      · have hiv := iv_lt e2
        have HDV0 : ∀ u : World, Below wr.heap.size wr u → Calls Try.prog 17 #[.pointer (some ⟨b, 0, none⟩), .int .u8 (s : Int), .int .u8 (e2 : Int)] u fun e w' => e = .returned (.tuple #[.int .u8 (gm s (iv e2) : Int), .bool true]) ∧ Below u.heap.size u w' := fun u hu => div_any b s e2 u (HFR.out.step hu) hs8 he28 h0
        have hc8 := gm_lt hs8 hiv
        obtain ⟨c, hc⟩ : ∃ c, gm s (iv e2) = c := ⟨_, rfl⟩
        rw [hc] at HDV0 hc8 hfn
        have HDV := Lib.hid HDV0
        have HNE := Lib.hid (hnew h0)
        have hp8 : ∀ l ∈ [[c], T], By l := by intro l hl; simp at hl; rcases hl with rfl | rfl; exact by_one hc8; exact t8
        have hm8 := (pms_all [[c], T] hp8).1
        have hml := pms_le [[c], T] 501 (by intro l hl; simp at hl; rcases hl with rfl | rfl; simp; omega)
        simp only [List.length_cons, List.length_nil] at hml
        have HMU : Hid (∀ u : World, Below wr.heap.size wr u → Calls Try.prog 20 #[.pointer (some ⟨b, 0, none⟩), .slice (some ⟨u.heap.size + 1, 0, none⟩) 2 2] ((u.alloc (.cells #[.int .u8 (c : Int)] 5)).alloc (.cells #[.slice (some ⟨u.heap.size, 0, none⟩) 1 1, .slice at_ T.length ct_] 22)) fun e w' => (∃ v, e = .returned v ∧ Reads w' v (pms [[c], T])) ∧ Below u.heap.size u w') := Lib.hid fun u hu => by
          have hcap : ∃ ct2, ct2 = ct_ := ⟨_, rfl⟩
          have h := pmul_free b (a := some ⟨u.heap.size, 0, none⟩) (c := at_) (ca := 1) (cc := ct_) (A := [c]) (C := T) (by_one hc8) t8 (by simp) hct (by simp) (by omega) (u.alloc (.cells #[.int .u8 (c : Int)] 5)) ((HFR.out.step hu).step (alloc_below _ _)) (Lies.new [.int .u8 (c : Int)] u _) ((lt.step hu).step (alloc_below _ _))
          rw [show (u.alloc (.cells #[.int .u8 (c : Int)] 5)).heap.size = u.heap.size + 1 by simp] at h
          exact h.mono fun e w' ⟨h1, h2⟩ => ⟨h1, (alloc_below u _).trans (h2.mono (by omega))⟩
        obtain ⟨PM, hPM⟩ : ∃ PM, pms [[c], T] = PM := ⟨_, rfl⟩
        rw [hPM] at HMU hfn hm8 hml
        have HPA : Hid (∀ (u : World) (a1 : Option Addr) (c1 : Nat), PM.length ≤ c1 → Below wr.heap.size wr u → Lies u u.heap.size a1 (u8s PM) → Calls Try.prog 19 #[.pointer (some ⟨b, 0, none⟩), .slice (some ⟨u.heap.size, 0, none⟩) 2 2] (u.alloc (.cells #[.slice ap F.length cp, .slice a1 PM.length c1] 22)) fun e w' => (∃ v, e = .returned v ∧ Reads w' v (addl [F, PM])) ∧ Below u.heap.size u w') := Lib.hid fun u a1 c1 hc1 hu hl => padd_free b (a := ap) (c := a1) (ca := cp) (cc := c1) f8 hm8 hcp hc1 (by omega) (by omega) u (lp.step hu) hl
        have HTI : Hid (∀ (u : World) (g : Nat), Below wr.heap.size wr u → Lies u u.heap.size (some ⟨g, 0, none⟩) (u8s [1, x]) → Calls Try.prog 21 #[.pointer (some ⟨b, 0, none⟩), .slice at_ T.length ct_, .slice (some ⟨g, 0, none⟩) 2 2] u fun e w' => (∃ v, e = .returned v ∧ Reads w' v (pm T [1, x])) ∧ Below u.heap.size u w') := Lib.hid fun u g hu hl => ptimes_any b at_ (some ⟨g, 0, none⟩) ct_ 2 T [1, x] u (HFR.out.step hu) t8 (by_two (by omega) hx8) (by omega) (by simp) (lt.step hu) hl
        have HFN := Lib.hid hfn
        have HRN := Lib.hid hrn
        have HCPX := Lib.hid hcp
        clear hcx hcy hbx hby hcell2 f8 fc fl t8 tl tc hxt hx8 hy8 hfn hrn hbad hnew hx hy hF hT he18 he28 HEP0 HET0 HAD0 HDV0 he1 he2 hs8 hs hbw hon lp lt hcp hct hiv hc8 hc hp8 hm8 hml hPM h0
        go_wp2
        refine region_invX [(0, 32), (1, 33), (2, 34), (3, 35), (4, 36), (5, 37), (6, 38), (7, 39), (8, 40), (9, 41), (10, 42), (11, 43), (12, 44), (13, 45), (14, 46), (15, 47), (16, 48), (17, 31), (18, 49), (19, 50), (20, 12), (21, 13)]
          (fun i => [Is (.pointer (some ⟨b, 0, none⟩)), Is (.pointer (some ⟨b, 0, none⟩)), Is (.slice (some ⟨by_, oy, none⟩) Y.length cy), Is (.int .i64 (k : Int)), Is (.pointer (some ⟨by_, oy + k, none⟩)), Is (.int .u8 (y : Int)), Is (.pointer (some ⟨b, 0, none⟩)), Is (.slice ap F.length cp), Is (.int .u8 (x : Int)), Is (.int .u8 (e1 : Int)), New [.int .u8 (y : Int), .int .u8 (e1 : Int)], Is (.int .u8 (s : Int)), Is (.pointer (some ⟨b, 0, none⟩)), Is (.slice at_ T.length ct_), Is (.int .u8 (x : Int)), Is (.int .u8 (e2 : Int)), Is (.tuple #[.int .u8 (c : Int), .bool true]), Is (.tuple #[.int .u8 (c : Int), .bool true]), Is (.int .u8 (c : Int)), Is (.bool true), Is (.int .u8 (c : Int)), Is (.bool true)].getD i (Is undef))
          (fun w' => Below wr.heap.size wr w') (by kernel_rfl) (by kernel_rfl) (by decide) (by decide) (by kernel_rfl) rfl ?monop ((Below.refl _ _).drew) ?stepp ?finp
        case monop =>
          intro i
          match i with
          | 0 | 1 | 2 | 3 | 4 | 5 | 6 | 7 | 8 | 9 | 11 | 12 | 13 | 14 | 15 | 16 | 17 | 18 | 19 | 20 | 21 => exact Is.monot _
          | 10 => exact New.monot _
          | _ + 22 => exact Is.monot _
        case stepp =>
          refine List.forall_mem_cons.2 ⟨?ps0, List.forall_mem_cons.2 ⟨?ps1, List.forall_mem_cons.2 ⟨?ps2, List.forall_mem_cons.2 ⟨?ps3, List.forall_mem_cons.2 ⟨?ps4, List.forall_mem_cons.2 ⟨?ps5, List.forall_mem_cons.2 ⟨?ps6, List.forall_mem_cons.2 ⟨?ps7, List.forall_mem_cons.2 ⟨?ps8, List.forall_mem_cons.2 ⟨?ps9, List.forall_mem_cons.2 ⟨?ps10, List.forall_mem_cons.2 ⟨?ps11, List.forall_mem_cons.2 ⟨?ps12, List.forall_mem_cons.2 ⟨?ps13, List.forall_mem_cons.2 ⟨?ps14, List.forall_mem_cons.2 ⟨?ps15, List.forall_mem_cons.2 ⟨?ps16, List.forall_mem_cons.2 ⟨?ps17, List.forall_mem_cons.2 ⟨?ps18, List.forall_mem_cons.2 ⟨?ps19, List.forall_mem_cons.2 ⟨?ps20, List.forall_mem_cons.2 ⟨?ps21, List.forall_mem_nil _⟩⟩⟩⟩⟩⟩⟩⟩⟩⟩⟩⟩⟩⟩⟩⟩⟩⟩⟩⟩⟩⟩
          case ps4 =>
            intro u wx hg hC
            have hJ2 : u 2 = (.slice (some ⟨by_, oy, none⟩) Y.length cy) := hC.at 2 (by kernel_rfl)
            have hJ3 : u 3 = (.int .i64 (k : Int)) := hC.at 3 (by kernel_rfl)
            clear hC
            refine wpOp_step rfl (fun K hK => ?_)
            simp only [puts, List.foldl]
            go_simp
            exact hK _ _ ⟨rfl, rfl, hg, Below.refl _ _⟩
          case ps5 =>
            intro u wx hg hC
            have hJ : u 4 = (.pointer (some ⟨by_, oy + k, none⟩)) := hC.at 4 (by kernel_rfl)
            clear hC
            have hcl : wx.cell? ⟨by_, oy + k, none⟩ = some (.int .u8 (y : Int)) := (hg.cell (p := ⟨by_, oy + k, none⟩) HYL.out).trans HCY.out
            refine wpOp_step rfl (fun K hK => ?_)
            simp only [puts, List.foldl]
            go_simp
            exact hK _ _ ⟨rfl, rfl, hg, Below.refl _ _⟩
          case ps9 =>
            intro u wx hg hC
            have hJ6 : u 6 = (.pointer (some ⟨b, 0, none⟩)) := hC.at 6 (by kernel_rfl)
            have hJ7 : u 7 = (.slice ap F.length cp) := hC.at 7 (by kernel_rfl)
            have hJ8 : u 8 = (.int .u8 (x : Int)) := hC.at 8 (by kernel_rfl)
            clear hC
            refine wpOp_step rfl (fun K hK => ?_)
            simp only [puts, List.foldl]
            go_simp
            refine (HEP.out wx hg).mono ?_
            rintro e w' ⟨rfl, hb'⟩
            exact hK _ _ ⟨rfl, rfl, hg.next hb', hb'⟩
          case ps10 =>
            intro u wx hg hC
            have hJ5 : u 5 = (.int .u8 (y : Int)) := hC.at 5 (by kernel_rfl)
            have hJ9 : u 9 = (.int .u8 (e1 : Int)) := hC.at 9 (by kernel_rfl)
            clear hC
            refine wpOp_step rfl (fun K hK => ?_)
            simp only [puts, List.foldl]
            go_simp
            exact hK _ _ ⟨rfl, ⟨wx.heap.size, rfl, Lies.new [_, _] _ _⟩, hg.alloc hg.size _, alloc_below _ _⟩
          case ps11 =>
            intro u wx hg hC
            have hJ1 : u 1 = (.pointer (some ⟨b, 0, none⟩)) := hC.at 1 (by kernel_rfl)
            obtain ⟨b1, h2, hl⟩ : New [.int .u8 (y : Int), .int .u8 (e1 : Int)] (u 10) wx := hC.at 10 (by kernel_rfl)
            clear hC
            simp only [List.length_cons, List.length_nil, Nat.zero_add, Nat.reduceAdd] at h2
            refine wpOp_step rfl (fun K hK => ?_)
            simp only [puts, List.foldl]
            go_simp
            refine (HAD.out wx b1 hl).mono ?_
            rintro e w' ⟨rfl, hb'⟩
            exact hK _ _ ⟨rfl, rfl, hg.next hb', hb'⟩
          case ps15 =>
            intro u wx hg hC
            have hJ12 : u 12 = (.pointer (some ⟨b, 0, none⟩)) := hC.at 12 (by kernel_rfl)
            have hJ13 : u 13 = (.slice at_ T.length ct_) := hC.at 13 (by kernel_rfl)
            have hJ14 : u 14 = (.int .u8 (x : Int)) := hC.at 14 (by kernel_rfl)
            clear hC
            refine wpOp_step rfl (fun K hK => ?_)
            simp only [puts, List.foldl]
            go_simp
            refine (HET.out wx hg).mono ?_
            rintro e w' ⟨rfl, hb'⟩
            exact hK _ _ ⟨rfl, rfl, hg.next hb', hb'⟩
          case ps16 =>
            intro u wx hg hC
            have hJ0 : u 0 = (.pointer (some ⟨b, 0, none⟩)) := hC.at 0 (by kernel_rfl)
            have hJ11 : u 11 = (.int .u8 (s : Int)) := hC.at 11 (by kernel_rfl)
            have hJ15 : u 15 = (.int .u8 (e2 : Int)) := hC.at 15 (by kernel_rfl)
            clear hC
            refine wpOp_step rfl (fun K hK => ?_)
            simp only [puts, List.foldl]
            go_simp
            refine (HDV.out wx hg).mono ?_
            rintro e w' ⟨rfl, hb'⟩
            exact hK _ _ ⟨rfl, rfl, hg.next hb', hb'⟩
          case ps17 =>
            intro u wx hg hC
            have hJ16 : u 16 = (.tuple #[.int .u8 (c : Int), .bool true]) := hC.at 16 (by kernel_rfl)
            clear hC
            refine wpOp_step rfl (fun K hK => ?_)
            simp only [puts, List.foldl]
            go_simp
            exact hK _ _ ⟨rfl, rfl, hg, Below.refl _ _⟩
          case ps18 =>
            intro u wx hg hC
            have hJ17 : u 17 = (.tuple #[.int .u8 (c : Int), .bool true]) := hC.at 17 (by kernel_rfl)
            clear hC
            refine wpOp_step rfl (fun K hK => ?_)
            simp only [puts, List.foldl]
            go_simp
            exact hK _ _ ⟨rfl, rfl, hg, Below.refl _ _⟩
          case ps19 =>
            intro u wx hg hC
            have hJ17 : u 17 = (.tuple #[.int .u8 (c : Int), .bool true]) := hC.at 17 (by kernel_rfl)
            clear hC
            refine wpOp_step rfl (fun K hK => ?_)
            simp only [puts, List.foldl]
            go_simp
            exact hK _ _ ⟨rfl, rfl, hg, Below.refl _ _⟩
          case ps20 =>
            intro u wx hg hC
            have hJ18 : u 18 = (.int .u8 (c : Int)) := hC.at 18 (by kernel_rfl)
            clear hC
            refine wpOp_step rfl (fun K hK => ?_)
            simp only [puts, List.foldl]
            go_simp
            exact hK _ _ ⟨rfl, rfl, hg, Below.refl _ _⟩
          case ps21 =>
            intro u wx hg hC
            have hJ19 : u 19 = (.bool true) := hC.at 19 (by kernel_rfl)
            clear hC
            refine wpOp_step rfl (fun K hK => ?_)
            simp only [puts, List.foldl]
            go_simp
            exact hK _ _ ⟨rfl, rfl, hg, Below.refl _ _⟩
          all_goals
            intro u wx hg hC
            clear hC
            refine wpOp_step rfl (fun K hK => ?_)
            simp only [puts, List.foldl]
            go_simp
            refine hK _ _ ?_
            clear hK K
            first
              | (refine ⟨rfl, ?_, hg, Below.refl _ _⟩; rfl)
              | (refine ⟨rfl, ?_, hg.alloc hg.size _, alloc_below _ _⟩; exact ⟨wx.heap.size, rfl, Lies.new [_] _ _⟩)
              | (refine ⟨rfl, ?_, hg.alloc hg.size _, alloc_below _ _⟩; exact ⟨wx.heap.size, rfl, Lies.new [_, _] _ _⟩)
        case finp =>
          intro u w9 hbw9 hφ
          have h20 : u 20 = .int .u8 (c : Int) := hφ (20, 12) (by decide)
          have h21 : u 21 = .bool true := hφ (21, 13) (by decide)
          clear hφ
          simp only [puts, List.foldl]
          go_simp
          have B9 := Lib.hid hbw9
          clear hbw9
          go_wp2_with (first
            | (go_at_call 20; (with_reducible refine (HMU.out w9 B9.out).mono ?_); rintro e x1 ⟨⟨v1, rfl, a1, c1, rfl, hcx1, l1⟩, y1⟩; have HCX1 := Lib.hid hcx1; clear hcx1; have L1 := Lib.hid l1; have Y1 := Lib.hid (B9.out.next y1); clear l1 y1)
            | (go_at_call 19; (with_reducible refine (HPA.out x1 a1 c1 HCX1.out Y1.out L1.out).mono ?_); rintro e x2 ⟨⟨v2, rfl, hv2⟩, y2⟩; have V2 := Lib.hid hv2; have Y2 := Lib.hid (Y1.out.next y2); clear hv2 y2)
            | (go_at_call 22; (with_reducible refine (less_any x x2).mono ?_); rintro e x3 ⟨rfl, l3, y3⟩; have L3 := Lib.hid l3; have Y3 := Lib.hid (Y2.out.next y3); have V3 := Lib.hid (V2.out.step y3); clear l3 y3)
            | (go_at_call 21; (with_reducible refine (HTI.out x3 _ Y3.out L3.out).mono ?_); rintro e x4 ⟨⟨v4, rfl, hv4⟩, y4⟩; have V4 := Lib.hid hv4; have V5 := Lib.hid (V3.out.step y4); have Y4 := Lib.hid (Y3.out.next y4); clear hv4 y4))
          go_roundw
          case rel => exact ⟨k + 1, by omega, by go_num, by rw [HFN.out]; exact V5.out, by rw [HRN.out]; exact V4.out, HNE.out, HW.out.next Y4.out⟩
          case measure => first | (simp [intOf]; done) | (simp [intOf]; omega)
    · have ek : k = X.length := by omega
      rw [ek] at hon
      rw [ek, List.take_of_length_le (Nat.le_refl _)] at hct lt ⊢
      rw [ek] at hcp lp
      have HV : Hid (Reads wr (.slice ap (fitN X Y X.length).length cp) (fitN X Y X.length)) := Lib.hid ⟨ap, cp, rfl, hcp, lp⟩
      have HON := Lib.hid hon
      have HW := Lib.hid hbw
      clear hct lt hcp lp hon hbw ek hlt hk
      go_wp2
      go_ret2
      exact ⟨Or.inl ⟨HON.out, _, rfl, HV.out⟩, HW.out⟩

end Go.Proofs.Ytpkjannlndnfdaa
