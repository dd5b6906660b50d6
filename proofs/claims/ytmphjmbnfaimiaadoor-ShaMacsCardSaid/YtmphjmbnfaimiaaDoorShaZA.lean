/- Contract of the document's New: its words are the program's. -/
import Derived.Test.YtmphjmbnfaimiaaDoorShaV
import Derived.Test.YtmphjmbnfaimiaaDoorShaY
import Derived.Test.YtmphjmbnfaimiaaDoorShaN
import Derived.Test.YtmphjmbnfaimiaaDoorShaJ
import Derived.Test.YtmphjmbnfaimiaaDoorInv
namespace Go.Proofs.YtmphjmbnfaimiaaDoor
open Go.RowKit ShaMath

def firstN : List Nat := first.map (·.toNat)
def rootsN : List Nat := roots.map (·.toNat)
theorem firstN_length : firstN.length = 8 := rfl
theorem rootsN_length : rootsN.length = 64 := rfl
theorem own_only {w w' : World} {base k : Nat} {e : TypeId} {s : Nat} {v : Value} {n : Nat} {xs : List Value} (h : w.ownsRow base e s v n xs) (ho : Only k w w') (hk : k < base) : w'.ownsRow base e s v n xs := by
  refine ⟨h.1, ?_⟩
  rcases h.2 with h | ⟨g, cap, cur, h1, h2, h3, h4⟩
  · exact .inl h
  · exact .inr ⟨g, cap, cur, h1, h2, (ho.2.2.2.2 g (Array.getElem?_eq_some_iff.1 h3).1 (by omega)).trans h3, h4⟩

/-- Two lists that grow, side by side in a struct at block b of the world U. -/
structure Two (U : World) (b : Nat) (w : World) (v u : Value) (n m : Nat) (xs ys : List Value) : Prop where
  row : Row w b 27 [v, u]
  own1 : w.ownsRow U.heap.size 3 1 v n xs
  own2 : w.ownsRow U.heap.size 3 1 u m ys
  ne : ∀ x, v.ownBlock = some x → u.ownBlock ≠ some x
  only : Only b U w
theorem Two.below {U : World} {b : Nat} {w w' : World} {v u : Value} {n m : Nat} {xs ys : List Value} (h : Two U b w v u n m xs ys) (hb : Below w.heap.size w w') : Two U b w' v u n m xs ys :=
  ⟨h.row.step hb, own_below h.own1 hb, own_below h.own2 hb, h.ne, h.only.step hb⟩
theorem Only.grown {g : Nat} {a b c : World} {row : Option Nat} (h : Only g a b) (hg : b.grownBy c row) (hr : ∀ j, row = some j → a.heap.size ≤ j) : Only g a c :=
  ⟨hg.os.trans h.1, hg.tape.trans h.2.1, hg.output.trans h.2.2.1, Nat.le_trans h.size hg.size, fun k hk hne => (hg.block k (Nat.lt_of_lt_of_le hk h.size) (fun e => by have := hr k e.symm; omega)).trans (h.2.2.2.2 k hk hne)⟩
theorem Two.grow1 {U : World} {b : Nat} {w w1 w2 : World} {v u v' : Value} {n m : Nat} {xs ys : List Value} {x : Value} (h : Two U b w v u n m xs ys) (hbU : b < U.heap.size)
    (g1 : w1.ownsRow U.heap.size 3 1 v' (n + 1) (xs ++ [x])) (g2 : w.grownBy w1 v.ownBlock) (g3 : v'.ownBlock = v.ownBlock ∨ v'.ownBlock = some w.heap.size) (r : Row w2 b 27 [v', u]) (o : Only b w1 w2) :
    Two U b w2 v' u (n + 1) m (xs ++ [x]) ys := by
  have hk : w1.ownsRow U.heap.size 3 1 u m ys := h.own2.kept g2 (by
    cases hv : v.ownBlock with
    | none => cases hu : u.ownBlock with
      | none => exact .inl rfl
      | some y => exact .inr (fun e => by cases e)
    | some y => exact .inr (h.ne y hv))
  refine ⟨r, own_only g1 o hbU, own_only hk o hbU, fun y hy => ?_, (h.only.grown g2 (fun j hj => (h.own1.lt j hj).1)).trans o⟩
  rcases g3 with e | e
  · exact h.ne y (e ▸ hy)
  · intro hu
    have := (h.own2.lt y hu).2
    rw [e] at hy
    cases hy
    omega
theorem Two.grow2 {U : World} {b : Nat} {w w1 w2 : World} {v u u' : Value} {n m : Nat} {xs ys : List Value} {x : Value} (h : Two U b w v u n m xs ys) (hbU : b < U.heap.size)
    (g1 : w1.ownsRow U.heap.size 3 1 u' (m + 1) (ys ++ [x])) (g2 : w.grownBy w1 u.ownBlock) (g3 : u'.ownBlock = u.ownBlock ∨ u'.ownBlock = some w.heap.size) (r : Row w2 b 27 [v, u']) (o : Only b w1 w2) :
    Two U b w2 v u' n (m + 1) xs (ys ++ [x]) := by
  have hk : w1.ownsRow U.heap.size 3 1 v n xs := h.own1.kept g2 (by
    cases hv : v.ownBlock with
    | none => exact .inl rfl
    | some y => exact .inr (fun e => h.ne y hv e.symm))
  refine ⟨r, own_only hk o hbU, own_only g1 o hbU, fun y hy => ?_, (h.only.grown g2 (fun j hj => (h.own2.lt j hj).1)).trans o⟩
  rcases g3 with e | e
  · rw [e]; exact h.ne y hy
  · intro hu
    have := (h.own1.lt y hy).2
    rw [e] at hu
    cases hu
    omega
theorem Two.grown {U : World} {b : Nat} {w w1 : World} {v u : Value} {n m : Nat} {xs ys : List Value} {row : Option Nat} (h : Two U b w v u n m xs ys) (hbU : b < U.heap.size) (hr : ∀ j, row = some j → U.heap.size ≤ j) (g2 : w.grownBy w1 row) : Row w1 b 27 [v, u] :=
  (g2.block b h.row.lt (fun e => by have := hr b e.symm; omega)).trans h.row

/-- The primes, one by one. -/
def sv (j : Nat) : Nat := (sieve 312).getD j 0
theorem sv_get (j : Nat) (h : j < 64) : (sieve 312)[j]? = some (sv j) := by
  have hl : j < (sieve 312).length := by rw [sieve_length]; exact h
  rw [sv, List.getD_eq_getElem?_getD, List.getElem?_eq_getElem hl]
  rfl
theorem sv_nats (j : Nat) (h : j < 64) : (sha_nats (sieve 312))[j]? = some (.int .i64 (sv j : Int)) := by
  rw [sha_nats, List.getElem?_map, sv_get j h]
  rfl
theorem firstN_next (j : Nat) (h : j < 8) : firstN.take (j + 1) = firstN.take j ++ [rootN true (sv j)] := by
  have h1 : firstN[j]? = some (rootN true (sv j)) := by
    have e : firstN[j]? = (((sieve 312).take 8).map (rootN true))[j]? := by rw [first_are]; rfl
    rw [e, List.getElem?_map, List.getElem?_take_of_lt h, sv_get j (by omega)]
    rfl
  rw [List.take_add_one, h1]
  rfl
theorem rootsN_next (j : Nat) (h : j < 64) : rootsN.take (j + 1) = rootsN.take j ++ [rootN false (sv j)] := by
  have h1 : rootsN[j]? = some (rootN false (sv j)) := by
    have e : rootsN[j]? = ((sieve 312).map (rootN false))[j]? := by rw [roots_are]; rfl
    rw [e, List.getElem?_map, sv_get j h]
    rfl
  rw [List.take_add_one, h1]
  rfl
theorem sv_bd (j : Nat) (h : j < 64) : sv j < 1000000 := by
  have h2 := List.all_eq_true.1 sieve_small (sv j) (List.mem_of_getElem? (sv_get j h))
  have h3 : 2 ≤ sv j ∧ sv j ≤ 311 := of_decide_eq_true h2
  omega

/-- The answer of New: the words, as lists of numbers. -/
def Wds (w : World) (c : Value) : Prop := ∃ a ca b cb, c = .agg #[.slice a 8 ca, .slice b 64 cb] ∧ Lies w w.heap.size a (sha_nats firstN) ∧ Lies w w.heap.size b (sha_nats rootsN)

set_option maxHeartbeats 2000000 in
theorem refNew_any (w : World) :
    Calls Tryd.prog 7 #[] w fun e w' => ∃ c, e = .returned c ∧ Wds w' c ∧ Below w.heap.size w w' := by
  have HZ : Hid (∀ u, (zeroValue 27).run Tryd.prog u = .ok (.agg ([.slice none 0 0, .slice none 0 0] : List Value).toArray) u) := Lib.hid fun u => by kernel_rfl
  have HBZ : Hid (Tryd.prog.built 27 [] = some ([.slice none 0 0, .slice none 0 0] : List Value).toArray) := Lib.hid (by kernel_rfl)
  have FW : Fits Tryd.prog 27 2 := ⟨⟨_, Tryd.underlying27, rfl⟩, by kernel_rfl⟩
  have HSZ : Hid ((Tryd.prog.info? 25).map (·.size) = some 1) := Lib.hid (by kernel_rfl)
  have H22 : Hid (([.slice none 0 0, .slice none 0 0] : List Value).length = 2) := Lib.hid rfl
  have H2O : Hid (([.slice none 0 0, .slice none 0 0] : List Value).all (·.oneCell') = true) := Lib.hid rfl
  have HFR : Hid (∀ (p : Nat) (two : Bool) (u : World), p < 1000000 → Calls Tryd.prog 21 #[.int .i64 (p : Int), .bool two] u fun e w' => e = .returned (.int .i64 (rootN two p : Int)) ∧ Below u.heap.size u w') := Lib.hid fun p two u hp => root_any p two u (sha_fits_any two p hp)
  go_enter Tryd.func7, Tryd.ntmps7
  go_wp2_with (first
    | ((with_reducible refine wpAllocK (w := w) [.slice none 0 0, .slice none 0 0] 27 HZ.out ?_ ?_); rfl; intro n0 r0 b0 s0; have R0 := Lib.hid r0; have B0 := Lib.hid b0; have S0 := Lib.hid s0; clear r0 b0 s0)
    | ((with_reducible refine wpBuildZeroK [.slice none 0 0, .slice none 0 0] 27 HBZ.out ?_ ?_); rfl)
    | ((with_reducible refine wpAllocK (w := n0) [.slice none 0 0, .slice none 0 0] 27 HZ.out ?_ ?_); rfl; intro n1 r1 b1 s1; have R1 := Lib.hid r1; have B1 : Hid (Below w.heap.size w n1) := Lib.hid (B0.out.next b1); have K0 := Lib.hid (R0.out.step b1); have S1 := Lib.hid s1; clear r1 b1 s1)
    | ((with_reducible refine R1.out.wpStoreK 27 [.slice none 0 0, .slice none 0 0] FW H22.out H22.out H2O.out ?_ ?_); rfl; intro n2 r2 o2 s2; have R2 := Lib.hid r2; have K2 : Hid (Row n2 w.heap.size 27 [.slice none 0 0, .slice none 0 0]) := Lib.hid (K0.out.only o2 (by have := S0.out; omega)); have B2 : Hid (Below w.heap.size w n2) := Lib.hid (B1.out.trans (o2.below B0.out.size B1.out.size)); have S2 : Hid (n2.heap.size = n1.heap.size) := Lib.hid s2; clear r2 o2 s2)
    | (go_at_call 20; (with_reducible refine (primes_any n2).mono ?_); rintro e U ⟨vp, rfl, hp, b3⟩; obtain ⟨ap, cg, e9, _⟩ := own_form hp; have PO := Lib.hid hp; have K3 := Lib.hid (K2.out.step b3); have R3 := Lib.hid (R2.out.step b3); have B3 : Hid (Below w.heap.size w U) := Lib.hid (B2.out.next b3); have B3' := Lib.hid b3; clear hp b3))
  obtain ⟨g, hga, hgn, hgl⟩ : ∃ g, vp = .slice (some ⟨g, 0, none⟩) 64 cg ∧ n2.heap.size ≤ g ∧ g < U.heap.size := by
    rcases PO.out.2 with ⟨_, h⟩ | ⟨g, cap, cur, h1, h2, h3, _⟩
    · omega
    · subst h1; cases e9; exact ⟨g, rfl, h2, (Array.getElem?_eq_some_iff.1 h3).1⟩
  have hpc : ∀ j (h : j < 64), U.cell? ⟨g, j, none⟩ = some (.int .i64 (sv j : Int)) := fun j h => by
    have := PO.out.cells (g := g) (by rw [hga]; rfl) j _ (sv_nats j h)
    rwa [Addr.add_lit, Nat.zero_add] at this
  obtain ⟨b0', hb0'⟩ : ∃ b, b = w.heap.size := ⟨_, rfl⟩
  obtain ⟨b1, hb1⟩ : ∃ b, b = n0.heap.size := ⟨_, rfl⟩
  have h01 : b0' < b1 := by have := S0.out; omega
  have h12 : b1 < n2.heap.size := by have := S1.out; have := S2.out; omega
  have hbU : b1 < U.heap.size := by have := B3'.out.size; omega
  have hgb : g ≠ b1 := by omega
  have TW0 : Hid (Two U b1 U (.slice none 0 0) (.slice none 0 0) (firstN.take 0).length 0 (sha_nats (firstN.take 0)) (sha_nats (rootsN.take 0))) := Lib.hid ⟨by have := R3.out; rw [← hb1] at this; exact this, ⟨rfl, .inl ⟨rfl, rfl⟩⟩, ⟨rfl, .inl ⟨rfl, rfl⟩⟩, fun x hx => (by cases hx), Only.refl _ _⟩
  have K0U := Lib.hid K3.out
  rw [← hb0'] at K0U
  have HB0 := Lib.hid hb0'
  have HB1 := Lib.hid hb1
  have hap : ap = some ⟨g, 0, none⟩ := by
    have h := e9.symm.trans hga
    cases h
    rfl
  rw [hap]
  rw [← hb1, ← hb0']
  have HPC := Lib.hid hpc
  have HBU := Lib.hid hbU
  have H01 := Lib.hid h01
  have HGB := Lib.hid hgb
  have HGL := Lib.hid hgl
  clear hap hpc hga hgn hgl e9 hb0' hb1 h01 h12 hbU hgb R0 B0 S0 R1 B1 K0 S1 R2 K2 B2 S2 PO K3 R3 B3' HZ HBZ
  go_loopw [3] (fun i wr => ∃ (j : Nat) (v u : Value), j ≤ 64 ∧ i = .int .i64 j ∧ Two U b1 wr v u (firstN.take j).length j (sha_nats (firstN.take j)) (sha_nats (rootsN.take j))) (fun i _ => 64 - (intOf i).toNat)
  case atStart => exact ⟨0, _, _, by omega, rfl, TW0.out⟩
  case round =>
    clear TW0
    obtain ⟨j, v, u, hj, rfl, htw⟩ := hrel
    by_cases hlt : j < 64
    · obtain ⟨p, hp⟩ : ∃ p, sv j = p := ⟨_, rfl⟩
      have PCU : Hid (U.cell? ⟨g, j, none⟩ = some (.int .i64 (p : Int))) := Lib.hid (by rw [HPC.out j hlt, hp])
      have hpb : p < 1000000 := by rw [← hp]; exact sv_bd j hlt
      obtain ⟨q0, hq0⟩ : ∃ q, rootN true p = q := ⟨_, rfl⟩
      obtain ⟨q1, hq1⟩ : ∃ q, rootN false p = q := ⟨_, rfl⟩
      have RT0 : Hid (∀ u : World, Calls Tryd.prog 21 #[.int .i64 (p : Int), .bool true] u fun e w' => e = .returned (.int .i64 (q0 : Int)) ∧ Below u.heap.size u w') := Lib.hid fun u => by rw [← hq0]; exact HFR.out p true u hpb
      have RT1 : Hid (∀ u : World, Calls Tryd.prog 21 #[.int .i64 (p : Int), .bool false] u fun e w' => e = .returned (.int .i64 (q1 : Int)) ∧ Below u.heap.size u w') := Lib.hid fun u => by rw [← hq1]; exact HFR.out p false u hpb
      have HR1 : Hid (sha_nats (rootsN.take (j + 1)) = sha_nats (rootsN.take j) ++ [.int .i64 (q1 : Int)]) := Lib.hid (by rw [rootsN_next j hlt, hp, hq1, sha_nats_snoc])
      have hj1 : (j : Int) < 64 := by omega
      have hj0 : 0 ≤ (j : Int) := by omega
      by_cases h8 : j < 8
      · have HF1 : Hid (sha_nats (firstN.take (j + 1)) = sha_nats (firstN.take j) ++ [.int .i64 (q0 : Int)] ∧ (firstN.take (j + 1)).length = (firstN.take j).length + 1) := Lib.hid (by
          refine ⟨by rw [firstN_next j h8, hp, hq0, sha_nats_snoc], by rw [List.length_take, List.length_take, firstN_length]; omega⟩)
        have hj8 : (j : Int) < 8 := by omega
        obtain ⟨N, hN⟩ : ∃ N, (firstN.take j).length = N := ⟨_, rfl⟩
        rw [hN] at htw HF1
        have HN8 : Hid (N ≤ 8) := Lib.hid (by rw [← hN, List.length_take, firstN_length]; omega)
        clear hp hpb hq0 hq1 hN
        obtain ⟨wy, hwy⟩ : ∃ wy, wy = wr := ⟨_, rfl⟩
        rw [← hwy] at htw ⊢
        clear hwy
        have TW := Lib.hid htw
        have PC : Hid (wy.cell? ⟨g, j, none⟩ = some (.int .i64 (p : Int))) := Lib.hid (by rw [← PCU.out]; exact World.cell?_of_block (a := ⟨g, j, none⟩) (htw.only.2.2.2.2 g HGL.out HGB.out))
        have PLT : Hid (g < wy.heap.size) := Lib.hid (Nat.lt_of_lt_of_le HGL.out htw.only.size)
        have HL20 : Hid (0 < ([v, u] : List Value).length) := Lib.hid (by simp)
        clear htw
        go_wp2
        refine region_tail 8 [(0, 12), (1, 13), (2, 14), (3, 15), (4, 16), (5, 17), (6, 18), (7, 19)]
          (fun i => [Is (.pointer (some ⟨b1, 0, none⟩)), Is v, Is (.slice (some ⟨g, 0, none⟩) 64 cg), Is (.int .i64 (j : Int)), Is (.pointer (some ⟨g, j, none⟩)), Is (.int .i64 (p : Int)), Is (.int .i64 (q0 : Int)), New [.int .i64 (q0 : Int)]].getD i (Is undef))
          (fun w' => Below wy.heap.size wy w') (by kernel_rfl) (by decide) (by kernel_rfl) (by kernel_rfl) (by kernel_rfl) (by decide) (by decide) (by kernel_rfl) rfl ?monos ((Below.refl _ _).drew) ?steps ?fins
        case monos =>
          intro i
          match i with
          | 0 | 1 | 2 | 3 | 4 | 5 | 6 => exact Is.monot _
          | 7 => exact New.monot _
          | _ + 8 => exact Is.monot _
        case steps =>
          refine List.forall_mem_cons.2 ⟨?s0, List.forall_mem_cons.2 ⟨?s1, List.forall_mem_cons.2 ⟨?s2, List.forall_mem_cons.2 ⟨?s3, List.forall_mem_cons.2 ⟨?s4, List.forall_mem_cons.2 ⟨?s5, List.forall_mem_cons.2 ⟨?s6, List.forall_mem_cons.2 ⟨?s7, List.forall_mem_nil _⟩⟩⟩⟩⟩⟩⟩⟩
          case s1 =>
            intro x wx hg hC
            have hJ : x 0 = .pointer (some ⟨b1, 0, none⟩) := hC.at 0 (by kernel_rfl)
            clear hC
            have hcl : wx.cell? ⟨b1, 0, none⟩ = some v := by rw [(TW.out.row.step hg).cell]; rfl
            refine wpOp_step rfl (fun K hK => ?_)
            simp only [puts, List.foldl]
            go_simp
            exact hK _ _ ⟨rfl, rfl, hg, Below.refl _ _⟩
          case s5 =>
            intro x wx hg hC
            have hJ : x 4 = .pointer (some ⟨g, j, none⟩) := hC.at 4 (by kernel_rfl)
            clear hC
            have hcl : wx.cell? ⟨g, j, none⟩ = some (.int .i64 (p : Int)) := (hg.cell (p := ⟨g, j, none⟩) PLT.out).trans PC.out
            refine wpOp_step rfl (fun K hK => ?_)
            simp only [puts, List.foldl]
            go_simp
            exact hK _ _ ⟨rfl, rfl, hg, Below.refl _ _⟩
          case s6 =>
            intro x wx hg hC
            have hJ : x 5 = .int .i64 (p : Int) := hC.at 5 (by kernel_rfl)
            clear hC
            refine wpOp_step rfl (fun K hK => ?_)
            simp only [puts, List.foldl]
            go_simp
            refine (RT0.out wx).mono ?_
            rintro e w' ⟨rfl, hb'⟩
            exact hK _ _ ⟨rfl, rfl, hg.next hb', hb'⟩
          all_goals
            intro x wx hg hC
            have hc := hC _ rfl
            clear hC
            simp [Region.binds, Is] at hc
            refine wpOp_step rfl (fun K hK => ?_)
            simp only [puts, List.foldl]
            go_simp
            refine hK _ _ ?_
            clear hK K
            first
              | (refine ⟨rfl, ?_, hg, Below.refl _ _⟩; rfl)
              | (refine ⟨rfl, ?_, hg.alloc hg.size _, alloc_below _ _⟩; exact ⟨wx.heap.size, rfl, Lies.new [_] _ _⟩)
        case fins =>
          intro x w9 hbw9 hφ
          have h1 : x 1 = v := hφ (1, 13) (by decide)
          obtain ⟨bn, h7, hli⟩ : New [.int .i64 (q0 : Int)] (x 7) w9 := hφ (7, 19) (by decide)
          clear hφ
          simp only [List.length_singleton] at h7
          simp only [puts, List.foldl]
          go_simp
          have T9 : Hid (Two U b1 w9 v u N j (sha_nats (firstN.take j)) (sha_nats (rootsN.take j))) := Lib.hid (TW.out.below hbw9)
          have Z9 := Lib.hid T9.out.only.size
          have HLI := Lib.hid hli
          have B9 := Lib.hid hbw9
          clear hli hbw9 h1 h7
          have HPK : Big (N + 1 ≤ 1099511627776) := ⟨by have := HN8.out; omega⟩
          have HO1 : Hid ((Value.int .i64 (q0 : Int)).oneCell' = true) := Lib.hid rfl
          have HVC : Hid (∀ a n c, (Value.slice a n c).cells = #[.slice a n c]) := Lib.hid fun _ _ _ => rfl
          have HVO : Hid (∀ a n c, (Value.slice a n c).oneCell' = true) := Lib.hid fun _ _ _ => rfl
          go_wp2_with (first
            | ((with_reducible refine wpAppend1K T9.out.own1 Tryd.underlying25 sha_one_int HLI.out HO1.out HPK Z9.out ?_ ?_); rfl; intro v1 w1 g1 g2 g3; obtain ⟨a1, c1, e1, _⟩ := own_form g1; have R1 := Lib.hid (T9.out.grown HBU.out (fun j hj => (T9.out.own1.lt j hj).1) g2); subst e1; have G1 := Lib.hid g1; have G2 := Lib.hid g2; have G3 := Lib.hid g3; clear g1 g2 g3)
            | ((with_reducible refine R1.out.wpStore1K 0 25 (.slice a1 (N + 1) c1) HSZ.out HL20.out (HVC.out _ _ _) (HVO.out _ _ _) ?_ ?_); rfl; intro w2 r2 o2 s2; have R2 := Lib.hid r2; have O2 := Lib.hid o2; clear r2 o2 s2))
          have TV : Hid (Two U b1 w2 (.slice a1 (N + 1) c1) u (N + 1) j (sha_nats (firstN.take j) ++ [.int .i64 (q0 : Int)]) (sha_nats (rootsN.take j))) := Lib.hid (T9.out.grow1 HBU.out G1.out G2.out G3.out R2.out O2.out)
          have PD : Hid (w2.cell? ⟨g, j, none⟩ = some (.int .i64 (p : Int))) := Lib.hid (by rw [← PCU.out]; exact World.cell?_of_block (a := ⟨g, j, none⟩) (TV.out.only.2.2.2.2 g HGL.out HGB.out))
          have PLU : Hid (g < w2.heap.size) := Lib.hid (Nat.lt_of_lt_of_le HGL.out TV.out.only.size)
          have HL21 : Hid (1 < ([.slice a1 (N + 1) c1, u] : List Value).length) := Lib.hid (by simp)
          clear T9 G1 G2 G3 R1 R2 O2 PC PLT TW B9 Z9 HLI
          go_wp2
          refine region_tail 8 [(0, 22), (1, 23), (2, 24), (3, 25), (4, 26), (5, 27), (6, 28), (7, 29)]
            (fun i => [Is (.pointer (some ⟨b1, 1, none⟩)), Is u, Is (.slice (some ⟨g, 0, none⟩) 64 cg), Is (.int .i64 (j : Int)), Is (.pointer (some ⟨g, j, none⟩)), Is (.int .i64 (p : Int)), Is (.int .i64 (q1 : Int)), New [.int .i64 (q1 : Int)]].getD i (Is undef))
            (fun w' => Below w2.heap.size w2 w') (by kernel_rfl) (by decide) (by kernel_rfl) (by kernel_rfl) (by kernel_rfl) (by decide) (by decide) (by kernel_rfl) rfl ?monot ((Below.refl _ _).drew) ?stept ?fint
          case monot =>
            intro i
            match i with
            | 0 | 1 | 2 | 3 | 4 | 5 | 6 => exact Is.monot _
            | 7 => exact New.monot _
            | _ + 8 => exact Is.monot _
          case stept =>
            refine List.forall_mem_cons.2 ⟨?t0, List.forall_mem_cons.2 ⟨?t1, List.forall_mem_cons.2 ⟨?t2, List.forall_mem_cons.2 ⟨?t3, List.forall_mem_cons.2 ⟨?t4, List.forall_mem_cons.2 ⟨?t5, List.forall_mem_cons.2 ⟨?t6, List.forall_mem_cons.2 ⟨?t7, List.forall_mem_nil _⟩⟩⟩⟩⟩⟩⟩⟩
            case t1 =>
              intro x wx hg hC
              have hJ : x 0 = .pointer (some ⟨b1, 1, none⟩) := hC.at 0 (by kernel_rfl)
              clear hC
              have hcl : wx.cell? ⟨b1, 1, none⟩ = some u := by rw [(TV.out.row.step hg).cell]; rfl
              refine wpOp_step rfl (fun K hK => ?_)
              simp only [puts, List.foldl]
              go_simp
              exact hK _ _ ⟨rfl, rfl, hg, Below.refl _ _⟩
            case t5 =>
              intro x wx hg hC
              have hJ : x 4 = .pointer (some ⟨g, j, none⟩) := hC.at 4 (by kernel_rfl)
              clear hC
              have hcl : wx.cell? ⟨g, j, none⟩ = some (.int .i64 (p : Int)) := (hg.cell (p := ⟨g, j, none⟩) PLU.out).trans PD.out
              refine wpOp_step rfl (fun K hK => ?_)
              simp only [puts, List.foldl]
              go_simp
              exact hK _ _ ⟨rfl, rfl, hg, Below.refl _ _⟩
            case t6 =>
              intro x wx hg hC
              have hJ : x 5 = .int .i64 (p : Int) := hC.at 5 (by kernel_rfl)
              clear hC
              refine wpOp_step rfl (fun K hK => ?_)
              simp only [puts, List.foldl]
              go_simp
              refine (RT1.out wx).mono ?_
              rintro e w' ⟨rfl, hb'⟩
              exact hK _ _ ⟨rfl, rfl, hg.next hb', hb'⟩
            all_goals
              intro x wx hg hC
              have hc := hC _ rfl
              clear hC
              simp [Region.binds, Is] at hc
              refine wpOp_step rfl (fun K hK => ?_)
              simp only [puts, List.foldl]
              go_simp
              refine hK _ _ ?_
              clear hK K
              first
                | (refine ⟨rfl, ?_, hg, Below.refl _ _⟩; rfl)
                | (refine ⟨rfl, ?_, hg.alloc hg.size _, alloc_below _ _⟩; exact ⟨wx.heap.size, rfl, Lies.new [_] _ _⟩)
          case fint =>
            intro x w9z hbw9 hφ
            have h1 : x 1 = u := hφ (1, 23) (by decide)
            obtain ⟨bnz, h7, hli⟩ : New [.int .i64 (q1 : Int)] (x 7) w9z := hφ (7, 29) (by decide)
            clear hφ
            simp only [List.length_singleton] at h7
            simp only [puts, List.foldl]
            go_simp
            have T9z : Hid (Two U b1 w9z (.slice a1 (N + 1) c1) u (N + 1) j (sha_nats (firstN.take j) ++ [.int .i64 (q0 : Int)]) (sha_nats (rootsN.take j))) := Lib.hid (TV.out.below hbw9)
            have Z9z := Lib.hid T9z.out.only.size
            have HLIz := Lib.hid hli
            have B9z := Lib.hid hbw9
            clear hli hbw9 h1 h7
            have HPKz : Big (j + 1 ≤ 1099511627776) := ⟨by omega⟩
            have HO1z : Hid ((Value.int .i64 (q1 : Int)).oneCell' = true) := Lib.hid rfl
            have HVCz : Hid (∀ a n c, (Value.slice a n c).cells = #[.slice a n c]) := Lib.hid fun _ _ _ => rfl
            have HVOz : Hid (∀ a n c, (Value.slice a n c).oneCell' = true) := Lib.hid fun _ _ _ => rfl
            go_wp2_with (first
              | ((with_reducible refine wpAppend1K T9z.out.own2 Tryd.underlying25 sha_one_int HLIz.out HO1z.out HPKz Z9z.out ?_ ?_); rfl; intro v1z w1z g1 g2 g3; obtain ⟨a1z, c1z, e1z, _⟩ := own_form g1; have R1z := Lib.hid (T9z.out.grown HBU.out (fun j hj => (T9z.out.own2.lt j hj).1) g2); subst e1z; have G1z := Lib.hid g1; have G2z := Lib.hid g2; have G3z := Lib.hid g3; clear g1 g2 g3)
              | ((with_reducible refine R1z.out.wpStore1K 1 25 (.slice a1z (j + 1) c1z) HSZ.out HL21.out (HVCz.out _ _ _) (HVOz.out _ _ _) ?_ ?_); rfl; intro w2z r2z o2z s2z; have R2z := Lib.hid r2z; have O2z := Lib.hid o2z; clear r2z o2z s2z))
            go_roundw
            case rel =>
              have TE := TV.out.below B9z.out
              exact ⟨j + 1, .slice a1 (N + 1) c1, .slice a1z (j + 1) c1z, by omega, by go_num, by rw [HF1.out.2, HF1.out.1, HR1.out]; exact T9z.out.grow2 HBU.out G1z.out G2z.out G3z.out R2z.out O2z.out⟩
            case measure => simp [intOf]; omega
      · have hj8 : ¬ (j : Int) < 8 := by omega
        have HF2 : Hid (firstN.take (j + 1) = firstN.take j) := Lib.hid (by rw [List.take_of_length_le (by rw [firstN_length]; omega), List.take_of_length_le (by rw [firstN_length]; omega)])
        obtain ⟨N, hN⟩ : ∃ N, (firstN.take j).length = N := ⟨_, rfl⟩
        rw [hN] at htw
        have HN := Lib.hid hN
        clear hp hpb hq0 hq1 hN
        obtain ⟨wy, hwy⟩ : ∃ wy, wy = wr := ⟨_, rfl⟩
        rw [← hwy] at htw ⊢
        clear hwy
        have TV := Lib.hid htw
        have PD : Hid (wy.cell? ⟨g, j, none⟩ = some (.int .i64 (p : Int))) := Lib.hid (by rw [← PCU.out]; exact World.cell?_of_block (a := ⟨g, j, none⟩) (htw.only.2.2.2.2 g HGL.out HGB.out))
        have PLU : Hid (g < wy.heap.size) := Lib.hid (Nat.lt_of_lt_of_le HGL.out htw.only.size)
        have HL21 : Hid (1 < ([v, u] : List Value).length) := Lib.hid (by simp)
        clear htw
        go_wp2
        refine region_tail 8 [(0, 22), (1, 23), (2, 24), (3, 25), (4, 26), (5, 27), (6, 28), (7, 29)]
          (fun i => [Is (.pointer (some ⟨b1, 1, none⟩)), Is u, Is (.slice (some ⟨g, 0, none⟩) 64 cg), Is (.int .i64 (j : Int)), Is (.pointer (some ⟨g, j, none⟩)), Is (.int .i64 (p : Int)), Is (.int .i64 (q1 : Int)), New [.int .i64 (q1 : Int)]].getD i (Is undef))
          (fun w' => Below wy.heap.size wy w') (by kernel_rfl) (by decide) (by kernel_rfl) (by kernel_rfl) (by kernel_rfl) (by decide) (by decide) (by kernel_rfl) rfl ?monoy ((Below.refl _ _).drew) ?stepy ?finy
        case monoy =>
          intro i
          match i with
          | 0 | 1 | 2 | 3 | 4 | 5 | 6 => exact Is.monot _
          | 7 => exact New.monot _
          | _ + 8 => exact Is.monot _
        case stepy =>
          refine List.forall_mem_cons.2 ⟨?y0, List.forall_mem_cons.2 ⟨?y1, List.forall_mem_cons.2 ⟨?y2, List.forall_mem_cons.2 ⟨?y3, List.forall_mem_cons.2 ⟨?y4, List.forall_mem_cons.2 ⟨?y5, List.forall_mem_cons.2 ⟨?y6, List.forall_mem_cons.2 ⟨?y7, List.forall_mem_nil _⟩⟩⟩⟩⟩⟩⟩⟩
          case y1 =>
            intro x wx hg hC
            have hJ : x 0 = .pointer (some ⟨b1, 1, none⟩) := hC.at 0 (by kernel_rfl)
            clear hC
            have hcl : wx.cell? ⟨b1, 1, none⟩ = some u := by rw [(TV.out.row.step hg).cell]; rfl
            refine wpOp_step rfl (fun K hK => ?_)
            simp only [puts, List.foldl]
            go_simp
            exact hK _ _ ⟨rfl, rfl, hg, Below.refl _ _⟩
          case y5 =>
            intro x wx hg hC
            have hJ : x 4 = .pointer (some ⟨g, j, none⟩) := hC.at 4 (by kernel_rfl)
            clear hC
            have hcl : wx.cell? ⟨g, j, none⟩ = some (.int .i64 (p : Int)) := (hg.cell (p := ⟨g, j, none⟩) PLU.out).trans PD.out
            refine wpOp_step rfl (fun K hK => ?_)
            simp only [puts, List.foldl]
            go_simp
            exact hK _ _ ⟨rfl, rfl, hg, Below.refl _ _⟩
          case y6 =>
            intro x wx hg hC
            have hJ : x 5 = .int .i64 (p : Int) := hC.at 5 (by kernel_rfl)
            clear hC
            refine wpOp_step rfl (fun K hK => ?_)
            simp only [puts, List.foldl]
            go_simp
            refine (RT1.out wx).mono ?_
            rintro e w' ⟨rfl, hb'⟩
            exact hK _ _ ⟨rfl, rfl, hg.next hb', hb'⟩
          all_goals
            intro x wx hg hC
            have hc := hC _ rfl
            clear hC
            simp [Region.binds, Is] at hc
            refine wpOp_step rfl (fun K hK => ?_)
            simp only [puts, List.foldl]
            go_simp
            refine hK _ _ ?_
            clear hK K
            first
              | (refine ⟨rfl, ?_, hg, Below.refl _ _⟩; rfl)
              | (refine ⟨rfl, ?_, hg.alloc hg.size _, alloc_below _ _⟩; exact ⟨wx.heap.size, rfl, Lies.new [_] _ _⟩)
        case finy =>
          intro x w9z hbw9 hφ
          have h1 : x 1 = u := hφ (1, 23) (by decide)
          obtain ⟨bnz, h7, hli⟩ : New [.int .i64 (q1 : Int)] (x 7) w9z := hφ (7, 29) (by decide)
          clear hφ
          simp only [List.length_singleton] at h7
          simp only [puts, List.foldl]
          go_simp
          have T9z : Hid (Two U b1 w9z v u N j (sha_nats (firstN.take j)) (sha_nats (rootsN.take j))) := Lib.hid (TV.out.below hbw9)
          have Z9z := Lib.hid T9z.out.only.size
          have HLIz := Lib.hid hli
          have B9z := Lib.hid hbw9
          clear hli hbw9 h1 h7
          have HPKz : Big (j + 1 ≤ 1099511627776) := ⟨by omega⟩
          have HO1z : Hid ((Value.int .i64 (q1 : Int)).oneCell' = true) := Lib.hid rfl
          have HVCz : Hid (∀ a n c, (Value.slice a n c).cells = #[.slice a n c]) := Lib.hid fun _ _ _ => rfl
          have HVOz : Hid (∀ a n c, (Value.slice a n c).oneCell' = true) := Lib.hid fun _ _ _ => rfl
          go_wp2_with (first
            | ((with_reducible refine wpAppend1K T9z.out.own2 Tryd.underlying25 sha_one_int HLIz.out HO1z.out HPKz Z9z.out ?_ ?_); rfl; intro v1z w1z g1 g2 g3; obtain ⟨a1z, c1z, e1z, _⟩ := own_form g1; have R1z := Lib.hid (T9z.out.grown HBU.out (fun j hj => (T9z.out.own2.lt j hj).1) g2); subst e1z; have G1z := Lib.hid g1; have G2z := Lib.hid g2; have G3z := Lib.hid g3; clear g1 g2 g3)
            | ((with_reducible refine R1z.out.wpStore1K 1 25 (.slice a1z (j + 1) c1z) HSZ.out HL21.out (HVCz.out _ _ _) (HVOz.out _ _ _) ?_ ?_); rfl; intro w2z r2z o2z s2z; have R2z := Lib.hid r2z; have O2z := Lib.hid o2z; clear r2z o2z s2z))
          go_roundw
          case rel =>
            exact ⟨j + 1, v, .slice a1z (j + 1) c1z, by omega, by go_num, by rw [HF2.out, HN.out, HR1.out]; exact T9z.out.grow2 HBU.out G1z.out G2z.out G3z.out R2z.out O2z.out⟩
          case measure => simp [intOf]; omega
    · have ej : j = 64 := by omega
      have hf : firstN.take j = firstN := List.take_of_length_le (by rw [firstN_length]; omega)
      have hr : rootsN.take j = rootsN := List.take_of_length_le (by rw [rootsN_length]; omega)
      rw [hf, hr, firstN_length, ej] at htw
      have hk0 : Row wr b0' 27 [.slice none 0 0, .slice none 0 0] := K0U.out.only htw.only (by have := H01.out; omega)
      obtain ⟨av, cv, rfl, lv⟩ := own_form htw.own1
      obtain ⟨au, cu, rfl, lu⟩ := own_form htw.own2
      have R8 := Lib.hid htw.row
      have K8 := Lib.hid hk0
      have OV := Lib.hid htw.own1
      have OU := Lib.hid htw.own2
      have BW : Hid (Below w.heap.size w wr) := Lib.hid (B3.out.trans (htw.only.below (by have := H01.out; have := HB0.out; omega) B3.out.size))
      have HVW : Hid (([.slice av 8 cv, .slice au 64 cu] : List Value).length = 2) := Lib.hid rfl
      have HVO : Hid (([.slice av 8 cv, .slice au 64 cu] : List Value).all (·.oneCell') = true) := Lib.hid rfl
      subst ej
      clear hf hr htw hk0 lv lu hlt hj
      go_wp2_with (first
        | ((with_reducible refine R8.out.wpLoadK 27 FW HVW.out ?_ ?_); rfl)
        | ((with_reducible refine K8.out.wpStoreK 27 [.slice av 8 cv, .slice au 64 cu] FW H22.out HVW.out HVO.out ?_ ?_); rfl; intro m2 r2 o2 s2; have M2 := Lib.hid r2; have O2 := Lib.hid o2; clear r2 o2 s2))
      have hm : Below w.heap.size w m2 := BW.out.trans (O2.out.below (by rw [HB0.out]; exact Nat.le_refl _) BW.out.size)
      refine bodyPost_ret (M2.out.result rfl _ _ rfl Tryd.underlying27 rfl (by rw [HVW.out]; exact FW.size)) rfl ⟨_, rfl, ⟨av, cv, au, cu, rfl, ?_, ?_⟩, hm⟩
      · obtain ⟨a', c', e', l'⟩ := own_form (own_only OV.out O2.out (by have := H01.out; have := HBU.out; omega))
        cases e'
        exact l'
      · obtain ⟨a', c', e', l'⟩ := own_form (own_only OU.out O2.out (by have := H01.out; have := HBU.out; omega))
        cases e'
        exact l'

end Go.Proofs.YtmphjmbnfaimiaaDoor
