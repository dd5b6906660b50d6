/- The walk of PolySums. -/
import Derived.Test.YtligaipkdabmoaaPolyU
import Derived.Test.YtligaipkdabmoaaPolyMath4
namespace Go.Proofs.Ytligaipkdabmoaa
open Go.RowKit GfMath PolyMath
set_option linter.unusedVariables false

def u8l (l : List Nat) : List UInt8 := l.map fun n => UInt8.ofNat n
theorem u8s_bytes {l : List Nat} (h : By l) : u8s l = bytes (u8l l) := by
  simp only [u8s, bytes, u8l, List.map_map]
  refine List.map_congr_left fun x hx => ?_
  have := h x hx
  simp only [Function.comp, UInt8.toNat_ofNat']
  congr 2
  omega
theorem u8l_length (l : List Nat) : (u8l l).length = l.length := by simp [u8l]
theorem conv_u8s {w : World} {B : Nat} {a : Option Addr} {l : List Nat} (hl : By l) (c : Nat) (h : Lies w B a (u8s l)) :
    (convert 28 9 (.slice a l.length c)).run Try.prog w = .ok (.string (str (u8l l))) w := by
  rw [u8s_bytes hl] at h
  cases a with
  | none =>
    by_cases h0 : l.length = 0
    · have : l = [] := List.eq_nil_of_length_eq_zero h0
      subst this
      exact run_convert_bytes_nil w _ _ Try.underlying28 Try.underlying5 _ _ _ Try.underlying9
    · obtain ⟨b, off, e, _⟩ := h (by rw [bytes_length, u8l_length]; omega)
      cases e
  | some ad =>
    have h2 := run_convert_bytes_back (P := Try.prog) w 28 9 5 ad c (u8l l) Try.underlying28 Try.underlying5 Try.underlying9 (fun j hj => by
      obtain ⟨b, off, e, _, h3⟩ := h (by rw [bytes_length]; omega)
      cases e
      rw [Addr.add_lit]
      exact h3 j _ (bytes_get _ j hj))
    rw [u8l_length] at h2
    exact h2
/-- The law's text of all polynomials. -/
def txt (ls : List (List Nat)) : ByteArray := str (ls.flatMap fun l => u8l l ++ [124])
theorem txt_snoc (ls : List (List Nat)) (l : List Nat) : txt (ls ++ [l]) = txt ls ++ (str (u8l l) ++ { data := #[124] }) := by
  have e : ({ data := #[124] } : ByteArray) = str [124] := rfl
  rw [e, str_append, txt, txt, str_append, List.flatMap_append, List.flatMap_cons, List.flatMap_nil, List.append_nil]
theorem txt_le (ls : List (List Nat)) (N : Nat) (h : ∀ l ∈ ls, l.length ≤ N) : (txt ls).size ≤ ls.length * (N + 1) := by
  rw [txt, str_size]
  induction ls with
  | nil => simp
  | cons l ls ih =>
    have h1 := ih fun y hy => h y (by simp [hy])
    have h2 := h l (by simp)
    rw [List.flatMap_cons, List.length_append, List.length_append, u8l_length, List.length_singleton, List.length_cons, Nat.add_mul]
    omega

set_option maxRecDepth 100000 in
set_option maxHeartbeats 4000000 in
theorem polySums_walk (a : Option Addr) (cap : Nat) (ts : List Hd) (ls : List (List Nat)) (w : World) (hp : Polys w ts ls) (hcap : ts.length ≤ cap) (hc2 : cap ≤ 140737488351232) (hr : Lies w w.heap.size a (slvs ts)) :
    Calls Try.prog 3 #[.slice a ts.length cap] w fun e w' => e = .returned (.bool true) ∧ Below w.heap.size w w' := by
  have HG : Hid (∀ u : World, Lies u u.heap.size a (slvs ts) → Calls Try.prog 12 #[.slice a ts.length cap] u fun e w' => e = .returned (.bool (greatB ts)) ∧ u = w') := Lib.hid fun u h => great_any a cap ts u (by omega) (by
    intro t ht
    obtain ⟨i, hi, rfl⟩ := List.mem_iff_getElem.1 ht
    obtain ⟨h1, h2, h3, _⟩ := hp.at_ i hi (by rw [← hp.len]; exact hi)
    omega) h
  have HR := Lib.hid hr
  have HP := Lib.hid hp
  clear hr hp
  by_cases hg : greatB ts = true
  · rw [hg] at HG
    clear hg
    go_enter Try.func3, Try.ntmps3
    go_wp2_with (first
      | (go_at_call 11; (with_reducible refine (awake_any w).mono ?_); rintro e u1 ⟨rfl, b1⟩; have B1 := Lib.hid b1; clear b1)
      | (go_at_call 12; (with_reducible refine (HG.out u1 (HR.out.step B1.out)).mono ?_); rintro e u2 ⟨rfl, rfl⟩))
    go_ret
    exact ⟨rfl, B1.out⟩
  · have hgf : greatB ts = false := by simpa using hg
    rw [hgf] at HG
    have hg2 := hgf
    unfold greatB at hg2
    rw [Bool.or_eq_false_iff] at hg2
    have hn : ls.length ≤ 6 := by
      have := hg2.2
      rw [← HP.out.len]
      simpa using this
    have hl60 : ∀ l ∈ ls, l.length ≤ 60 := by
      intro l hl
      obtain ⟨i, hi, rfl⟩ := List.mem_iff_getElem.1 hl
      have hi2 : i < ts.length := by rw [HP.out.len]; exact hi
      have h1 := (HP.out.at_ i hi2 hi).1
      have h2 := List.any_eq_false.1 hg2.1 ts[i] (List.getElem_mem hi2)
      simp only [decide_eq_true_eq] at h2
      omega
    have hlen : ts.length = ls.length := HP.out.len
    have HLEN := Lib.hid hlen
    have HL60 := Lib.hid hl60
    rw [hlen]
    rw [hlen] at HG
    have h8 : ∀ l ∈ ls, By l := fun l h => HP.out.by l h
    have H8 := Lib.hid h8
    have hni : (ls.length : Int) ≤ 6 := by omega
    have HAD : Hid (∀ (u : World) (b : Nat), Polys u ts ls → Lies u u.heap.size a (slvs ts) → Calls Try.prog 18 #[.pointer (some ⟨b, 0, none⟩), .slice a ls.length cap] u fun e w' => (∃ v, e = .returned v ∧ Reads w' v (addl ls)) ∧ Below u.heap.size u w') := Lib.hid fun u b h1 h2 => padd_any b a cap ts ls u h1 (by omega) (fun l hl => by have := hl60 l hl; omega) h2
    have HMU : Hid (∀ (u : World) (b : Nat), Fld u b → Polys u ts ls → Lies u u.heap.size a (slvs ts) → Calls Try.prog 19 #[.pointer (some ⟨b, 0, none⟩), .slice a ls.length cap] u fun e w' => (∃ v, e = .returned v ∧ Reads w' v (pms ls)) ∧ Below u.heap.size u w') := Lib.hid fun u b h0 h1 h2 => pmul_any b a cap ts ls u h0 h1 (by omega) (fun l hl => by have := hl60 l hl; omega) h2
    have ra := rsum_all ls h8
    have rp := rprod_all ls h8
    have rl := rsum_le ls 60 hl60
    have rpl := rprod_le ls 60 hl60
    have rpl2 : (rprod ls).length ≤ 400 := by have : ls.length * (60 + 1) ≤ 6 * 61 := Nat.mul_le_mul_right _ hn
                                              omega
    have pa := pms_all ls h8
    have HS1 : Hid (∀ (u : World) (a4 : Option Addr) (c4 : Nat) (a5 : Option Addr) (c5 : Nat), (rsum ls).length ≤ c5 → Lies u u.heap.size a4 (u8s (addl ls)) → Lies u u.heap.size a5 (nats (rsum ls)) → Calls Try.prog 17 #[.slice a4 (addl ls).length c4, .slice a5 (rsum ls).length c5] u fun e w' => e = .returned (.bool true) ∧ Below u.heap.size u w') := Lib.hid fun u a4 c4 a5 c5 h5 h6 h7 =>
      same_true a4 a5 c4 c5 _ _ u (addl_by ls h8) ra.1 (by omega) h5 (same_of (addl_can ls) fun k => by rw [addl_cf, ra.2]) h6 h7
    have HS2 : Hid (∀ (u : World) (a4 : Option Addr) (c4 : Nat) (a5 : Option Addr) (c5 : Nat), (rprod ls).length ≤ c5 → Lies u u.heap.size a4 (u8s (pms ls)) → Lies u u.heap.size a5 (nats (rprod ls)) → Calls Try.prog 17 #[.slice a4 (pms ls).length c4, .slice a5 (rprod ls).length c5] u fun e w' => e = .returned (.bool true) ∧ Below u.heap.size u w') := Lib.hid fun u a4 c4 a5 c5 h5 h6 h7 =>
      same_true a4 a5 c4 c5 _ _ u pa.1 rp.1 (by omega) h5 (same_of pa.2 fun k => by rw [rp.2]) h6 h7
    obtain ⟨AD, hAD⟩ : ∃ AD, addl ls = AD := ⟨_, rfl⟩
    obtain ⟨MU, hMU⟩ : ∃ MU, pms ls = MU := ⟨_, rfl⟩
    rw [hAD] at HAD HS1
    rw [hMU] at HMU HS2
    have HT : Hid (∀ k, k ≤ ls.length → (txt (ls.take k)).size ≤ 1000) := Lib.hid fun k hk => by
      have h1 := txt_le (ls.take k) 60 fun l h => hl60 l (List.mem_of_mem_take h)
      rw [List.length_take] at h1
      have h2 : min k ls.length * (60 + 1) ≤ 6 * 61 := Nat.mul_le_mul_right _ (by omega)
      omega
    have H0S : Hid (∀ u : World, ∃ a c, Value.slice (some ⟨u.heap.size, 0, none⟩) 0 0 = .slice a (rsum (ls.take 0)).length c ∧ (rsum (ls.take 0)).length ≤ c) := Lib.hid fun u => ⟨_, _, rfl, Nat.le_refl _⟩
    clear hg hgf hg2 hl60 h8 ra rp rl rpl rpl2 pa hAD hMU hcap hc2 hn
    go_enter Try.func3, Try.ntmps3
    go_wp2_with (first
      | (go_at_call 11; (with_reducible refine (awake_any w).mono ?_); rintro e u1 ⟨rfl, b1⟩; have B1 := Lib.hid b1; clear b1)
      | (go_at_call 12; (with_reducible refine (HG.out u1 (HR.out.step B1.out)).mono ?_); rintro e u2 ⟨rfl, rfl⟩)
      | (go_at_call 13; (with_reducible refine (gfNew_any u1).mono ?_); rintro e u3 ⟨rfl, f3, b3⟩; have F3 := Lib.hid f3; have B3 := Lib.hid (B1.out.next b3); clear f3 b3; generalize u1.heap.size = b at *))
    have HU0 : Hid (IReads ((u3.alloc (.cells #[] 3)).alloc (.cells #[.int .i64 1] 3)) (.slice (some ⟨u3.heap.size, 0, none⟩) 0 0) (rsum (ls.take 0))) := Lib.hid ⟨_, _, rfl, Nat.le_refl _, Lies.nil _ _ _⟩
    have HU1 : Hid (IReads ((u3.alloc (.cells #[] 3)).alloc (.cells #[.int .i64 1] 3)) (.slice (some ⟨u3.heap.size + 1, 0, none⟩) 1 1) (rprod (ls.take 0))) := Lib.hid ⟨some ⟨u3.heap.size + 1, 0, none⟩, 1, rfl, Nat.le_refl _, by
      have h := Lies.new [.int .i64 1] (u3.alloc (.cells #[] 3)) 3
      rw [show (u3.alloc (.cells #[] 3)).heap.size = u3.heap.size + 1 by simp] at h
      exact h⟩
    have HB2 : Hid (Below u3.heap.size u3 ((u3.alloc (.cells #[] 3)).alloc (.cells #[.int .i64 1] 3))) := Lib.hid ((alloc_below _ _).next (alloc_below _ _))
    go_loopw [4, 5, 6, 22] (fun t s p i wr => ∃ k : Nat, k ≤ ls.length ∧ i = .int .i64 k ∧ t = .string (txt (ls.take k)) ∧ IReads wr s (rsum (ls.take k)) ∧ IReads wr p (rprod (ls.take k)) ∧ Below u3.heap.size u3 wr) (fun _ _ _ i _ => ls.length - (intOf i).toNat)
    case atStart => exact ⟨0, Nat.zero_le _, rfl, rfl, HU0.out, HU1.out, HB2.out⟩
    case round =>
      clear HU0 HU1 HB2
      obtain ⟨k, hk, rfl, rfl, ⟨sa, cs, rfl, hcs, hs⟩, ⟨ap, cp, rfl, hcp, hpp⟩, hbw⟩ := hrel
      by_cases hlt : k < ls.length
      · have hk1 : (k : Int) < ls.length := by omega
        obtain ⟨q, c, ht, hqc, hc1, hq8, hql⟩ := HP.out.get k hlt
        have hkt : k < ts.length := by rw [HP.out.len]; exact hlt
        obtain ⟨b2, off, rfl, hbb, hcl⟩ := HR.out (by rw [slvs_length]; omega)
        have hcell : wr.cell? ⟨b2, off + k, none⟩ = some (.slice q ls[k].length c) := by
          have h1 := ((B3.out.next hbw).cell (p := ⟨b2, off + k, none⟩) hbb).trans (hcl k _ (slvs_get ts k hkt))
          rw [ht] at h1
          exact h1
        have hl60 := HL60.out ls[k] (List.getElem_mem hlt)
        have hts := txt_snoc (ls.take k) ls[k]
        have hss := rsum_snoc (ls.take k) ls[k]
        have hps := rprod_snoc (ls.take k) ls[k]
        rw [← take_snoc ls k hlt] at hts hss hps
        have hz1 := HT.out k hk
        have hra := (rsum_all (ls.take k) fun l h => H8.out l (List.mem_of_mem_take h)).1
        have hrp := (rprod_all (ls.take k) fun l h => H8.out l (List.mem_of_mem_take h)).1
        have hrl := rsum_le (ls.take k) 60 fun l h => HL60.out l (List.mem_of_mem_take h)
        have hpl := rprod_le (ls.take k) 60 fun l h => HL60.out l (List.mem_of_mem_take h)
        have hpl2 : (rprod (ls.take k)).length ≤ 400 := by
          rw [List.length_take] at hpl
          have : min k ls.length * (60 + 1) ≤ 6 * 61 := Nat.mul_le_mul_right _ (by omega)
          omega
        have hcv : ∀ u, Below wr.heap.size wr u → (convert 28 9 (.slice q ls[k].length c)).run Try.prog u = .ok (.string (str (u8l ls[k]))) u := fun u hu => conv_u8s hq8 c ((hql.step (B3.out.next hbw)).step hu)
        have hcv0 := hcv wr (Below.refl _ _)
        have hsz : (str (u8l ls[k])).size ≤ 60 := by rw [str_size, u8l_length]; exact hl60
        have hlo8 := lo_by hq8
        have hlol := lo_le ls[k]
        obtain ⟨l, hle⟩ : ∃ l, ls[k] = l := ⟨_, rfl⟩
        rw [hle] at hcell hqc hq8 hql hl60 hts hss hps hcv0 hsz hlo8 hlol
        obtain ⟨R, hRe⟩ : ∃ R, rsum (ls.take k) = R := ⟨_, rfl⟩
        obtain ⟨P, hPe⟩ : ∃ P, rprod (ls.take k) = P := ⟨_, rfl⟩
        obtain ⟨K, hKe⟩ : ∃ K, txt (ls.take k) = K := ⟨_, rfl⟩
        obtain ⟨S1, hS1⟩ : ∃ S1, str (u8l l) = S1 := ⟨_, rfl⟩
        rw [hS1] at hts hcv0 hsz
        rw [hKe] at hts hz1
        rw [hRe] at hs hcs hss hra hrl
        rw [hPe] at hpp hcp hps hrp hpl2
        rw [hRe, hPe, hKe]
        have hsz2 : (S1 ++ ({ data := #[124] } : ByteArray)).size ≤ 61 := by rw [ByteArray.size_append]; have : ({ data := #[124] } : ByteArray).size = 1 := rfl
                                                                             omega
        have hsz3 : ({ data := #[124] } : ByteArray).size ≤ 1 := Nat.le_refl _
        have HOF : Hid (∀ u : World, Lies u u.heap.size q (u8s l) → Calls Try.prog 15 #[.slice q l.length c] u fun e w' => (∃ v, e = .returned v ∧ IReads w' v (lo l)) ∧ Below u.heap.size u w') := Lib.hid fun u hl => of_any q c l u hq8 (by omega) hl
        obtain ⟨O, hO⟩ : ∃ O, lo l = O := ⟨_, rfl⟩
        rw [hO] at HOF hss hps hlo8 hlol
        have HRA : Hid (∀ (u : World) (a4 : Option Addr) (c4 : Nat), Lies u u.heap.size sa (nats R) → Lies u u.heap.size a4 (nats O) → Calls Try.prog 14 #[.slice sa R.length cs, .slice a4 O.length c4] u fun e w' => (∃ v, e = .returned v ∧ IReads w' v (radd R O)) ∧ Below u.heap.size u w') := Lib.hid fun u a4 c4 h1 h2 => radd_any sa a4 cs c4 R O u hra hlo8 (by omega) (by omega) h1 h2
        have HRM : Hid (∀ (u : World) (a4 : Option Addr) (c4 : Nat), Lies u u.heap.size ap (nats P) → Lies u u.heap.size a4 (nats O) → Calls Try.prog 16 #[.slice ap P.length cp, .slice a4 O.length c4] u fun e w' => (∃ v, e = .returned v ∧ IReads w' v (rmul P O)) ∧ Below u.heap.size u w') := Lib.hid fun u a4 c4 h1 h2 => rmulp_any ap a4 cp c4 P O u hrp hlo8 (by omega) (by omega) h1 h2
        have HQ := Lib.hid (hql.step (B3.out.next hbw))
        have HS := Lib.hid hs
        have HPP := Lib.hid hpp
        have HTS := Lib.hid hts
        have HSS := Lib.hid hss
        have HPS := Lib.hid hps
        have HW := Lib.hid hbw
        clear hs hpp hts hss hps hbw hcl hbb ht hqc hc1 hq8 hql hle hra hrp hrl hpl hpl2 hcv hlo8 hlol hRe hPe hKe hS1 hO hcs hcp hl60
        go_wp2_with (first
          | (go_at_call 15; (with_reducible refine (HOF.out wr HQ.out).mono ?_); rintro e x1 ⟨⟨v1, rfl, a1, c1, rfl, _, l1⟩, y1⟩; have L1 := Lib.hid l1; have Y1 := Lib.hid y1; clear l1 y1)
          | (go_at_call 14; (with_reducible refine (HRA.out x1 a1 c1 (HS.out.step Y1.out) L1.out).mono ?_); rintro e x2 ⟨⟨v2, rfl, hv2⟩, y2⟩; have V2 := Lib.hid hv2; have Y2 := Lib.hid (Y1.out.next y2); clear hv2 y2)
          | (go_at_call 15; (with_reducible refine (HOF.out x2 (HQ.out.step Y2.out)).mono ?_); rintro e x3 ⟨⟨v3, rfl, a3, c3, rfl, _, l3⟩, y3⟩; have L3 := Lib.hid l3; have V3 := Lib.hid (V2.out.step y3); have Y3 := Lib.hid (Y2.out.next y3); clear l3 y3)
          | (go_at_call 16; (with_reducible refine (HRM.out x3 a3 c3 (HPP.out.step Y3.out) L3.out).mono ?_); rintro e x4 ⟨⟨v4, rfl, hv4⟩, y4⟩; have V4 := Lib.hid hv4; have V5 := Lib.hid (V3.out.step y4); have Y4 := Lib.hid (Y3.out.next y4); clear hv4 y4))
        go_roundw
        case rel => exact ⟨k + 1, by omega, by go_num, congrArg Value.string HTS.out.symm, by rw [HSS.out]; exact V5.out, by rw [HPS.out]; exact V4.out, HW.out.next Y4.out⟩
        case measure => first | (simp [intOf]; done) | (simp [intOf]; omega)
      · have ek : k = ls.length := by omega
        rw [ek, List.take_of_length_le (Nat.le_refl _)] at hcs hs hcp hpp ⊢
        have hzz := HT.out ls.length (Nat.le_refl _)
        rw [List.take_of_length_le (Nat.le_refl _)] at hzz
        obtain ⟨K, hKe⟩ : ∃ K, txt ls = K := ⟨_, rfl⟩
        obtain ⟨R, hRe⟩ : ∃ R, rsum ls = R := ⟨_, rfl⟩
        obtain ⟨P, hPe⟩ : ∃ P, rprod ls = P := ⟨_, rfl⟩
        rw [hRe] at hs hcs HS1
        rw [hPe] at hpp hcp HS2
        rw [hRe, hPe, hKe]
        have HKE := Lib.hid hKe
        have HS := Lib.hid hs
        have HPP := Lib.hid hpp
        have HCS := Lib.hid hcs
        have HCP := Lib.hid hcp
        have HW := Lib.hid hbw
        have HBW : Hid (Below w.heap.size w wr) := Lib.hid (B3.out.next hbw)
        have HFW : Hid (Fld wr b) := Lib.hid (F3.out.step hbw)
        clear hs hpp hcs hcp hbw ek hlt hk hKe hRe hPe hzz
        go_wp2_with (first
          | (go_at_call 18; (with_reducible refine (HAD.out wr b (HP.out.step HBW.out) (HR.out.step HBW.out)).mono ?_); rintro e x1 ⟨⟨v1, rfl, a1, c1, rfl, _, l1⟩, y1⟩; have L1 := Lib.hid l1; have Y1 := Lib.hid y1; clear l1 y1)
          | (go_at_call 17; (with_reducible refine (HS1.out x1 a1 c1 sa cs HCS.out L1.out (HS.out.step Y1.out)).mono ?_); rintro e x2 ⟨rfl, y2⟩; have Y2 := Lib.hid (Y1.out.next y2); clear y2)
          | (go_at_call 19; (with_reducible refine (HMU.out x2 b (HFW.out.step Y2.out) (HP.out.step (HBW.out.next Y2.out)) (HR.out.step (HBW.out.next Y2.out))).mono ?_); rintro e x3 ⟨⟨v3, rfl, a3, c3, rfl, _, l3⟩, y3⟩; have L3 := Lib.hid l3; have Y3 := Lib.hid (Y2.out.next y3); clear l3 y3)
          | (go_at_call 17; (with_reducible refine (HS2.out x3 a3 c3 ap cp HCP.out L3.out (HPP.out.step Y3.out)).mono ?_); rintro e x4 ⟨rfl, y4⟩; have Y4 := Lib.hid (Y3.out.next y4); clear y4))
        go_loop [10, 54] (fun t i => ∃ k : Nat, k ≤ ls.length ∧ i = .int .i64 k ∧ t = .string (txt (ls.take k))) (fun _ i => ls.length - (intOf i).toNat)
        case atStart => exact ⟨0, Nat.zero_le _, rfl, rfl⟩
        case round =>
          obtain ⟨k, hk, rfl, rfl⟩ := hrel
          by_cases hlt : k < ls.length
          · have hk1 : (k : Int) < ls.length := by omega
            obtain ⟨q, c, ht, hqc, hc1, hq8, hql⟩ := HP.out.get k hlt
            have hkt : k < ts.length := by rw [HP.out.len]; exact hlt
            obtain ⟨b2, off, rfl, hbb, hcl⟩ := HR.out (by rw [slvs_length]; omega)
            have hcell : x4.cell? ⟨b2, off + k, none⟩ = some (.slice q ls[k].length c) := by
              have h1 := ((HBW.out.next Y4.out).cell (p := ⟨b2, off + k, none⟩) hbb).trans (hcl k _ (slvs_get ts k hkt))
              rw [ht] at h1
              exact h1
            have hl60 := HL60.out ls[k] (List.getElem_mem hlt)
            have hts := txt_snoc (ls.take k) ls[k]
            rw [← take_snoc ls k hlt] at hts
            have hz1 := HT.out k hk
            have hcv0 : (convert 28 9 (.slice q ls[k].length c)).run Try.prog x4 = .ok (.string (str (u8l ls[k]))) x4 := conv_u8s hq8 c (hql.step (HBW.out.next Y4.out))
            have hsz : (str (u8l ls[k])).size ≤ 60 := by rw [str_size, u8l_length]; exact hl60
            obtain ⟨l, hle⟩ : ∃ l, ls[k] = l := ⟨_, rfl⟩
            rw [hle] at hcell hts hcv0 hsz
            obtain ⟨K2, hKe⟩ : ∃ K2, txt (ls.take k) = K2 := ⟨_, rfl⟩
            obtain ⟨S1, hS1⟩ : ∃ S1, str (u8l l) = S1 := ⟨_, rfl⟩
            rw [hS1] at hts hcv0 hsz
            rw [hKe] at hts hz1
            rw [hKe]
            have hsz2 : (S1 ++ ({ data := #[124] } : ByteArray)).size ≤ 61 := by rw [ByteArray.size_append]; have : ({ data := #[124] } : ByteArray).size = 1 := rfl
                                                                                 omega
            have hsz3 : ({ data := #[124] } : ByteArray).size ≤ 1 := Nat.le_refl _
            have HTS := Lib.hid hts
            clear hts hcl hbb ht hqc hc1 hq8 hql hle hKe hS1 hl60
            go_wp2
            go_round
            case rel => exact ⟨k + 1, by omega, by go_num, congrArg Value.string HTS.out.symm⟩
            case measure => first | (simp [intOf]; done) | (simp [intOf]; omega)
          · have ek : k = ls.length := by omega
            rw [ek, List.take_of_length_le (Nat.le_refl _), HKE.out]
            clear ek hlt hk
            go_wp2
            go_ret
            exact ⟨rfl, HBW.out.next Y4.out⟩

end Go.Proofs.Ytligaipkdabmoaa
