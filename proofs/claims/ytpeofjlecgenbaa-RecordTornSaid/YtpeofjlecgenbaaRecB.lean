/- lay and Put of the program. -/
import Derived.Test.YtpeofjlecgenbaaRecA
import Derived.Test.YtpeofjlecgenbaaBd
import Derived.Lib.MinMax
namespace Go.Proofs.Ytpeofjlecgenbaa
open Go.RowKit CrcMath NumMath
set_option linter.unusedVariables false
set_option maxRecDepth 100000

def layB (l : List (Nat × Int)) : List UInt8 := l.flatMap fun p => be p.1 p.2.toNat
theorem layB_snoc (l : List (Nat × Int)) (p : Nat × Int) : layB (l ++ [p]) = layB l ++ be p.1 p.2.toNat := by simp [layB]
def layOk (p : Nat × Int) : Prop := 1 ≤ p.1 ∧ p.1 ≤ 7 ∧ fitB p.1 p.2 = true
theorem layB_length (l : List (Nat × Int)) (h : ∀ p ∈ l, layOk p) : (layB l).length ≤ 7 * l.length := by
  induction l with
  | nil => simp [layB]
  | cons p l ih =>
    have h1 := ih fun q hq => h q (List.mem_cons_of_mem _ hq)
    have h2 := h p (List.mem_cons_self ..)
    have e : layB (p :: l) = be p.1 p.2.toNat ++ layB l := by simp [layB]
    rw [e, List.length_append, be_length, List.length_cons]
    unfold layOk at h2
    omega

set_option maxHeartbeats 1000000 in
theorem rec_lay_any (a : Option Addr) (n cap : Nat) (l : List (Nat × Int)) (w : World) (hn : l.length = n) (hl : n ≤ 1000) (hb : ∀ p ∈ l, layOk p) (hr : Lies w w.heap.size a (prs l)) :
    Calls Try.prog 25 #[.slice a n cap] w fun e w' => e = .returned (.string (str (layB l))) ∧ Below w.heap.size w w' := by
  have HR := Lib.hid hr
  have HB0 := Lib.hid (Bd.new w)
  clear hr
  go_enter Try.func25, Try.ntmps25
  go_wp2
  go_loopw [10] (fun i wr => ∃ k : Nat, k ≤ n ∧ i = .int .i64 k ∧ Bd w.heap.size w.heap.size (layB (l.take k)) wr ∧ Below w.heap.size w wr) (fun i _ => n - (intOf i).toNat)
  case atStart => exact ⟨0, by omega, rfl, HB0.out, alloc_below _ _⟩
  case round =>
    obtain ⟨k, hk, rfl, hbd, hbw⟩ := hrel
    by_cases hlt : k < n
    · have hkl : k < l.length := by omega
      obtain ⟨bl, off, rfl, hbb, hc⟩ := HR.out (by rw [prs_length]; omega)
      obtain ⟨b, x, hp⟩ : ∃ b x, l[k] = (b, x) := ⟨_, _, rfl⟩
      have hok : layOk (b, x) := by have := hb _ (List.getElem_mem hkl); rw [hp] at this; exact this
      have HRG : Hid (wr.rangeAt bl (off + k * 2) [.int .i64 (b : Int), .int .i64 x]) := Lib.hid (by
        have := Lies.pair (w := wr) (fun j u hj => (hbw.cell (p := ⟨bl, off + j, none⟩) hbb).trans (hc j u hj)) k hkl
        rw [hp] at this
        exact this)
      obtain ⟨T, hT⟩ : ∃ T, str (be b x.toNat) = T := ⟨_, rfl⟩
      have HTL : Hid (T.data.toList = be b x.toNat) := Lib.hid (by rw [← hT, str_list])
      have HTZ : T.size ≤ 7 := by rw [← hT, str_size, be_length]; exact hok.2.1
      have HP : Hid (∀ u, Calls Try.prog 45 #[.int .i64 (b : Int), .slice (some ⟨u.heap.size, 0, none⟩) 1 1] (u.alloc (.cells #[.int .i64 x] 3)) fun e u' => e = .returned (.tuple #[.string T, .int .i64 0]) ∧ Below u.heap.size u u') := Lib.hid fun u => by
        rw [← hT]
        exact (put_at (b : Int) _ 1 1 [x] _ 0 (u.alloc (.cells #[.int .i64 x] 3)) rfl (by rw [putR_ok (okB_yes (by have := hok.1; omega) (by have := hok.2.1; omega)) (by simp [fitAll, hok.2.2])]; simp [putBytes]) (by omega) (Lies.new (ints [x]) u 3)).mono fun e u' h => ⟨h.1, (alloc_below u _).next h.2⟩
      have HT : Hid (layB (l.take (k + 1)) = layB (l.take k) ++ be b x.toNat) := Lib.hid (by rw [take_snoc l k hkl, hp, layB_snoc])
      have HZ : Hid ((layB (l.take k)).length + T.size ≤ 1099511627776) := Lib.hid (by
        have := layB_length (l.take k) fun p h => hb p (List.mem_of_mem_take h)
        rw [List.length_take] at this
        omega)
      have HBD := Lib.hid hbd
      have HBW := Lib.hid hbw
      obtain ⟨D, hD⟩ : ∃ D, layB (l.take k) = D := ⟨_, rfl⟩
      rw [hD] at HT HBD HZ
      clear hc hbw hbd hp hn hb hok hT hD HTZ
      go_wp2_with (first
        | ((with_reducible refine wpLoadRK HRG.out 66 fits_two rfl ?_ ?_); rfl)
        | ((with_reducible refine wpAllocK (w := wr) [.int .i64 0, .int .i64 0] 66 zero_two ?_ ?_); rfl; intro u1 r1 b1 s1; have R1 := Lib.hid r1; have W1 := Lib.hid b1; have B1 : Hid (Below w.heap.size w u1) := Lib.hid (HBW.out.next b1); clear r1 b1 s1)
        | ((with_reducible refine R1.out.wpStoreK 66 [.int .i64 (b : Int), .int .i64 x] fits_two rfl rfl rfl ?_ ?_); rfl; intro u2 r2 o2 s2; have c0 : u2.cell? ⟨wr.heap.size, 0, none⟩ = some (.int .i64 (b : Int)) := r2.cell 0; have c1 : u2.cell? ⟨wr.heap.size, 1, none⟩ = some (.int .i64 x) := r2.cell 1; have B2 : Hid (Below w.heap.size w u2) := Lib.hid (B1.out.trans (o2.below HBW.out.size B1.out.size)); have D2 : Hid (Bd w.heap.size w.heap.size D u2) := Lib.hid (HBD.out.below (W1.out.trans (o2.below (Nat.le_refl _) W1.out.size))); clear r2 o2 s2)
        | (go_at_call 45; (with_reducible refine (HP.out u2).mono ?_); rintro e u3 ⟨rfl, b3⟩; have D3 : Hid (Bd w.heap.size w.heap.size D u3) := Lib.hid (D2.out.below b3); have B3 : Hid (Below w.heap.size w u3) := Lib.hid (B2.out.next b3); clear b3)
        | (go_at_call 35; (with_reducible refine (bwriteS_any _ _ D T _ u3 HTL.out D3.out HZ.out B3.out.size).mono ?_); rintro e u4 ⟨rfl, d4, b4⟩; have D4 := Lib.hid d4; have B4 : Hid (Below w.heap.size w u4) := Lib.hid (B3.out.trans b4); clear d4 b4))
      go_roundw
      case rel => exact ⟨k + 1, by omega, by go_num, by rw [HT.out]; exact D4.out, B4.out⟩
      case measure => simp [intOf]; omega
    · have HE : Hid (l.take k = l) := Lib.hid (List.take_of_length_le (by omega))
      rw [HE.out] at hbd
      have HS := Lib.hid (Try.Builder_String_any w.heap.size w.heap.size (layB l) wr hbd hbw.size)
      clear hbd
      go_wp2_with (go_at_call 37; (with_reducible refine HS.out.mono ?_); rintro e w3 ⟨rfl, hb3⟩)
      go_ret
      exact ⟨rfl, hbw.trans hb3⟩

/-- A record in memory: its four cells. -/
theorem rcv_length (k s n v : Int) : (rcv k s n v).length = 4 := rfl
theorem rcv_one (k s n v : Int) : (rcv k s n v).all (·.oneCell') = true := rfl

theorem rec_put_nil (k s n v : Int) (w : World) :
    Calls Try.prog 9 #[.pointer none, .agg (rcv k s n v).toArray] w fun e w' => e = .returned (.tuple #[.string ByteArray.empty, .int .i64 1]) ∧ Below w.heap.size w w' := by
  obtain ⟨V, hV⟩ : ∃ V, rcv k s n v = V := ⟨_, rfl⟩
  rw [hV]
  clear hV
  go_enter Try.func9, Try.ntmps9
  go_wp2_with (first
    | ((with_reducible refine wpBoxK V 23 ?_ ?_); rfl; intro u1 r1 b1 s1; have B1 := Lib.hid b1; clear r1 b1 s1))
  go_ret2
  exact ⟨rfl, B1.out⟩

theorem rec_put_no (b : Nat) (k s n v : Int) (w : World) (hok : rOk k s n v = false) :
    Calls Try.prog 9 #[.pointer (some ⟨b, 0, none⟩), .agg (rcv k s n v).toArray] w fun e w' => e = .returned (.tuple #[.string ByteArray.empty, .int .i64 1]) ∧ Below w.heap.size w w' := by
  have HRT : Hid (∀ u, Calls Try.prog 11 #[.agg (rcv k s n v).toArray] u fun e u' => e = .returned (.bool false) ∧ Below u.heap.size u u') := Lib.hid fun u => by rw [← hok]; exact rec_right_any k s n v u
  have HL : Hid ((rcv k s n v).length = 4) := Lib.hid rfl
  obtain ⟨V, hV⟩ : ∃ V, rcv k s n v = V := ⟨_, rfl⟩
  rw [hV] at HRT HL ⊢
  clear hV hok
  go_enter Try.func9, Try.ntmps9
  go_wp2_with (first
    | ((with_reducible refine wpBoxK V 23 ?_ ?_); rfl; intro u1 r1 b1 s1; have R1 := Lib.hid r1; have B1 := Lib.hid b1; clear r1 b1 s1)
    | ((with_reducible refine R1.out.wpLoadG 23 fits_rec HL.out ?_ ?_); rfl)
    | (go_at_call 11; (with_reducible refine (HRT.out u1).mono ?_); rintro e u2 ⟨rfl, b2⟩; have B2 : Hid (Below w.heap.size w u2) := Lib.hid (B1.out.next b2); clear b2))
  go_ret2
  exact ⟨rfl, B2.out⟩

theorem lay_txt {k s n v : Int} (h : rOk k s n v = true) : layB [((1 : Nat), k), (1, s), (2, n), (6, v), (2, 0)] = txtB k s n v ∧ ∀ p ∈ [((1 : Nat), k), (1, s), (2, n), (6, v), (2, 0)], layOk p := by
  obtain ⟨h1, h2, h3, h4, h5, h6, h7, h8⟩ := rOk_is h
  refine ⟨by simp [layB, txtB], fun p hp => ?_⟩
  have f1 : (256 : Int) ^ (1 : Nat) = 256 := rfl
  have f2 : (256 : Int) ^ (2 : Nat) = 65536 := rfl
  have f6 : (256 : Int) ^ (6 : Nat) = 281474976710656 := rfl
  simp only [List.mem_cons, List.not_mem_nil, or_false] at hp
  rcases hp with rfl | rfl | rfl | rfl | rfl <;> simp only [layOk, fitB, Int.toNat_natCast, f1, f2, f6, decide_eq_true_eq] <;> omega
theorem lay_sum (l : List UInt8) : layB [((4 : Nat), sumM l)] = be 4 (sumM l).toNat ∧ ∀ p ∈ [((4 : Nat), sumM l)], layOk p := by
  have := sumM_bd l
  refine ⟨by simp [layB], fun p hp => ?_⟩
  have f4 : (256 : Int) ^ (4 : Nat) = 4294967296 := rfl
  simp only [List.mem_cons, List.not_mem_nil, or_false] at hp
  subst hp
  simp only [layOk, fitB, Int.toNat_natCast, f4, decide_eq_true_eq]
  omega
theorem sumM_min (l : List UInt8) : min (sumI l) 4294967294 = sumM l := by
  have := sumI_bd l
  unfold sumM
  split <;> omega

set_option maxHeartbeats 1000000 in
theorem rec_put_yes (b : Nat) (k s n v : Int) (w : World) (ht : Tab w b 0) (hb : b < w.heap.size) (hok : rOk k s n v = true) :
    Calls Try.prog 9 #[.pointer (some ⟨b, 0, none⟩), .agg (rcv k s n v).toArray] w fun e w' => e = .returned (.tuple #[.string (str (pageB k s n v)), .int .i64 0]) ∧ Below w.heap.size w w' := by
  have HRT : Hid (∀ u, Calls Try.prog 11 #[.agg (rcv k s n v).toArray] u fun e u' => e = .returned (.bool true) ∧ Below u.heap.size u u') := Lib.hid fun u => by rw [← hok]; exact rec_right_any k s n v u
  have HL : Hid ((rcv k s n v).length = 4) := Lib.hid rfl
  obtain ⟨hl1, hl2⟩ := lay_txt hok
  obtain ⟨hm1, hm2⟩ := lay_sum (txtB k s n v)
  obtain ⟨T, hT⟩ : ∃ T, str (txtB k s n v) = T := ⟨_, rfl⟩
  obtain ⟨M, hM⟩ : ∃ M, str (be 4 (sumM (txtB k s n v)).toNat) = M := ⟨_, rfl⟩
  obtain ⟨x, hx⟩ : ∃ x, sumI (txtB k s n v) = x := ⟨_, rfl⟩
  obtain ⟨m, hm⟩ : ∃ m, sumM (txtB k s n v) = m := ⟨_, rfl⟩
  have hmin : min x 4294967294 = m := by rw [← hx, ← hm]; exact sumM_min _
  have zT : T.size = 12 := by rw [← hT, str_size, txtB_length]
  have zM : M.size = 4 := by rw [← hM, str_size, be_length]
  have HRES : Hid (T ++ M = str (pageB k s n v)) := Lib.hid (by rw [← hT, ← hM, str_append]; rfl)
  have HL1 : Hid (∀ u, Calls Try.prog 25 #[.slice (some ⟨u.heap.size, 0, none⟩) 5 5] (u.alloc (.cells #[.int .i64 1, .int .i64 k, .int .i64 1, .int .i64 s, .int .i64 2, .int .i64 n, .int .i64 6, .int .i64 v, .int .i64 2, .int .i64 0] 66)) fun e u' => e = .returned (.string T) ∧ Below u.heap.size u u') := Lib.hid fun u => by
    rw [← hT, ← hl1]
    exact (rec_lay_any _ 5 5 _ _ rfl (by omega) hl2 (Lies.new (prs [((1 : Nat), k), (1, s), (2, n), (6, v), (2, 0)]) u 66)).mono fun e u' h => ⟨h.1, (alloc_below u _).next h.2⟩
  have HL2 : Hid (∀ u, Calls Try.prog 25 #[.slice (some ⟨u.heap.size, 0, none⟩) 1 1] (u.alloc (.cells #[.int .i64 4, .int .i64 m] 66)) fun e u' => e = .returned (.string M) ∧ Below u.heap.size u u') := Lib.hid fun u => by
    rw [← hM, ← hm1, ← hm]
    exact (rec_lay_any _ 1 1 _ _ rfl (by omega) hm2 (Lies.new (prs [((4 : Nat), sumM (txtB k s n v))]) u 66)).mono fun e u' h => ⟨h.1, (alloc_below u _).next h.2⟩
  have HSM : Hid (∀ u, Tab u b 0 → b < u.heap.size → Calls Try.prog 26 #[.pointer (some ⟨b, 0, none⟩), .slice (some ⟨u.heap.size, 0, none⟩) 1 1] (u.alloc (.cells #[.string T] 9)) fun e u' => e = .returned (.int .i64 x) ∧ Below u.heap.size u u') := Lib.hid fun u h1 h2 => by
    refine (sum_at b _ 1 1 [T] (u.alloc (.cells #[.string T] 9)) rfl (h1.below (alloc_below u _) h2) (Nat.lt_of_lt_of_le h2 (alloc_below u _).size) (by omega) (by intro s hs; simp at hs; subst hs; unfold maxLen; omega) (Lies.new (strs [T]) u 9)).mono fun e u' h => ⟨?_, (alloc_below u _).next h.2⟩
    rw [h.1, cat_one, ← hT, str_list, hx]
  have HT0 := Lib.hid ht
  have HB0 := Lib.hid hb
  obtain ⟨V, hV⟩ : ∃ V, rcv k s n v = V := ⟨_, rfl⟩
  have H0 : Hid (V[0]? = some (.int .i64 k)) := Lib.hid (by rw [← hV]; rfl)
  have H1 : Hid (V[1]? = some (.int .i64 s)) := Lib.hid (by rw [← hV]; rfl)
  have H2 : Hid (V[2]? = some (.int .i64 n)) := Lib.hid (by rw [← hV]; rfl)
  have H3 : Hid (V[3]? = some (.int .i64 v)) := Lib.hid (by rw [← hV]; rfl)
  rw [← HRES.out]
  rw [hV] at HRT HL ⊢
  clear hV hok hl1 hl2 hm1 hm2 hT hM hx hm ht hb HRES
  go_enter Try.func9, Try.ntmps9
  go_wp2_with (first
    | ((with_reducible refine wpBoxK V 23 ?_ ?_); rfl; intro u1 r1 b1 s1; have R1 := Lib.hid r1; have B1 := Lib.hid b1; clear r1 b1 s1)
    | ((with_reducible refine R1.out.wpLoadG 23 fits_rec HL.out ?_ ?_); rfl)
    | (go_at_call 11; (with_reducible refine (HRT.out u1).mono ?_); rintro e u2 ⟨rfl, b2⟩; have B2 : Hid (Below w.heap.size w u2) := Lib.hid (B1.out.next b2); have R2 := R1.out.step b2; have c0 : u2.cell? ⟨w.heap.size, 0, none⟩ = some (.int .i64 k) := (R2.cell 0).trans H0.out; have c1 : u2.cell? ⟨w.heap.size, 1, none⟩ = some (.int .i64 s) := (R2.cell 1).trans H1.out; have c2 : u2.cell? ⟨w.heap.size, 2, none⟩ = some (.int .i64 n) := (R2.cell 2).trans H2.out; have c3 : u2.cell? ⟨w.heap.size, 3, none⟩ = some (.int .i64 v) := (R2.cell 3).trans H3.out; clear b2 R2)
    | (go_at_call 25; (with_reducible refine (HL1.out u2).mono ?_); rintro e u3 ⟨rfl, b3⟩; have B3 : Hid (Below w.heap.size w u3) := Lib.hid (B2.out.next b3); have T3 : Hid (Tab u3 b 0) := Lib.hid (HT0.out.below B3.out HB0.out); have Z3 : Hid (b < u3.heap.size) := Lib.hid (Nat.lt_of_lt_of_le HB0.out B3.out.size); clear b3)
    | (go_at_call 26; (with_reducible refine (HSM.out u3 T3.out Z3.out).mono ?_); rintro e u4 ⟨rfl, b4⟩; have B4 : Hid (Below w.heap.size w u4) := Lib.hid (B3.out.next b4); clear b4)
    | (go_at_call 25; (with_reducible refine (HL2.out u4).mono ?_); rintro e u5 ⟨rfl, b5⟩; have B5 : Hid (Below w.heap.size w u5) := Lib.hid (B4.out.next b5); clear b5))
  go_ret2
  exact ⟨rfl, B5.out⟩

/-- Put, whatever the record. -/
def putE (k s n v : Int) : ByteArray × Int := if rOk k s n v then (str (pageB k s n v), 0) else (ByteArray.empty, 1)
theorem rec_put_any (b : Nat) (k s n v : Int) (w : World) (ht : Tab w b 0) (hb : b < w.heap.size) (T : ByteArray) (E : Int) (h : putE k s n v = (T, E)) :
    Calls Try.prog 9 #[.pointer (some ⟨b, 0, none⟩), .agg (rcv k s n v).toArray] w fun e w' => e = .returned (.tuple #[.string T, .int .i64 E]) ∧ Below w.heap.size w w' := by
  unfold putE at h
  cases hr : rOk k s n v with
  | true =>
    rw [hr, if_pos rfl] at h
    obtain ⟨rfl, rfl⟩ := Prod.mk.inj h
    exact rec_put_yes b k s n v w ht hb hr
  | false =>
    rw [hr, if_neg (by decide)] at h
    obtain ⟨rfl, rfl⟩ := Prod.mk.inj h
    exact rec_put_no b k s n v w hr
end Go.Proofs.Ytpeofjlecgenbaa
