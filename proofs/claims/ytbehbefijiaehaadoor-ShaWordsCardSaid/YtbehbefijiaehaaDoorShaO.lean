/- Contract of sha's Parse. -/
import Derived.Test.YtbehbefijiaehaaDoorShaJ
import Derived.Test.YtbehbefijiaehaaDoorShaHex
import Derived.Test.YtbehbefijiaehaaDoorShelf
namespace Go.Proofs.YtbehbefijiaehaaDoor
open Go.RowKit ShaMath

theorem index_digit (c : UInt8) : Lib.indexByte [48, 49, 50, 51, 52, 53, 54, 55, 56, 57, 97, 98, 99, 100, 101, 102] c = (match digit? c with | some v => (v : Int) | none => -1) := by
  have key : ∀ n : Fin 256, Lib.indexByte [48, 49, 50, 51, 52, 53, 54, 55, 56, 57, 97, 98, 99, 100, 101, 102] (UInt8.ofNat n.val) = (match digit? (UInt8.ofNat n.val) with | some v => (v : Int) | none => -1) := by decide +kernel
  have := key ⟨c.toNat, c.toNat_lt⟩
  simpa using this
theorem find_any (c : UInt8) (w : World) :
    Calls Tryd.prog 31 #[.string { data := #[48, 49, 50, 51, 52, 53, 54, 55, 56, 57, 97, 98, 99, 100, 101, 102] }, .int .u8 (c.toNat : Int)] w fun e w' => e = .returned (.int .i64 (match digit? c with | some v => (v : Int) | none => -1)) ∧ w = w' := by
  refine (Tryd.strings_IndexByte _ _ w).mono fun e w' h => ⟨?_, h.2.symm⟩
  rw [h.1]
  have e1 : ((c.toNat : Int).toNat.toUInt8) = c := by simp
  rw [e1]
  exact ret_int (index_digit c)

theorem find_yes (c z : UInt8) (v : Nat) (h : digit? c = some v) (hz : z = UInt8.ofNat v) (w : World) :
    Calls Tryd.prog 31 #[.string { data := #[48, 49, 50, 51, 52, 53, 54, 55, 56, 57, 97, 98, 99, 100, 101, 102] }, .int .u8 (c.toNat : Int)] w fun e w' => e = .returned (.int .i64 (z.toNat : Int)) ∧ w = w' := by
  refine (find_any c w).mono fun e w' x => ⟨?_, x.2⟩
  have hv := digit_lt h
  rw [x.1, h, hz]
  refine ret_int ?_
  show (v : Int) = _
  rw [UInt8.toNat_ofNat']
  omega
theorem find_no (c : UInt8) (h : digit? c = none) (w : World) :
    Calls Tryd.prog 31 #[.string { data := #[48, 49, 50, 51, 52, 53, 54, 55, 56, 57, 97, 98, 99, 100, 101, 102] }, .int .u8 (c.toNat : Int)] w fun e w' => e = .returned (.int .i64 (-1)) ∧ w = w' := by
  refine (find_any c w).mono fun e w' x => ⟨?_, x.2⟩
  rw [x.1, h]

/-- What Parse tells. -/
def parseV (S : List UInt8) : List UInt8 := if wordB S then nibs S 64 else List.replicate 32 0
theorem parseV_length (S : List UInt8) : (parseV S).length = 32 := by
  unfold parseV
  split
  · exact nibs_length _ _
  · simp
theorem built_hash : Tryd.prog.built 31 [] = some (bytes (List.replicate 32 0)).toArray := by kernel_rfl
theorem Row.result2 {w : World} {g : Nat} {t : TypeId} {l : List Value} (h : Row w g t l) {fn : Func} {p q : Tmp} {ty : TypeId} (hf : fn.results = #[.cell p ty, .tmp q]) (tmps : Array Value) (d : TypeDesc)
    (hp : tmps.getD p undef = .pointer (some ⟨g, 0, none⟩)) (hu : Tryd.prog.underlying ty = some d) (hd : d.isRow = true) (hi : (Tryd.prog.info? ty).map (·.size) = some l.length) :
    (results fn tmps).run Tryd.prog w = .ok (.tuple #[.agg l.toArray, tmps.getD q undef]) w := by
  have hp' : tmps[p]?.getD undef = .pointer (some ⟨g, 0, none⟩) := by simpa using hp
  have := run_loadVar_row (P := Tryd.prog) w g t ty l.toArray (0, 0) d h hu (by cases d <;> simp_all) (by simpa using hi)
  simp [results, hf, hp', asAddr, this]

theorem nib_step (x : UInt8) : ((x.toNat : Int) * (16 : Int)) % (256 : Int) = ((x <<< 4).toNat : Int) := by
  have key : ∀ n : Fin 256, (((UInt8.ofNat n.val).toNat : Int) * (16 : Int)) % (256 : Int) = (((UInt8.ofNat n.val) <<< 4).toNat : Int) := by decide +kernel
  have := key ⟨x.toNat, x.toNat_lt⟩
  simpa using this
theorem or_u8 (a b : UInt8) : bits .or .u8 (a.toNat : Int) (b.toNat : Int) = ((a ||| b).toNat : Int) := by
  have h1 := a.toNat_lt
  have h2 := b.toNat_lt
  rw [u8_or_nat _ _ (by omega) (by omega), UInt8.toNat_or]

set_option maxHeartbeats 2000000 in
theorem parse_any (s : ByteArray) (w : World) :
    Calls Tryd.prog 20 #[.string s] w fun e w' => e = .returned (.tuple #[.agg (bytes (parseV s.data.toList)).toArray, .bool (wordB s.data.toList)]) ∧ Below w.heap.size w w' := by
  obtain ⟨O, hO⟩ : ∃ O : List UInt8, O = List.replicate 32 0 := ⟨_, rfl⟩
  have HZ : Hid (∀ u, (zeroValue 31).run Tryd.prog u = .ok (.agg (bytes O).toArray) u) := Lib.hid (by rw [hO]; exact zero32)
  have HBU : Hid (Tryd.prog.built 31 [] = some (bytes O).toArray) := Lib.hid (by rw [hO]; exact built_hash)
  have LO : Hid ((bytes O).length = 32) := Lib.hid (by rw [bytes_length, hO]; simp)
  have H1 : Hid ((bytes O).all (·.oneCell') = true) := Lib.hid (bytes_one _)
  have HNO : Hid (∀ S, wordB S = false → parseV S = O) := Lib.hid fun S h => by rw [parseV, h, hO]; rfl
  have HO := Lib.hid hO
  clear hO
  by_cases h64 : s.size = 64
  · have hl : s.data.toList.length = 64 := by rw [size_list, h64]
    have hne : ((s.size : Int) != 64) = false := by simp [h64]
    have hne2 : (s.size : Int) = 64 := by omega
    obtain ⟨n, hn⟩ : ∃ n, s.size = n := ⟨_, rfl⟩
    have HL := Lib.hid hl
    have HN64 : Hid (s.size = 64) := Lib.hid h64
    clear hl h64 hn
    go_enter Tryd.func20, Tryd.ntmps20
    go_wp2_with (first
      | ((with_reducible refine wpAllocK (w := w) (bytes O) 31 HZ.out ?_ ?_); rfl; intro u1 r1 b1 s1; have R1 := Lib.hid r1; have B1 := Lib.hid b1; have S1 := Lib.hid s1; clear r1 b1 s1)
      | ((with_reducible refine wpAllocK (w := u1) (bytes O) 31 HZ.out ?_ ?_); rfl; intro u2 r2 b2 s2; have R2 := Lib.hid r2; have B2 : Hid (Below w.heap.size w u2) := Lib.hid (B1.out.next b2); have Q2 := Lib.hid (R1.out.step b2); clear r2 b2 s2))
    obtain ⟨M, hM⟩ : ∃ M, M = u1.heap.size := ⟨_, rfl⟩
    have hMw : w.heap.size < M := by have := S1.out; omega
    rw [← hM] at R2 ⊢
    clear hM R1 B1 S1
    go_loopw [13] (fun i wr => ∃ k : Nat, k ≤ 64 ∧ i = .int .i64 k ∧ (s.data.toList.take k).all digB = true ∧ Row wr w.heap.size 31 (bytes O) ∧ Row wr M 31 (bytes (nibs s.data.toList k)) ∧ Below w.heap.size w wr) (fun i _ => 64 - (intOf i).toNat)
    case atStart => exact ⟨0, by omega, by kernel_rfl, rfl, Q2.out, by rw [nibs_zero, ← HO.out]; exact R2.out, B2.out⟩
    case round =>
      clear Q2 R2 B2
      obtain ⟨k, hk, rfl, hall, hq, hr, hbw⟩ := hrel
      by_cases hlt : k < 64
      · have hks : k < s.size := by rw [HN64.out]; exact hlt
        have hkS : k < s.data.toList.length := by rw [HL.out]; exact hlt
        have hSk : s.data.toList[k] = s[k] := rfl
        have hk1 : (k : Int) < 64 := by omega
        cases hdg : digit? s[k] with
        | none =>
          have hw : wordB s.data.toList = false := by
            unfold wordB
            rw [Bool.and_eq_false_iff]
            right
            rw [List.all_eq_false]
            exact ⟨s.data.toList[k], List.getElem_mem _, by rw [hSk]; unfold digB; rw [hdg]; simp⟩
          have HF : Hid (∀ u, Calls Tryd.prog 31 #[.string { data := #[48, 49, 50, 51, 52, 53, 54, 55, 56, 57, 97, 98, 99, 100, 101, 102] }, .int .u8 (s[k].toNat : Int)] u fun e w' => e = .returned (.int .i64 (-1)) ∧ u = w') := Lib.hid fun u => find_no _ hdg u
          have HW := Lib.hid hw
          have HPV := Lib.hid (HNO.out _ hw)
          have HQ := Lib.hid hq
          have HB := Lib.hid hbw
          clear hall hq hr hbw hdg hw hSk
          go_wp2_with (first
            | (go_at_call 31; (with_reducible refine (HF.out _).mono ?_); rintro e uu ⟨rfl, rfl⟩)
            | ((with_reducible refine wpBuildZeroK (bytes O) 31 HBU.out ?_ ?_); rfl)
            | ((with_reducible refine HQ.out.wpStoreK 31 (bytes O) fits_hash LO.out LO.out H1.out ?_ ?_); rfl; intro u7 r7 o7 s7; have R7 := Lib.hid r7; have O7 := Lib.hid o7; clear r7 o7 s7))
          refine bodyPost_ret (R7.out.result2 rfl _ _ rfl Tryd.underlying31 rfl (by rw [LO.out]; exact fits_hash.size)) rfl ⟨by rw [HPV.out, HW.out]; rfl, HB.out.trans (O7.out.below (Nat.le_refl _) HB.out.size)⟩
        | some v =>
          obtain ⟨q, hqq⟩ : ∃ q, k / 2 = q := ⟨_, rfl⟩
          have hnl := nibs_length s.data.toList k
          have hqn : q < (nibs s.data.toList k).length := by rw [hnl]; omega
          obtain ⟨x, hx⟩ : ∃ x, (nibs s.data.toList k)[q] = x := ⟨_, rfl⟩
          obtain ⟨z, hz⟩ : ∃ z, z = UInt8.ofNat v := ⟨_, rfl⟩
          obtain ⟨y, hy⟩ : ∃ y, x <<< 4 = y := ⟨_, rfl⟩
          have hdv : dv s.data.toList[k] = v := by unfold dv; rw [hSk, hdg]; rfl
          have hst : nibs s.data.toList (k + 1) = (nibs s.data.toList k).set q (y ||| z) := by
            rw [← hy, ← hx, hz, ← hdv]
            subst hqq
            exact nibs_step s.data.toList k hkS hqn
          have hcell : wr.cell? ⟨M, q, none⟩ = some (.int .u8 (x.toNat : Int)) := by rw [hr.cell, bytes_get _ _ hqn, hx]
          have hfr := hr.frozen q
          have hset := hr.set q (.int .u8 ((y ||| z).toNat : Int))
          rw [bytes_set, ← hst] at hset
          have HSET := Lib.hid hset
          have HQ := Lib.hid (hq.far ⟨M, q, none⟩ (.int .u8 ((y ||| z).toNat : Int)) (by show w.heap.size ≠ M; omega))
          have HB := Lib.hid (hbw.setCell (p := ⟨M, q, none⟩) (by show w.heap.size ≤ M; omega) (.int .u8 ((y ||| z).toNat : Int)))
          have HALL : Hid ((s.data.toList.take (k + 1)).all digB = true) := Lib.hid (by
            rw [List.take_succ_eq_append_getElem hkS, List.all_append, hall, hSk]
            simp [digB, hdg])
          have HF : Hid (∀ u, Calls Tryd.prog 31 #[.string { data := #[48, 49, 50, 51, 52, 53, 54, 55, 56, 57, 97, 98, 99, 100, 101, 102] }, .int .u8 (s[k].toNat : Int)] u fun e w' => e = .returned (.int .i64 (z.toNat : Int)) ∧ u = w') := Lib.hid fun u => find_yes _ z v hdg hz u
          have hsh := nib_step x
          rw [hy] at hsh
          have hor := or_u8 y z
          have hz8 := z.toNat_lt
          have hzm : (z.toNat : Int) % (256 : Int) = (z.toNat : Int) := by omega
          have hz0 : ¬ (z.toNat : Int) < 0 := by omega
          have e1 : (k : Int) / 2 = (q : Int) := by omega
          have hq1 : (q : Int) < 32 := by omega
          have hq2 : q < 32 := by omega
          clear hall hq hr hbw hdg hSk hset hst hdv hx hy hz hqq hnl hqn hz8
          go_wp2_with (first
            | (go_at_call 31; (with_reducible refine (HF.out _).mono ?_); rintro e uu ⟨rfl, rfl⟩))
          go_roundw
          case rel => exact ⟨k + 1, by omega, by go_num, HALL.out, HQ.out, HSET.out, HB.out⟩
          case measure => simp [intOf]; omega
      · have ek : k = 64 := by omega
        rw [ek] at hall hr
        have hw : wordB s.data.toList = true := by
          unfold wordB
          rw [HL.out, decide_eq_true rfl, Bool.true_and]
          rwa [List.take_of_length_le (by rw [HL.out]; omega)] at hall
        obtain ⟨V, hV⟩ : ∃ V, V = nibs s.data.toList 64 := ⟨_, rfl⟩
        rw [← hV] at hr
        have HPV : Hid (parseV s.data.toList = V) := Lib.hid (by rw [parseV, hw, hV]; rfl)
        have LV : Hid ((bytes V).length = 32) := Lib.hid (by rw [bytes_length, hV, nibs_length])
        have HV1 : Hid ((bytes V).all (·.oneCell') = true) := Lib.hid (bytes_one _)
        have HW := Lib.hid hw
        have HQ := Lib.hid hq
        have HR := Lib.hid hr
        have HB := Lib.hid hbw
        clear hall hq hr hbw hw hV ek
        go_wp2_with (first
          | ((with_reducible refine HR.out.wpLoadK 31 fits_hash LV.out ?_ ?_); rfl)
          | ((with_reducible refine HQ.out.wpStoreK 31 (bytes V) fits_hash LO.out LV.out HV1.out ?_ ?_); rfl; intro u7 r7 o7 s7; have R7 := Lib.hid r7; have O7 := Lib.hid o7; clear r7 o7 s7))
        refine bodyPost_ret (R7.out.result2 rfl _ _ rfl Tryd.underlying31 rfl (by rw [LV.out]; exact fits_hash.size)) rfl ⟨by rw [HPV.out, HW.out]; rfl, HB.out.trans (O7.out.below (Nat.le_refl _) HB.out.size)⟩
  · have hw : wordB s.data.toList = false := by
      unfold wordB
      rw [Bool.and_eq_false_iff]
      left
      rw [size_list]
      simpa using h64
    have hne : ((s.size : Int) != 64) = true := by simp; omega
    have HW := Lib.hid hw
    have HPV := Lib.hid (HNO.out _ hw)
    clear hw h64
    go_enter Tryd.func20, Tryd.ntmps20
    go_wp2_with (first
      | ((with_reducible refine wpAllocK (w := w) (bytes O) 31 HZ.out ?_ ?_); rfl; intro u1 r1 b1 s1; have R1 := Lib.hid r1; have B1 := Lib.hid b1; have S1 := Lib.hid s1; clear r1 b1 s1)
      | ((with_reducible refine wpAllocK (w := u1) (bytes O) 31 HZ.out ?_ ?_); rfl; intro u2 r2 b2 s2; have B2 : Hid (Below w.heap.size w u2) := Lib.hid (B1.out.next b2); have Q2 := Lib.hid (R1.out.step b2); clear r2 b2 s2)
      | ((with_reducible refine wpBuildZeroK (bytes O) 31 HBU.out ?_ ?_); rfl)
      | ((with_reducible refine Q2.out.wpStoreK 31 (bytes O) fits_hash LO.out LO.out H1.out ?_ ?_); rfl; intro u7 r7 o7 s7; have R7 := Lib.hid r7; have O7 := Lib.hid o7; clear r7 o7 s7))
    refine bodyPost_ret (R7.out.result2 rfl _ _ rfl Tryd.underlying31 rfl (by rw [LO.out]; exact fits_hash.size)) rfl ⟨by rw [HPV.out, HW.out]; rfl, B2.out.trans (O7.out.below (Nat.le_refl _) B2.out.size)⟩

end Go.Proofs.YtbehbefijiaehaaDoor
