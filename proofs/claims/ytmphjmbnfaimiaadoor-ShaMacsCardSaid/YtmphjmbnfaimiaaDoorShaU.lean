/- Contract of the document's primes. -/
import Derived.Test.YtmphjmbnfaimiaaDoorShaL
import Derived.Test.YtmphjmbnfaimiaaDoorShaRef
namespace Go.Proofs.YtmphjmbnfaimiaaDoor
open Go.RowKit ShaMath

theorem sha_one_int : One Tryd.prog 3 := One.of (by kernel_rfl)
/-- Numbers as values. -/
def sha_nats (l : List Nat) : List Value := l.map fun n : Nat => Value.int .i64 (n : Int)
theorem sha_nats_length (l : List Nat) : (sha_nats l).length = l.length := by simp [sha_nats]
theorem sha_nats_get (l : List Nat) (j : Nat) (h : j < l.length) : (sha_nats l)[j]? = some (.int .i64 (l[j] : Int)) := by simp [sha_nats, h]
theorem sha_nats_snoc (l : List Nat) (n : Nat) : sha_nats (l ++ [n]) = sha_nats l ++ [.int .i64 (n : Int)] := by simp [sha_nats]
/-- Does none of these divide n? -/
def freeB (l : List Nat) (n : Nat) : Bool := l.all fun p => n % p != 0
theorem sieve_pos (m : Nat) : ∀ p ∈ sieve m, 2 ≤ p ∧ p < m := by
  induction m with
  | zero => intro p hp; cases hp
  | succ m ih =>
    intro p hp
    rw [sieve] at hp
    split at hp
    · rename_i h
      rw [List.mem_append] at hp
      rcases hp with hp | hp
      · have := ih p hp; omega
      · rw [List.mem_singleton] at hp; omega
    · have := ih p hp; omega
theorem sieve_le (m : Nat) (h : m ≤ 312) : (sieve m).length ≤ 64 := by
  by_cases e : m = 312
  · rw [e, sieve_length]; omega
  · have := sieve_lt m (by omega); omega

set_option maxHeartbeats 2000000 in
theorem primes_any (w : World) :
    Calls Tryd.prog 20 #[] w fun e w' => ∃ v, e = .returned v ∧ w'.ownsRow w.heap.size 3 1 v 64 (sha_nats (sieve 312)) ∧ Below w.heap.size w w' := by
  go_enter Tryd.func20, Tryd.ntmps20
  go_wp2
  have hown0 : (w.alloc (.cells #[] 3)).ownsRow w.heap.size 3 1 (.slice (some ⟨w.heap.size, 0, none⟩) 0 0) (sieve 2).length (sha_nats (sieve 2)) := by
    have h1 : Row (w.alloc (.cells #[] 3)) w.heap.size 3 ([] ++ []) := Row.new w _ []
    exact h1.owns (base := w.heap.size) (n := 0) (cap := 0) (Nat.le_refl _) rfl rfl (by omega) (by unfold maxLen; omega)
  have HOWN := Lib.hid hown0
  have HB := Lib.hid (alloc_below w (.cells #[] 3))
  clear hown0
  go_loopw [2, 1] (fun i v wr => ∃ m : Nat, 2 ≤ m ∧ m ≤ 312 ∧ i = .int .i64 m ∧ wr.ownsRow w.heap.size 3 1 v (sieve m).length (sha_nats (sieve m)) ∧ Below w.heap.size w wr) (fun i _ _ => 312 - (intOf i).toNat)
  case atStart => exact ⟨2, by omega, by omega, rfl, HOWN.out, HB.out⟩
  case round =>
    clear HOWN HB
    obtain ⟨m, hm2, hm, rfl, hown, hbw⟩ := hrel
    obtain ⟨l, hl⟩ : ∃ l, sieve m = l := ⟨_, rfl⟩
    have hpos := sieve_pos m
    have hstep : sieve (m + 1) = if freeB l m = true then l ++ [m] else l := by
      rw [sieve, hl]
      by_cases hf : freeB l m = true
      · rw [if_pos hf, if_pos ⟨hm2, hf⟩]
      · rw [if_neg hf, if_neg (fun h => hf h.2)]
    have hle := sieve_le m hm
    rw [hl] at hown hpos hle
    by_cases hlt : m < 312
    · have hl64 : l.length < 64 := by rw [← hl]; exact sieve_lt m hlt
      obtain ⟨ad, cap, rfl, hlies⟩ := own_form hown
      have HOWN := Lib.hid hown
      have HBW := Lib.hid hbw
      have HST := Lib.hid hstep
      have HPOS := Lib.hid hpos
      have HLIES := Lib.hid hlies
      clear hown hbw hl hpos hstep hlies hle
      go_wp2
      go_loop [4, 3] (fun i t => ∃ j : Nat, j ≤ l.length ∧ i = .int .i64 j ∧ t = .bool (freeB (l.take j) m)) (fun i _ => l.length - (intOf i).toNat)
      case atStart => exact ⟨0, by omega, rfl, rfl⟩
      case round =>
        obtain ⟨j, hj, rfl, rfl⟩ := hrel
        by_cases hjl : j < l.length
        · have hfs : freeB (l.take (j + 1)) m = (freeB (l.take j) m && (m % l[j] != 0)) := by
            rw [List.take_succ_eq_append_getElem hjl, freeB, freeB, List.all_append]
            simp
          have hp2 := (HPOS.out l[j] (List.getElem_mem _)).1
          obtain ⟨bl, off, hb, _, hc⟩ := HLIES.out (by rw [sha_nats_length]; omega)
          subst hb
          have hcell : wr.cell? ⟨bl, off + j, none⟩ = some (.int .i64 (l[j] : Int)) := hc j _ (sha_nats_get l j hjl)
          obtain ⟨p, hp⟩ : ∃ p, l[j] = p := ⟨_, rfl⟩
          rw [hp] at hfs hp2 hcell
          obtain ⟨r, hr⟩ : ∃ r, m % p = r := ⟨_, rfl⟩
          rw [hr] at hfs
          have e1 : (m : Int) % (p : Int) = (r : Int) := by rw [← hr]; exact (Int.natCast_emod m p).symm
          have e1t : (m : Int).tmod (p : Int) = (r : Int) := by rw [Int.tmod_eq_emod_of_nonneg (by omega)]; exact e1
          have hp3 : (2 : Int) ≤ (p : Int) := by omega
          have hp4 : ((p : Int) == 0) = false := by simp; omega
          have hp5 : ¬ (p : Int) = 0 := by omega
          have hr2 : ((r : Int) != 0) = (r != 0) := by
            rw [Bool.eq_iff_iff]
            simp
          have HFS := Lib.hid hfs
          clear hfs hc hp hr
          by_cases hf : freeB (l.take j) m = true
          · rw [hf] at HFS ⊢
            clear hf
            by_cases hr0 : r = 0
            · have hr3 : ((r : Int) != 0) = false := by simp [hr0]
              have HF2 : Hid (freeB (l.take (j + 1)) m = false) := Lib.hid (by rw [HFS.out, hr0]; rfl)
              clear hr0 hr2
              go_wp2
              go_round
              case rel => exact ⟨j + 1, by omega, by go_num, by rw [HF2.out]⟩
              case measure => simp [intOf]; omega
            · have hr3 : ((r : Int) != 0) = true := by simp; omega
              have HF2 : Hid (freeB (l.take (j + 1)) m = true) := Lib.hid (by rw [HFS.out]; simp [hr0])
              clear hr0 hr2
              go_wp2
              go_round
              case rel => exact ⟨j + 1, by omega, by go_num, by rw [HF2.out]⟩
              case measure => simp [intOf]; omega
          · have hf2 : freeB (l.take j) m = false := by simpa using hf
            rw [hf2] at HFS ⊢
            have HF2 : Hid (freeB (l.take (j + 1)) m = false) := Lib.hid (by rw [HFS.out]; rfl)
            clear hf hf2 hr2
            go_wp2
            go_round
            case rel => exact ⟨j + 1, by omega, by go_num, by rw [HF2.out]⟩
            case measure => simp [intOf]; omega
        · have ej : l.take j = l := List.take_of_length_le (by omega)
          rw [ej]
          clear ej
          by_cases hf : freeB l m = true
          · rw [hf]
            have HS2 : Hid (sieve (m + 1) = l ++ [m]) := Lib.hid (by rw [HST.out, if_pos hf])
            have HOW2 := Lib.hid (HOWN.out.alloc (.cells #[.int .i64 (m : Int)] 3))
            have HL2 : Hid (Lies (wr.alloc (.cells #[.int .i64 (m : Int)] 3)) (wr.alloc (.cells #[.int .i64 (m : Int)] 3)).heap.size (some ⟨wr.heap.size, 0, none⟩) [.int .i64 (m : Int)]) := Lib.hid (Lies.new [_] _ _)
            have HBW2 := Lib.hid (HBW.out.alloc HBW.out.size (.cells #[.int .i64 (m : Int)] 3))
            have HO1 : Hid ((Value.int .i64 (m : Int)).oneCell' = true) := Lib.hid rfl
            have HPK : Big (l.length + 1 ≤ 1099511627776) := ⟨by omega⟩
            have HOL : Hid (∀ j, (Value.slice ad l.length cap).ownBlock = some j → w.heap.size ≤ j) := Lib.hid fun j hj => (HOWN.out.lt j hj).1
            have HZ2 := Lib.hid HBW2.out.size
            clear hf
            go_wp2_with (first
              | ((with_reducible refine wpAppend1K HOW2.out Tryd.underlying25 sha_one_int HL2.out HO1.out HPK HZ2.out ?_ ?_); rfl; intro v1 w1 g1 g2 g3; have HV1 := Lib.hid g1; have HG1 := Lib.hid g2; clear g1 g2 g3))
            go_roundw
            case rel => exact ⟨m + 1, by omega, by omega, by go_num, by rw [HS2.out, sha_nats_snoc, List.length_append]; exact HV1.out, HBW2.out.grown HG1.out HBW2.out.size HOL.out⟩
            case measure => simp [intOf]; omega
          · have hf2 : freeB l m = false := by simpa using hf
            rw [hf2]
            have HS2 : Hid (sieve (m + 1) = l) := Lib.hid (by rw [HST.out, if_neg hf])
            clear hf hf2
            go_wp2
            go_roundw
            case rel => exact ⟨m + 1, by omega, by omega, by go_num, by rw [HS2.out]; exact HOWN.out, HBW.out⟩
            case measure => simp [intOf]; omega
    · have em : m = 312 := by omega
      have hl64 : l.length = 64 := by rw [← hl, em, sieve_length]
      obtain ⟨ad, cap, rfl, hlies⟩ := own_form hown
      have hcond : (l.length : Int) = 64 := by omega
      have HOWN : Hid (wr.ownsRow w.heap.size 3 1 (.slice ad l.length cap) 64 (sha_nats (sieve 312))) := Lib.hid (by rw [← em, hl]; rw [← hl64]; exact hown)
      have HBW := Lib.hid hbw
      clear hown hbw hl hpos hstep hlies hle em
      go_wp2
      go_ret
      exact ⟨_, rfl, HOWN.out, HBW.out⟩

end Go.Proofs.YtmphjmbnfaimiaaDoor
